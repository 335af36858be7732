import Derived.BigQuiet
import Derived.ChangeKeysEq
import Derived.Deep.OwnRows
import Derived.Deep.QuietTactic
import Derived.Deep.WholeRow
import Derived.Laws.CopyOwn
import Derived.Laws.ResultCell
import Derived.Laws.Rows
import Derived.Laws.StructEq
import Derived.Outline
import Derived.Test.YtbcjmakpempkiaaGreatDoorRows
import Derived.WalkKit
set_option maxRecDepth 100000
set_option maxHeartbeats 8000000
set_option linter.all false
namespace Go.Proofs.YtbcjmakpempkiaaGreatDoor
def pw(x:Int):Nat:=2^(11 - x.toNat)
def wt(l:List Int):Nat:=(l.map pw).sum
def dist(n k j:Nat):Nat:=if k<=j then j - k else j+n - k
open Go.RowKit
def yuc(x:Int):Bool:=decide (0<=x∧x<=11)
def inRange(l:List Int):Bool:=l.all yuc
def xin(w:World)(ad:Option Addr)(l:List Int):Prop:=∀ k,k<l.length->∃ b o,ad=some ⟨b,o,none⟩∧b<w.heap.size∧w.cell? ⟨b,o+k,none⟩=some (.int .i64 (l.getD k 0))
theorem xin.at{w:World}{ad:Option Addr}{l:List Int}(h:xin w ad l){k:Nat}(hk:k<l.length):∃ b o x,ad=some ⟨b,o,none⟩∧w.cell? ⟨b,o+k,none⟩=some (.int .i64 x)∧Hid (l[k]=x):=by
 obtain ⟨b,o,e,_,hc⟩:=h k hk;exact ⟨b,o,l[k],e,by rw [hc];simp [hk],show l[k]=l[k] from rfl⟩
def arr(f:Nat->Int):Array Value:=#[.int .i64 (f 0), .int .i64 (f 1), .int .i64 (f 2), .int .i64 (f 3), .int .i64 (f 4), .int .i64 (f 5), .int .i64 (f 6), .int .i64 (f 7), .int .i64 (f 8), .int .i64 (f 9), .int .i64 (f 10), .int .i64 (f 11)]
theorem xp7(f:Nat->Int):(arr f).size=12:=rfl
theorem zge(f:Nat->Int)(i:Nat)(h:i<12):(arr f)[i]?=some (.int .i64 (f i)):=by
 have:i=0∨i=1∨i=2∨i=3∨i=4∨i=5∨i=6∨i=7∨i=8∨i=9∨i=10∨i=11:=by omega
 rcases this with rfl | rfl | rfl | rfl | rfl | rfl | rfl | rfl | rfl | rfl | rfl | rfl <;> rfl
theorem vdk{w:World}{b T:Nat}{f:Nat->Int}(h:w.rowIs b T 12 (fun j=> .int .i64 (f j))):w.heap[b]?=some (.cells (arr f) T (0,0)):=by
 obtain ⟨c,hb,hn,hc⟩:=h;have:c=arr f:=by
  apply Array.ext_getElem?;intro i;by_cases hi:i<12
  ·rw [hc i hi,zge f i hi]
  ·rw [Array.getElem?_eq_none (by omega),Array.getElem?_eq_none (by rw [xp7];omega)]
 rw [hb,this]
theorem kdi(T:Nat)(w:World)(f:Nat->Int):(w.alloc (.cells (arr f) T)).rowIs w.heap.size T 12 (fun j=> .int .i64 (f j)):=
 World.rowIs_alloc w (arr f) T _ (fun i hi=>zge f i (by simpa [xp7] using hi))
theorem yui(f:Nat->Int):(arr f).all (·.oneCell')=true:=by simp [arr,Value.oneCell']
theorem xz2(f:Nat->Int):(Tryz.prog.info? 197).map (·.size)=some (arr f).size:=by kernel_rfl
theorem zvc(f:Nat->Int):(Tryz.prog.info? 199).map (·.size)=some (arr f).size:=by kernel_rfl
def cn(l:List Int)(j:Nat):Int:=((l.filter (fun x=>decide (0<x) && x==(j:Int))).length:Int)
theorem j3h(j:Nat):cn [] j=0:=rfl
theorem v4o(l:List Int)(j:Nat):0<=cn l j:=by unfold cn;omega
theorem kc7(l:List Int)(j:Nat):cn l j<=l.length:=by
 unfold cn;have:=List.length_filter_le (fun x=>decide (0<x) && x==(j:Int)) l;omega
theorem vuc(l:List Int)(x:Int)(j:Nat):cn (l++[x]) j=cn l j+if 0<x∧x=j then 1 else 0:=by
 unfold cn;rw [List.filter_append];by_cases h:0<x∧x=(j:Int)
 ·have:(decide (0<x) && x==(j:Int))=true:=by simp [h.2];omega
  rw [if_pos h,List.filter_cons,this];simp
 ·have:(decide (0<x) && x==(j:Int))=false:=by
   rw [Bool.eq_false_iff];intro h';simp at h';exact h ⟨h'.1,h'.2⟩
  rw [if_neg h,List.filter_cons,this];simp
theorem ysp{l:List Int}{k:Nat}(hk:k<l.length)(j:Nat):cn (l.take (k+1)) j=cn (l.take k) j+if 0<l[k]∧l[k]=j then 1 else 0:=by
 rw [List.take_succ_eq_append_getElem hk,vuc]
theorem j96{B:Nat}{w w':World}{b t n:Nat}{f:Nat->Value}(h:w.rowIs b t n f)(hb:Below B w w')(hlt:b<B):w'.rowIs b t n f:=h.of_block (hb.block b hlt)
theorem z3a{l:List Int}(hr:inRange l=true){k:Nat}(hk:k<l.length):∃ n:Nat,n<=11∧l[k]=(n:Int):=by
 have:=List.all_eq_true.1 hr l[k] (List.getElem_mem hk);simp [yuc] at this;exact ⟨l[k].toNat,by omega,by omega⟩
theorem xin.atNat{w:World}{ad:Option Addr}{l:List Int}(h:xin w ad l)(hr:inRange l=true){k:Nat}(hk:k<l.length):∃ (b o n:Nat),ad=some ⟨b,o,none⟩∧w.cell? ⟨b,o+k,none⟩=some (.int .i64 n)∧n<=11∧Hid (l[k]=(n:Int)):=by
 obtain ⟨n,hn,e⟩:=z3a hr hk;obtain ⟨b,o,e2,_,hc⟩:=h k hk;exact ⟨b,o,n,e2,by rw [hc];simp [hk,e],hn,e⟩
theorem xin.below{B:Nat}{w w':World}{ad:Option Addr}{l:List Int}(h:xin w ad l)(hb:Below B w w')(hB:w.heap.size<=B):xin w' ad l:=fun k hk=>by
 obtain ⟨b,o,e,hlt,hc⟩:=h k hk;exact ⟨b,o,e,Nat.lt_of_lt_of_le hlt hb.size,by rw [hb.cell (by show b<B;omega),hc]⟩
theorem xin.same{w w':World}{ad:Option Addr}{l:List Int}(h:xin w ad l)(hb:w'.heap=w.heap):xin w' ad l:=fun k hk=>by
 obtain ⟨b,o,e,hlt,hc⟩:=h k hk;exact ⟨b,o,e,by rw [hb];exact hlt,by rw [World.cell?_of_block (w:=w) (by rw [hb]),hc]⟩
theorem z5t{wr:World}{g T:Nat}{l:List Int}{k n:Nat}(hlt:k<l.length)(hx:l[k]=(n:Int))(hn:0<n)(h:wr.rowIs g T 12 (fun j=> .int .i64 (cn (l.take k) j))) :
  (wr.setCell ⟨g,n,none⟩ (.int .i64 (cn (l.take k) n+1))).rowIs g T 12 (fun j=> .int .i64 (cn (l.take (k+1)) j)):=by
 refine (h.set n _).congr fun i _=>?_
 rw [ysp hlt,hx];by_cases e:i=n
 ·subst e;rw [if_pos rfl,if_pos ⟨by omega,rfl⟩]
 ·rw [if_neg e,if_neg (by omega)];simp
theorem jbc{wr:World}{g T:Nat}{l:List Int}{k:Nat}(hlt:k<l.length)(hx:l[k]=0)(h:wr.rowIs g T 12 (fun j=> .int .i64 (cn (l.take k) j))) :
  wr.rowIs g T 12 (fun j=> .int .i64 (cn (l.take (k+1)) j)):=by
 refine h.congr fun i _=>?_
 rw [ysp hlt,hx];simp
theorem v5q(ad:Option Addr)(cap:Nat)(l:List Int)(w:World)(hl:l.length<=1000000)(hc:xin w ad l)(hr:inRange l=true) :
  Calls Tryz.prog 114 #[.slice ad l.length cap] w fun e w'=>e= .returned (.agg (arr (cn l)))∧Below w.heap.size w w':=by
 go_enter Tryz.func114,Tryz.ntmps114
 go_wp2
 go_loopw [8] (fun i wr=>∃ k:Nat,k<=l.length∧i= .int .i64 k∧wr.rowIs (w.heap.size+1) 199 12 (fun j=> .int .i64 (cn (l.take k) j))∧wr.rowIs w.heap.size 199 12 (fun _=> .int .i64 0)∧Below w.heap.size w wr) (fun i _=>l.length - (intOf i).toNat)
 case atStart=>
  refine ⟨0,Nat.zero_le _,rfl,?_,?_,((Below.refl _ _).alloc (Nat.le_refl _) _).alloc (by simp) _⟩
  ·have:=kdi 199 (w.alloc (.cells (arr (fun _=>0)) 199)) (fun _=>0);simpa [j3h,arr] using this
  ·have:=(kdi 199 w (fun _=>0)).alloc (.cells (arr (fun _=>0)) 199);simpa [arr] using this
 case round=>
  obtain ⟨k,hk,rfl,hrow,hres,hbel⟩:=hrel;by_cases hlt:k<l.length
  ·obtain ⟨b,o,n,rfl,g,hn,hx⟩:=(hc.below hbel (Nat.le_refl _)).atNat hr hlt;have hcn0:=v4o (l.take k) n;have hcn1:cn (l.take k) n<=1000000:=by
    have:=kc7 (l.take k) n;have:=List.length_take_le k l;omega
   have g1:=hrow.cell (i:=n) (by omega);have g2:=hrow.frozen n;by_cases hpos:0<n
   ·have R:=z5t hlt hx.out hpos hrow;have R2:=hres.setOther (a:=⟨w.heap.size+1,n,none⟩) (by simp) (.int .i64 (cn (l.take k) n+1));have R3:=hbel.setCell (p:=⟨w.heap.size+1,n,none⟩) (by simp) (.int .i64 (cn (l.take k) n+1));go_wp2
    go_roundw
    case rel=>exact ⟨k+1,by omega,by go_num,R,R2,R3⟩
    case measure=>simp [intOf];omega
   ·obtain rfl:n=0:=by omega
    have R:=jbc hlt hx.out hrow;go_wp2
    go_roundw
    case rel=>exact ⟨k+1,by omega,by go_num,R,hres,hbel⟩
    case measure=>simp [intOf];omega
  ·rw [List.take_of_length_le (by omega)] at hrow;have h1:=vdk hrow;have h2:=vdk (f:=fun _=>0) hres;go_wp2_with (first | refine wpList_load_row rfl 199 _ rfl _ rfl 199 _ _ _ h1 Tryz.underlying199 rfl (zvc _) ?_ | refine wpList_store_row rfl 199 _ _ rfl _ _ rfl rfl 199 _ h2 (zvc _) rfl (yui _) ?_)
   refine bodyPost_ret (v:= .agg (arr (cn l))) ?_ ?_ ?_
   ·exact results_cell_row Tryz.results114 _ _ _ 199 _ _ _ rfl (setRow_heap _ _ _ _ 199 _ h2) Tryz.underlying199 rfl (zvc _)
   ·rfl
   ·exact ⟨rfl,below_setRow hbel (Nat.le_refl _) _⟩
theorem idx(f:Nat->Int)(k:Nat)(hk:k<12)(w:World):(Instr.index 197 (.agg (arr f)) (.int .i64 k)).run Tryz.prog w= .ok (.int .i64 (f k)) w:=by
 have:=zge f k hk;simp [Instr.index,go_sem,this,hk]
def shr(f:Nat->Int):Nat->Int
 | 0=>0
 | k+1=>shr f k+f k*2^(11 - k)
theorem xht(k:Nat):(0:Int)<2^(11 - k)∧(2:Int)^(11 - k)<=2048:=by
 have h:11 - k<=11:=by omega
 generalize 11 - k=m at *;have:m=0∨m=1∨m=2∨m=3∨m=4∨m=5∨m=6∨m=7∨m=8∨m=9∨m=10∨m=11:=by omega
 rcases this with rfl | rfl | rfl | rfl | rfl | rfl | rfl | rfl | rfl | rfl | rfl | rfl <;> decide
theorem yzo{x:Int}(h0:0<=x)(h1:x<=1000000)(k:Nat):0<=x*2^(11 - k)∧x*2^(11 - k)<=2048000000:=by
 have ⟨a,b⟩:=xht k;exact ⟨Int.mul_nonneg h0 (by omega),Int.le_trans (Int.mul_le_mul h1 b (by omega) (by omega)) (by decide)⟩
theorem z3i(f:Nat->Int)(hf:∀ j,j<12->0<=f j∧f j<=1000000)(k:Nat)(hk:k<=12):0<=shr f k∧shr f k<=2048000000*k:=by
 induction k with
 | zero=>exact ⟨by simp [shr],by simp [shr]⟩
 | succ k ih=>
  have ⟨a,b⟩:=ih (by omega);have ⟨c,d⟩:=hf k (by omega);have ⟨e,g⟩:=yzo c d k;simp only [shr];omega
theorem koc(f:Nat->Int)(hf:∀ j,j<12->0<=f j∧f j<=1000000)(k:Nat)(hk:k<12):wrap64 (shr f k+wrap64 (f k*2^(11 - k)))=shr f (k+1):=by
 have ⟨a,b⟩:=z3i f hf k (by omega);have ⟨c,d⟩:=hf k hk;have ⟨e,g⟩:=yzo c d k;rw [IntWalk.wrap64_in (f k*2^(11 - k)) ⟨by omega,by omega⟩,IntWalk.wrap64_in _ ⟨by omega,by omega⟩];rfl
theorem xni(f:Nat->Int)(w:World)(hf:∀ j,j<12->0<=f j∧f j<=1000000) :
  Calls Tryz.prog 115 #[.agg (arr f)] w fun e w'=>e= .returned (.bool (shr f 12==2048))∧Below w.heap.size w w':=by
 go_enter Tryz.func115,Tryz.ntmps115
 go_wp2_with (refine wpList_load_row rfl 197 _ rfl _ rfl 199 (arr f) (0,0) _ (heap_alloc_new _ _) Tryz.underlying197 rfl (xz2 _) ?_)
 go_loop [3,8] (fun s i=>∃ k:Nat,k<=12∧i= .int .i64 k∧s= .int .i64 (shr f k)) (fun _ i=>12 - (intOf i).toNat)
 case atStart=>exact ⟨0,Nat.zero_le _,rfl,rfl⟩
 case round=>
  obtain ⟨k,hk,rfl,rfl⟩:=hrel;by_cases hlt:k<12
  ·have hi:=idx f k hlt;have HS:Hid (wrap64 (shr f k+wrap64 (f k*2^(11 - k)))=shr f (k+1)):=koc f hf k hlt;go_wp2
   go_round
   case rel=>exact ⟨k+1,by omega,by go_num,by rw [HS.out]⟩
   case measure=>simp [intOf];omega
  ·obtain rfl:k=12:=by omega
   go_wp2
   go_ret
   exact ⟨rfl,(Below.refl _ _).alloc (Nat.le_refl _) _⟩
def one(j:Nat):Int:=if j=1 then 1 else 0
def y1y(f:Nat->Int):Bool:=(List.range 12).all fun i=>f i==one i
theorem vl6(f:Nat->Int)(i:Nat)(hi:i<12)(w:World):(part 3 (arr f) (i*Tryz.prog.cellsOf 3)).run Tryz.prog w= .ok (.int .i64 (f i)) w:=by
 have hc:Tryz.prog.cellsOf 3=1:=by kernel_rfl
 have:=zge f i hi;simp [part,hc,go_sem,this]
theorem xj3(d:Nat)(f g:Nat->Int)(w:World):∀ is:List Nat,(∀ i∈is,i<12)->(Op.eqItems (d+1) 3 (Tryz.prog.cellsOf 3) (arr f) (arr g) is).run Tryz.prog w= .ok (is.all fun i=>f i==g i) w
 | [],_=>by simp [Op.eqItems]
 | i :: is,h=>by
  have hi:=h i (by simp);have ih:=xj3 d f g w is (fun j hj=>h j (by simp [hj]));simp only [Op.eqItems,Sem.run_bind,vl6 f i hi,vl6 g i hi,Result.andThen_ok,run_equalIn_int w d 3 .i64 .i64 (f i) (g i) Tryz.underlying3];by_cases e:f i=g i
  ·simp [e,ih]
  ·simp [e]
theorem yaa(f:Nat->Int)(w:World):(Op.equalIn 10000 197 (.agg (arr f)) (.agg #[.int .i64 0, .int .i64 1, .int .i64 0, .int .i64 0, .int .i64 0, .int .i64 0, .int .i64 0, .int .i64 0, .int .i64 0, .int .i64 0, .int .i64 0, .int .i64 0])).run Tryz.prog w= .ok (y1y f) w:=by
 have hz:=Tryz.sizeOf3;obtain ⟨i,hi⟩:∃ i,Tryz.prog.info? 3=some i:=by
  cases h:Tryz.prog.info? 3 with
  | none=>
    have:(Tryz.prog.info? 3).isSome=true:=by kernel_rfl
    simp [h] at this
  | some i=>exact ⟨i,rfl⟩
 have e:(#[.int .i64 0, .int .i64 1, .int .i64 0, .int .i64 0, .int .i64 0, .int .i64 0, .int .i64 0, .int .i64 0, .int .i64 0, .int .i64 0, .int .i64 0, .int .i64 0]:Array Value)=arr one:=rfl;rw [e,show (10000:Nat)=9999+1 from rfl,run_equalIn_array w 9999 _ _ Tryz.underlying197 hi];exact xj3 9998 f one w (List.range 12) (fun i hi=>by simpa using hi)
theorem jvc(f:Nat->Int)(w:World) :
  Calls Tryz.prog 116 #[.agg (arr f)] w fun e w'=>e= .returned (.bool (y1y f))∧Below w.heap.size w w':=by
 have he:=yaa f;go_enter Tryz.func116,Tryz.ntmps116
 go_wp2_with (refine wpList_load_row rfl 197 _ rfl _ rfl 199 (arr f) (0,0) _ (heap_alloc_new _ _) Tryz.underlying197 rfl (xz2 _) ?_)
 go_ret
 exact ⟨rfl,(Below.refl _ _).alloc (Nat.le_refl _) _⟩
def fc(f:Nat->Int):Nat->Int
 | 0=>0
 | k+1=>(fc f k+f k)*2
theorem vav(f:Nat->Int)(hf:∀ j,j<12->0<=f j∧f j<=1000000)(k:Nat)(hk:k<=12):0<=fc f k∧fc f k<=2000000*(2^k - 1):=by
 induction k with
 | zero=>exact ⟨by simp [fc],by simp [fc]⟩
 | succ k ih=>
  have ⟨a,b⟩:=ih (by omega);have ⟨c,d⟩:=hf k (by omega);simp only [fc];rw [Int.pow_succ];omega
theorem j41(k:Nat)(hk:k<=12):(2:Int)^k<=4096:=by
 have:k=0∨k=1∨k=2∨k=3∨k=4∨k=5∨k=6∨k=7∨k=8∨k=9∨k=10∨k=11∨k=12:=by omega
 rcases this with rfl | rfl | rfl | rfl | rfl | rfl | rfl | rfl | rfl | rfl | rfl | rfl | rfl <;> decide
theorem jht(f:Nat->Int)(hf:∀ j,j<12->0<=f j∧f j<=1000000)(k:Nat)(hk:k<=12):0<=fc f k∧fc f k<=8192000000:=by
 have ⟨a,b⟩:=vav f hf k hk;have:=j41 k hk;omega
def fcTo(f:Nat->Int)(k j:Nat):Int:=if j<=k then fc f j else 0
theorem z48{wr:World}{g:Nat}{f:Nat->Int}{k:Nat}(h:wr.rowIs g 197 12 (fun j=> .int .i64 (fcTo f k j))) :
  (wr.setCell ⟨g,k+1,none⟩ (.int .i64 (fc f (k+1)))).rowIs g 197 12 (fun j=> .int .i64 (fcTo f (k+1) j)):=by
 refine (h.set (k+1) _).congr fun i _=>?_
 unfold fcTo;by_cases e:i=k+1
 ·subst e;rw [if_pos rfl,if_pos (Nat.le_refl _)]
 ·rw [if_neg e];by_cases e2:i<=k
  ·rw [if_pos e2,if_pos (by omega)]
  ·rw [if_neg e2,if_neg (by omega)]
theorem znc{wr:World}{g:Nat}{f:Nat->Int}(h:wr.rowIs g 197 12 (fun j=> .int .i64 (fcTo f 11 j))):wr.rowIs g 197 12 (fun j=> .int .i64 (fc f j)):=
 h.congr fun i hi=>by rw [fcTo,if_pos (by omega)]
theorem jgl(f:Nat->Int)(w:World)(hf:∀ j,j<12->0<=f j∧f j<=1000000) :
  Calls Tryz.prog 151 #[.agg (arr f)] w fun e w'=>e= .returned (.agg (arr (fc f)))∧Below w.heap.size w w':=by
 go_enter Tryz.func151,Tryz.ntmps151
 go_wp2
 go_loopw [4] (fun i wr=>∃ k:Nat,k<=11∧i= .int .i64 (k+1)∧wr.rowIs (w.heap.size+1+1) 197 12 (fun j=> .int .i64 (fcTo f k j))∧wr.rowIs w.heap.size 199 12 (fun j=> .int .i64 (f j))∧wr.rowIs (w.heap.size+1) 197 12 (fun _=> .int .i64 0)∧Below w.heap.size w wr) (fun i _=>12 - (intOf i).toNat)
 case atStart=>
  refine ⟨0,Nat.zero_le _,rfl,?_,?_,?_,(((Below.refl _ _).alloc (Nat.le_refl _) _).alloc (by simp) _).alloc (by simp;omega) _⟩
  ·have:=kdi 197 ((w.alloc (.cells (arr f) 199)).alloc (.cells (arr (fun _=>0)) 197)) (fun _=>0);have h2:=this.congr (g:=fun j=> .int .i64 (fcTo f 0 j)) (fun i _=>by unfold fcTo;split <;> simp_all [fc]);simpa [arr] using h2
  ·have:=((kdi 199 w f).alloc (.cells (arr (fun _=>0)) 197)).alloc (.cells (arr (fun _=>0)) 197);simpa [arr] using this
  ·have:=(kdi 197 (w.alloc (.cells (arr f) 199)) (fun _=>0)).alloc (.cells (arr (fun _=>0)) 197);simpa [arr] using this
 case round=>
  obtain ⟨k,hk,rfl,hrow,hf1,hres,hbel⟩:=hrel;by_cases hlt:k<11
  ·have g1:=hrow.cell (i:=k) (by omega);have g2:=hf1.cell (i:=k) (by omega);have g3:=hrow.cell (i:=k+1) (by omega);have g4:=hrow.frozen (k+1);have e1:fcTo f k k=fc f k:=if_pos (Nat.le_refl _);rw [e1] at g1;have ⟨b1,b2⟩:=jht f hf k (by omega);have ⟨b3,b4⟩:=hf k (by omega);clear e1;have R:(wr.setCell ⟨w.heap.size+1+1,k+1,none⟩ (.int .i64 ((fc f k+f k)*2))).drew.rowIs (w.heap.size+1+1) 197 12 (fun j=> .int .i64 (fcTo f (k+1) j)):=(z48 hrow).drew;have R1:=(hf1.setOther (a:=⟨w.heap.size+1+1,k+1,none⟩) (by simp;omega) (.int .i64 ((fc f k+f k)*2))).drew;have R2:=(hres.setOther (a:=⟨w.heap.size+1+1,k+1,none⟩) (by simp) (.int .i64 ((fc f k+f k)*2))).drew;have R3:=(hbel.setCell (p:=⟨w.heap.size+1+1,k+1,none⟩) (by simp;omega) (.int .i64 ((fc f k+f k)*2))).drew;go_wp2
   go_region
   go_wp2
   go_roundw
   case rel=>exact ⟨k+1,by omega,by go_num,R,R1,R2,R3⟩
   case measure=>simp [intOf];omega
  ·obtain rfl:k=11:=by omega
   have h1:=vdk (znc hrow);have h2:=vdk (f:=fun _=>0) hres;go_wp2_with (first | refine wpList_load_row rfl 197 _ rfl _ rfl 197 _ _ _ h1 Tryz.underlying197 rfl (xz2 _) ?_ | refine wpList_store_row rfl 197 _ _ rfl _ _ rfl rfl 197 _ h2 (xz2 _) rfl (yui _) ?_)
   refine bodyPost_ret (v:= .agg (arr (fc f))) ?_ ?_ ?_
   ·exact results_cell_row Tryz.results151 _ _ _ 197 _ _ _ rfl (setRow_heap _ _ _ _ 197 _ h2) Tryz.underlying197 rfl (xz2 _)
   ·rfl
   ·exact ⟨rfl,below_setRow hbel (by omega) _⟩
theorem ve2:(Tryz.prog.info? 3).map (fun i=>(i.zero,i.size,i.bytes))=some (some (.int .i64 0),1,8):=by kernel_rfl
def cdv(nx:Nat->Int)(l:List Int)(i:Nat):Int:=if l.getD i 0=0 then -1 else nx (l.getD i 0).toNat+cn (l.take i) (l.getD i 0).toNat
theorem j37{nx:Nat->Int}{l:List Int}{k:Nat}(hk:k<l.length)(h:l[k]=0):cdv nx l k= -1:=by
 rw [cdv,if_pos (by simp [hk,h])]
theorem xj2{nx:Nat->Int}{l:List Int}{k n:Nat}(hk:k<l.length)(h:l[k]=(n:Int))(hn:0<n):cdv nx l k=nx n+cn (l.take k) n:=by
 have e:l.getD k 0=n:=by simp [hk,h]
 rw [cdv,e,if_neg (by omega)];simp
theorem jr9{nx:Nat->Int}{l:List Int}{wr:World}{g k n:Nat}(hk:k<l.length)(hx:l[k]=(n:Int))(hn:0<n)(h:wr.rowIs g 197 12 (fun j=> .int .i64 (nx j+cn (l.take k) j))) :
  (wr.setCell ⟨g,n,none⟩ (.int .i64 (nx n+cn (l.take k) n+1))).rowIs g 197 12 (fun j=> .int .i64 (nx j+cn (l.take (k+1)) j)):=by
 refine (h.set n _).congr fun i _=>?_
 rw [ysp hk,hx];by_cases e:i=n
 ·subst e;rw [if_pos rfl,if_pos ⟨by omega,rfl⟩];congr 1;omega
 ·rw [if_neg e,if_neg (by omega)];simp
theorem zlc{nx:Nat->Int}{l:List Int}{wr:World}{g k:Nat}(hk:k<l.length)(hx:l[k]=0)(h:wr.rowIs g 197 12 (fun j=> .int .i64 (nx j+cn (l.take k) j))) :
  wr.rowIs g 197 12 (fun j=> .int .i64 (nx j+cn (l.take (k+1)) j)):=by
 refine h.congr fun i _=>?_
 rw [ysp hk,hx];simp
theorem y6y{w0 w1 w2:World}(h1:Below w0.heap.size w0 w1)(h2:Below w1.heap.size w1 w2):Below w0.heap.size w0 w2:=h1.trans (h2.mono h1.size)
theorem z7r{l:List Int}(hl:l.length<=269):∀ j,j<12->0<=cn l j∧cn l j<=1000000:=fun j _=>⟨v4o l j,by have:=kc7 l j;omega⟩
theorem jax{w:World}{g:Nat}{f:Nat->Int}(h:w.heap[g]?=some (.cells (arr f) 199 (0,0))) :
  w.cell? ⟨g,0,none⟩=some (.int .i64 (f 0))∧w.cell? ⟨g,1,none⟩=some (.int .i64 (f 1))∧w.cell? ⟨g,2,none⟩=some (.int .i64 (f 2))∧w.cell? ⟨g,3,none⟩=some (.int .i64 (f 3))∧w.cell? ⟨g,4,none⟩=some (.int .i64 (f 4))∧w.cell? ⟨g,5,none⟩=some (.int .i64 (f 5))∧w.cell? ⟨g,6,none⟩=some (.int .i64 (f 6))∧w.cell? ⟨g,7,none⟩=some (.int .i64 (f 7))∧w.cell? ⟨g,8,none⟩=some (.int .i64 (f 8))∧w.cell? ⟨g,9,none⟩=some (.int .i64 (f 9))∧w.cell? ⟨g,10,none⟩=some (.int .i64 (f 10))∧w.cell? ⟨g,11,none⟩=some (.int .i64 (f 11)):=by
 have k:=fun j=>cell_of_row w g j _ _ _ h
 exact ⟨k 0,k 1,k 2,k 3,k 4,k 5,k 6,k 7,k 8,k 9,k 10,k 11⟩
def xir(f g:Nat->Int):Nat->Int
 | 0=>0
 | k+1=>xir f g k+f k*g k
def jwa(g:Nat->Int)(l:List Int):Int:=(l.map fun x=>if 0<x then g x.toNat else 0).sum
theorem xyc(f:Nat->Int)(k:Nat):shr f k=xir f (fun j=>2^(11 - j)) k:=by
 induction k with
 | zero=>rfl
 | succ k ih=>simp [shr,xir,ih]
theorem zah(x:Int)(l:List Int)(j:Nat):cn (x :: l) j=(if 0<x∧x=j then 1 else 0)+cn l j:=by
 unfold cn;by_cases h:0<x∧x=(j:Int)
 ·have:(decide (0<x) && x==(j:Int))=true:=by simp [h.2];omega
  rw [if_pos h,List.filter_cons,this];simp;omega
 ·have:(decide (0<x) && x==(j:Int))=false:=by
   rw [Bool.eq_false_iff];intro h';simp at h';exact h ⟨h'.1,h'.2⟩
  rw [if_neg h,List.filter_cons,this];simp
theorem jrc(g:Nat->Int)(k:Nat):xir (cn []) g k=0:=by
 induction k with
 | zero=>rfl
 | succ k ih=>simp [xir,ih,j3h]
theorem kk9(x:Int)(l:List Int)(g:Nat->Int)(k:Nat):xir (cn (x :: l)) g k=(if 0<x∧x.toNat<k then g x.toNat else 0)+xir (cn l) g k:=by
 induction k with
 | zero=>simp [xir]
 | succ k ih=>
  simp only [xir,ih,zah];by_cases h:0<x∧x=(k:Int)
  ·have e:x.toNat=k:=by omega
   rw [if_neg (by omega),if_pos h,if_pos (by omega),e,Int.add_mul];omega
  ·rw [if_neg h];by_cases h2:0<x∧x.toNat<k
   ·rw [if_pos h2,if_pos (by omega)];simp;omega
   ·rw [if_neg h2,if_neg (by omega)];simp
theorem jxn(g:Nat->Int)(l:List Int)(hr:inRange l=true):xir (cn l) g 12=jwa g l:=by
 induction l with
 | nil=>simp [jrc,jwa]
 | cons x l ih=>
  simp [inRange,yuc] at hr;have hr':inRange l=true:=by simp [inRange,yuc];exact hr.2
  rw [kk9,ih hr'];simp only [jwa,List.map_cons,List.sum_cons];by_cases h:0<x
  ·rw [if_pos h,if_pos ⟨h,by omega⟩]
  ·rw [if_neg h,if_neg (by omega)]
theorem kfr(l:List Int)(hr:inRange l=true):shr (cn l) 12=jwa (fun j=>2^(11 - j)) l:=by rw [xyc,jxn _ _ hr]
theorem vto(l:List Int):inRange l=true↔∀ x∈l,0<=x∧x<=11:=by simp [inRange,yuc]
theorem ypm(g:Nat->Int)(l m:List Int):jwa g (l++m)=jwa g l+jwa g m:=by simp [jwa]
theorem jf2(f:Nat->Int):y1y f=true↔∀ j,j<12->f j=one j:=by simp [y1y]
theorem jue{f:Nat->Int}(h:y1y f=true)(g:Nat->Int):xir f g 12=g 1:=by
 have k:=(jf2 f).1 h;simp [xir,k 0,k 1,k 2,k 3,k 4,k 5,k 6,k 7,k 8,k 9,k 10,k 11,one]
theorem ks4{l:List Int}(hr:YtbcjmakpempkiaaGreatDoor.inRange l=true)(h:y1y (cn l)=true)(g:Nat->Int):jwa g l=g 1:=by rw [← jxn g l hr,jue h g]
theorem y0b(f:Nat->Int)(k:Nat)(hk:k<=11):fc f k*2^(11 - k)=shr f k:=by
 induction k with
 | zero=>simp [fc,shr]
 | succ k ih=>
  have e:(2:Int)^(11 - k)=2*2^(11 - (k+1)):=by
   rw [show 11 - k=(11 - (k+1))+1 from by omega,Int.pow_succ];omega
  have ih':=ih (by omega);simp only [fc,shr];rw [← ih',e,Int.mul_assoc,Int.add_mul]
theorem j7p(f:Nat->Int)(hf:∀ j,0<=f j){a b:Nat}(h:a<=b):shr f a<=shr f b:=by
 induction b with
 | zero=>
   have:a=0:=by omega
   subst this;exact Int.le_refl _
 | succ b ih=>
  by_cases e:a=b+1
  ·subst e;exact Int.le_refl _
  ·have:=ih (by omega);have h1:0<=f b*2^(11 - b):=Int.mul_nonneg (hf b) (Int.le_of_lt (Int.pow_pos (by decide)));simp only [shr];omega
theorem zzs(l:List Int)(j:Nat){a b:Nat}(h:a<=b):cn (l.take a) j<=cn (l.take b) j:=by
 induction b with
 | zero=>
   have:a=0:=by omega
   subst this;exact Int.le_refl _
 | succ b ih=>
  by_cases e:a=b+1
  ·subst e;exact Int.le_refl _
  ·have:=ih (by omega);by_cases hb:b<l.length
   ·rw [ysp hb];split <;> omega
   ·rw [List.take_of_length_le (i:=b+1) (by omega)];rw [List.take_of_length_le (i:=b) (by omega)] at this;exact this
theorem ygz{l:List Int}{i:Nat}(hi:i<l.length){n:Nat}(hn:0<n)(h:l[i]=(n:Int)){b:Nat}(hb:i<b):cn (l.take i) n<cn (l.take b) n:=by
 have h1:=zzs l n (show i+1<=b from hb);rw [ysp hi,if_pos ⟨by omega,h⟩] at h1;omega
theorem ynl{l:List Int}{i:Nat}(hi:i<l.length){n:Nat}(hn:0<n)(h:l[i]=(n:Int)):cn (l.take i) n+1<=cn l n:=by
 have:=ygz hi hn h hi;rw [List.take_length] at this;omega
theorem nth(l:List Int)(n:Nat)(q:Int)(h0:0<=q)(h1:q<cn l n):∃ i,∃ h:i<l.length,l[i]=(n:Int)∧cn (l.take i) n=q:=by
 have key:∀ k,k<=l.length->q<cn (l.take k) n->∃ i,∃ h:i<l.length,l[i]=(n:Int)∧cn (l.take i) n=q:=by
  intro k;induction k with
  | zero=>intro _ h;simp [j3h] at h;omega
  | succ k ih=>
   intro hk h;rw [ysp (by omega)] at h;by_cases e:0<l[k]∧l[k]=(n:Int)
   ·rw [if_pos e] at h;by_cases e2:q<cn (l.take k) n
    ·exact ih (by omega) e2
    ·exact ⟨k,by omega,e.2,by omega⟩
   ·rw [if_neg e] at h;exact ih (by omega) (by omega)
 exact key l.length (Nat.le_refl _) (by rw [List.take_length];exact h1)
def start(l:List Int)(i n:Nat):Int:=shr (cn l) n+cn (l.take i) n*2^(11 - n)
theorem yta{l:List Int}{i n:Nat}(hi:i<l.length)(hn:0<n)(hn2:n<=11)(h:l[i]=(n:Int)):cdv (fc (cn l)) l i*2^(11 - n)=start l i n:=by
 rw [xj2 hi h hn,Int.add_mul,y0b _ _ hn2];rfl
theorem vnz(m:Nat)(h:m<=11):0<2^m∧2^m<=2048:=⟨Nat.pow_pos (by decide),Nat.pow_le_pow_right (n:=2) (by decide) h⟩
def gw(j:Nat):Int:=((2^(11 - j):Nat):Int)
theorem yky:(fun j=>(2:Int)^(11 - j))=gw:=by funext j;simp [gw]
theorem xou(j:Nat):0<=gw j∧gw j<=2048:=by
 have:=vnz (11 - j) (by omega);unfold gw;omega
theorem xbc(n:Nat)(w:World)(hn:n<=11) :
  Calls Tryz.prog 178 #[.int .i64 n] w fun e w'=>e= .returned (.int .i64 (gw n))∧w=w':=by
 go_enter Tryz.func178,Tryz.ntmps178
 go_wp2
 go_loop [3,4] (fun s i=>∃ m x:Nat,n+m<=11∧x<=2048∧i= .int .i64 (n+m)∧s= .int .i64 x∧x=2^m) (fun _ i=>11 - (intOf i).toNat)
 case atStart=>exact ⟨0,1,by omega,by omega,by simp,rfl,rfl⟩
 case round=>
  obtain ⟨m,x,hm,hx,rfl,rfl,hxe⟩:=hrel;have HX:Hid (x=2^m):=hxe;clear hxe;by_cases h11:n+m<11
  ·go_wp2
   go_round
   case rel=>
    refine ⟨m+1,2*x,by omega,?_,by go_num,by go_num,?_⟩
    ·rw [HX.out];have:=(vnz (m+1) (by omega)).2;rw [Nat.pow_succ] at this;omega
    ·rw [HX.out,Nat.pow_succ];omega
   case measure=>simp [intOf];omega
  ·have e:m=11 - n:=by omega
   have HE:Hid ((x:Int)=gw n):=by show (x:Int)=_;rw [HX.out,e];rfl
   go_wp2
   go_ret
   exact ⟨by rw [← HE.out];rfl,rfl⟩
theorem jh6(g:Nat->Int){l:List Int}{k:Nat}(hk:k<l.length):jwa g (l.take (k+1))=jwa g (l.take k)+if 0<l[k] then g l[k].toNat else 0:=by
 rw [List.take_succ_eq_append_getElem hk,ypm];simp [jwa]
theorem vtl(g:Nat->Int)(M:Int)(hg:∀ j,0<=g j∧g j<=M)(hM:0<=M)(l:List Int):0<=jwa g l∧jwa g l<=M*l.length:=by
 induction l with
 | nil=>simp [jwa]
 | cons x l ih=>
  have:=hg x.toNat;simp only [jwa,List.map_cons,List.sum_cons,List.length_cons] at *;rw [Int.natCast_add,Int.mul_add];split <;> simp <;> omega
theorem xte(ad:Option Addr)(cap:Nat)(l:List Int)(w:World)(hl:l.length<=269)(hc:xin w ad l)(hr:inRange l=true) :
  Calls Tryz.prog 152 #[.slice ad l.length cap] w fun e w'=>e= .returned (.int .i64 (jwa gw l))∧w=w':=by
 go_enter Tryz.func152,Tryz.ntmps152
 go_wp2_with fail
 go_loop [3,4] (fun s i=>∃ k:Nat,k<=l.length∧i= .int .i64 k∧s= .int .i64 (jwa gw (l.take k))) (fun _ i=>l.length - (intOf i).toNat)
 case atStart=>exact ⟨0,Nat.zero_le _,rfl,rfl⟩
 case round=>
  obtain ⟨k,hk,rfl,rfl⟩:=hrel;by_cases hlt:k<l.length
  ·obtain ⟨b,o,n,rfl,g,hn,hx⟩:=hc.atNat hr hlt;have hs:=vtl gw 2048 xou (by decide) (l.take k);have hle:=List.length_take_le k l;have HS:=jh6 gw hlt;rw [hx.out] at HS;by_cases hpos:0<n
   ·have HS':Hid (jwa gw (l.take (k+1))=jwa gw (l.take k)+gw n):=by
     show _=_;rw [HS,if_pos (by omega)];rfl
    have hp:=xou n;clear HS;go_wp2_with (go_at_call 178;refine (xbc n _ hn).mono ?_;rintro e w' ⟨rfl,rfl⟩)
    go_round
    case rel=>exact ⟨k+1,by omega,by go_num,by rw [HS'.out]⟩
    case measure=>simp [intOf];omega
   ·obtain rfl:n=0:=by omega
    have g0:w.cell? ⟨b,o+k,none⟩=some (.int .i64 0):=g;have HS':Hid (jwa gw (l.take (k+1))=jwa gw (l.take k)):=by
     show _=_;rw [HS,if_neg (by omega)];simp
    clear HS g;go_wp2_with fail
    go_round
    case rel=>exact ⟨k+1,by omega,by go_num,by rw [HS'.out]⟩
    case measure=>simp [intOf];omega
  ·go_wp2_with fail
   go_ret
   exact ⟨by rw [List.take_of_length_le (by omega)];rfl,rfl⟩
theorem klo(ad:Option Addr)(cap:Nat)(l:List Int)(w:World)(hl:l.length<=269)(hc:xin w ad l) :
  Calls Tryz.prog 153 #[.slice ad l.length cap] w fun e w'=>e= .returned (.int .i64 (jwa (fun _=>1) l))∧w=w':=by
 go_enter Tryz.func153,Tryz.ntmps153
 go_wp2_with fail
 go_loop [3,4] (fun s i=>∃ k:Nat,k<=l.length∧i= .int .i64 k∧s= .int .i64 (jwa (fun _=>1) (l.take k))) (fun _ i=>l.length - (intOf i).toNat)
 case atStart=>exact ⟨0,Nat.zero_le _,rfl,rfl⟩
 case round=>
  obtain ⟨k,hk,rfl,rfl⟩:=hrel;by_cases hlt:k<l.length
  ·obtain ⟨b,o,x,rfl,g,hx⟩:=hc.at hlt;have hs:=vtl (fun _=>1) 1 (fun _=>by decide) (by decide) (l.take k);have hle:=List.length_take_le k l;have HS:=jh6 (fun _=>1) hlt;rw [hx.out] at HS;by_cases hpos:0<x
   ·have HS':Hid (jwa (fun _=>1) (l.take (k+1))=jwa (fun _=>1) (l.take k)+1):=by
     show _=_;rw [HS,if_pos hpos]
    clear HS;go_wp2_with fail
    go_round
    case rel=>exact ⟨k+1,by omega,by go_num,by rw [HS'.out]⟩
    case measure=>simp [intOf];omega
   ·have HS':Hid (jwa (fun _=>1) (l.take (k+1))=jwa (fun _=>1) (l.take k)):=by
     show _=_;rw [HS,if_neg hpos];simp
    clear HS;go_wp2_with fail
    go_round
    case rel=>exact ⟨k+1,by omega,by go_num,by rw [HS'.out]⟩
    case measure=>simp [intOf];omega
  ·go_wp2_with fail
   go_ret
   exact ⟨by rw [List.take_of_length_le (by omega)];rfl,rfl⟩
theorem yx0(ad:Option Addr)(cap:Nat)(l:List Int)(w:World)(hl:l.length<=269)(hc:xin w ad l)(hr:inRange l=true) :
  Calls Tryz.prog 118 #[.slice ad l.length cap] w fun e w'=>e= .returned (.bool (jwa gw l==2048))∧w=w':=by
 go_enter Tryz.func118,Tryz.ntmps118
 go_wp2_with (go_at_call 152;refine (xte ad cap l _ hl hc hr).mono ?_;rintro e w' ⟨rfl,rfl⟩)
 go_ret
 exact ⟨rfl,rfl⟩
def ky9(l:List Int):Bool:=jwa (fun _=>1) l==1 && jwa gw l==1024
theorem yyh(ad:Option Addr)(cap:Nat)(l:List Int)(w:World)(hl:l.length<=269)(hc:xin w ad l)(hr:inRange l=true) :
  Calls Tryz.prog 119 #[.slice ad l.length cap] w fun e w'=>e= .returned (.bool (ky9 l))∧w=w':=by
 cases h1:(jwa (fun _=>1) l==1)
 ·go_enter Tryz.func119,Tryz.ntmps119
  go_wp2_with (first | (go_at_call 153;refine (klo ad cap l _ hl hc).mono ?_;rintro e w' ⟨rfl,rfl⟩) | (go_at_call 152;refine (xte ad cap l _ hl hc hr).mono ?_;rintro e w' ⟨rfl,rfl⟩))
  go_ret
  exact ⟨by simp [ky9,h1],rfl⟩
 ·go_enter Tryz.func119,Tryz.ntmps119
  go_wp2_with (first | (go_at_call 153;refine (klo ad cap l _ hl hc).mono ?_;rintro e w' ⟨rfl,rfl⟩) | (go_at_call 152;refine (xte ad cap l _ hl hc hr).mono ?_;rintro e w' ⟨rfl,rfl⟩))
  go_ret
  exact ⟨by simp [ky9,h1],rfl⟩
def ahd(l:List Int)(s:Nat):Nat->Int
 | 0=>0
 | k+1=>ahd l s k+if 0<l.getD k 0∧(l.getD k 0<l.getD s 0∨(l.getD k 0=l.getD s 0∧k<s)) then gw (l.getD k 0).toNat else 0
theorem kkk(l:List Int)(s k:Nat):0<=ahd l s k∧ahd l s k<=2048*k:=by
 induction k with
 | zero=>simp [ahd]
 | succ k ih=>have:=xou (l.getD k 0).toNat;simp only [ahd];split <;> omega
theorem jz9{l:List Int}{s k n m:Nat}(hk:k<l.length)(hs:s<l.length)(hn:l[k]=(n:Int))(hm:l[s]=(m:Int))(h0:0<n)(h:n<m∨(n=m∧k<s)):ahd l s (k+1)=ahd l s k+gw n:=by
 have e1:l.getD k 0=n:=by simp [hk,hn]
 have e2:l.getD s 0=m:=by simp [hs,hm]
 simp only [ahd];rw [e1,e2,if_pos (by omega)];simp
theorem xtf{l:List Int}{s k n m:Nat}(hk:k<l.length)(hs:s<l.length)(hn:l[k]=(n:Int))(hm:l[s]=(m:Int))(h:n=0∨m<n∨(n=m∧s<=k)):ahd l s (k+1)=ahd l s k:=by
 have e1:l.getD k 0=n:=by simp [hk,hn]
 have e2:l.getD s 0=m:=by simp [hs,hm]
 simp only [ahd];rw [e1,e2,if_neg (by omega)];simp
theorem jic(ad:Option Addr)(cap:Nat)(l:List Int)(s m:Nat)(w:World)(hl:l.length<=269)(hc:xin w ad l)(hr:inRange l=true)(hs:s<l.length)(hm:l[s]=(m:Int)) :
  Calls Tryz.prog 154 #[.slice ad l.length cap, .int .i64 s] w fun e w'=>e= .returned (.int .i64 (ahd l s l.length / gw m))∧∃ q,w'=w.drewN q:=by
 obtain ⟨b,o,m',rfl,g2,hm11,hm'⟩:=hc.atNat hr hs;obtain rfl:m'=m:=by have:=hm'.out;omega
 have HM:Hid (l[s]=(m':Int)):=hm;clear hm hm';go_enter Tryz.func154,Tryz.ntmps154
 go_wp2_with fail
 go_loopw [5,6] (fun t i wr=>∃ k q:Nat,k<=l.length∧i= .int .i64 k∧t= .int .i64 (ahd l s k)∧wr=w.drewN q) (fun _ i _=>l.length - (intOf i).toNat)
 case atStart=>exact ⟨0,0,Nat.zero_le _,rfl,rfl,rfl⟩
 case round=>
  obtain ⟨k,q,hk,rfl,rfl,rfl⟩:=hrel;have ha:=kkk l s k;by_cases hlt:k<l.length
  ·obtain ⟨b',o',n,e',g1,hn11,hx⟩:=hc.atNat hr hlt;simp only [Option.some.injEq,Addr.mk.injEq,and_true] at e';obtain ⟨rfl,rfl⟩:=e';have hp:=xou n;rcases (show (n<m')∨(n=m'∧k<s)∨(n=m'∧s<=k)∨m'<n from by omega) with h | ⟨rfl,h⟩ | ⟨rfl,h⟩ | h
   ·have t1:(n:Int)<m':=by omega
    by_cases h0:0<n
    ·have HS:Hid (ahd l s (k+1)=ahd l s k+gw n):=jz9 hlt hs hx.out HM.out h0 (Or.inl h);go_wp2_with fail
     go_quiet (fail)
     go_wp2_with (go_at_call 178;refine (xbc n _ hn11).mono ?_;rintro e w' ⟨rfl,rfl⟩)
     go_roundw
     case rel=>exact ⟨k+1,_,by omega,by go_num,by rw [HS.out],rfl⟩
     case measure=>simp [intOf];omega
    ·obtain rfl:n=0:=by omega
     have HS:Hid (ahd l s (k+1)=ahd l s k):=xtf hlt hs hx.out HM.out (Or.inl rfl);have g0:w.cell? ⟨b,o+k,none⟩=some (.int .i64 0):=g1;have t2:(0:Int)<m':=by omega
     clear g1;go_wp2_with fail
     go_quiet (fail)
     go_wp2_with fail
     go_roundw
     case rel=>exact ⟨k+1,_,by omega,by go_num,by rw [HS.out],rfl⟩
     case measure=>simp [intOf];omega
   ·have t1:(k:Int)<s:=by omega
    by_cases h0:0<n
    ·have HS:Hid (ahd l s (k+1)=ahd l s k+gw n):=jz9 hlt hs hx.out HM.out h0 (Or.inr ⟨rfl,h⟩);go_wp2_with fail
     go_quiet (fail)
     go_wp2_with (go_at_call 178;refine (xbc n _ hn11).mono ?_;rintro e w' ⟨rfl,rfl⟩)
     go_roundw
     case rel=>exact ⟨k+1,_,by omega,by go_num,by rw [HS.out],rfl⟩
     case measure=>simp [intOf];omega
    ·obtain rfl:n=0:=by omega
     have HS:Hid (ahd l s (k+1)=ahd l s k):=xtf hlt hs hx.out HM.out (Or.inl rfl);have g0:w.cell? ⟨b,o+k,none⟩=some (.int .i64 0):=g1;have g3:w.cell? ⟨b,o+s,none⟩=some (.int .i64 0):=g2;clear g1;go_wp2_with fail
     go_quiet (fail)
     go_wp2_with fail
     go_roundw
     case rel=>exact ⟨k+1,_,by omega,by go_num,by rw [HS.out],rfl⟩
     case measure=>simp [intOf];omega
   ·have t1:decide ((k:Int)<s)=false:=by simp;omega
    have HS:Hid (ahd l s (k+1)=ahd l s k):=xtf hlt hs hx.out HM.out (Or.inr (Or.inr ⟨rfl,h⟩));go_wp2_with fail
    go_quiet (fail)
    go_wp2_with fail
    all_goals
     go_roundw
     case rel=>exact ⟨k+1,_,by omega,by go_num,by rw [HS.out],rfl⟩
     case measure=>simp [intOf];omega
   ·have HS:Hid (ahd l s (k+1)=ahd l s k):=xtf hlt hs hx.out HM.out (Or.inr (Or.inl h));obtain ⟨x,hxn⟩:∃ x:Int,(n:Int)=x:=⟨_,rfl⟩
    obtain ⟨y,hym⟩:∃ y:Int,(m':Int)=y:=⟨_,rfl⟩
    rw [hxn] at g1;rw [hym] at g2;have t1:decide (x<y)=false:=by simp;omega
    have t2:(x==y)=false:=by simp;omega
    have t3:0<x:=by omega
    clear h hp hxn hym;go_wp2_with fail
    go_quiet (fail)
    go_wp2_with fail
    all_goals
     go_roundw
     case rel=>exact ⟨k+1,_,by omega,by go_num,by rw [HS.out],rfl⟩
     case measure=>simp [intOf];omega
  ·obtain rfl:k=l.length:=by omega
   have hp:=xou m';have hp1:1<=gw m':=by have:=vnz (11 - m') (by omega);unfold gw;omega
   go_wp2_with (go_at_call 178;refine (xbc m' _ hm11).mono ?_;rintro e w' ⟨rfl,rfl⟩)
   go_ret
   exact ⟨rfl,_,rfl⟩
theorem jg6(l:List Int)(x:Int)(g:Nat->Int)(k:Nat):xir (cn (l++[x])) g k=xir (cn l) g k+(if 0<x∧x.toNat<k then g x.toNat else 0):=by
 induction k with
 | zero=>simp [xir]
 | succ k ih=>
  simp only [xir,ih,vuc];by_cases h:0<x∧x=(k:Int)
  ·have e:x.toNat=k:=by omega
   rw [if_neg (by omega),if_pos h,if_pos (by omega),e,Int.add_mul];omega
  ·rw [if_neg h];by_cases h2:0<x∧x.toNat<k
   ·rw [if_pos h2,if_pos (by omega)];simp;omega
   ·rw [if_neg h2,if_neg (by omega)];simp
theorem yoi(f:Nat->Int)(k:Nat):shr f k=xir f gw k:=by rw [xyc,yky]
theorem vp8{l:List Int}(hr:inRange l=true){s m:Nat}(hs:s<l.length)(hm:l[s]=(m:Int))(k:Nat)(hk:k<=l.length) :
  ahd l s k=shr (cn (l.take k)) m+(if 0<m then cn (l.take (min k s)) m*gw m else 0):=by
 induction k with
 | zero=>simp [ahd,yoi,jrc,j3h]
 | succ k ih=>
  have hk':k<l.length:=by omega
  obtain ⟨n,hn11,hn⟩:=z3a hr hk';have e1:l.getD k 0=n:=by simp [hk',hn]
  have e2:l.getD s 0=m:=by simp [hs,hm]
  simp only [ahd];rw [ih (by omega),e1,e2,yoi,yoi,List.take_succ_eq_append_getElem hk',jg6,hn];have e3:(n:Int).toNat=n:=by simp
  rw [e3];by_cases hm0:0<m
  ·rw [if_pos hm0,if_pos hm0];by_cases hks:k<s
   ·have hmin:min (k+1) s=min k s+1:=by omega
    have hmk:min k s=k:=by omega
    rw [hmin,hmk,ysp hk',hn];by_cases c1:0<n∧n<m
    ·rw [if_pos (by omega),if_pos (by omega),if_neg (by omega)];simp;omega
    ·by_cases c2:0<n∧n=m
     ·rw [if_pos (by omega),if_neg (by omega),if_pos (by omega),c2.2,Int.add_mul];omega
     ·rw [if_neg (by omega),if_neg (by omega),if_neg (by omega)];simp
   ·have hmin:min (k+1) s=min k s:=by omega
    rw [hmin];by_cases c1:0<n∧n<m
    ·rw [if_pos (by omega),if_pos (by omega)];omega
    ·rw [if_neg (by omega),if_neg (by omega)];omega
  ·have:m=0:=by omega
   subst this;rw [if_neg hm0,if_neg hm0,if_neg (by omega),if_neg (by omega)]
theorem y1o(m:Nat):gw m=2^(11 - m):=by simp [gw]
theorem vhr(m:Nat):0<gw m:=by have:=vnz (11 - m) (by omega);unfold gw;omega
theorem xjq{l:List Int}(hr:inRange l=true){s m:Nat}(hs:s<l.length)(hm:l[s]=(m:Int))(hm0:0<m):ahd l s l.length / gw m=cdv (fc (cn l)) l s:=by
 have hm11:m<=11:=by obtain ⟨n,h1,h2⟩:=z3a hr hs;omega
 have h:=vp8 hr hs hm l.length (Nat.le_refl _);rw [List.take_length,if_pos hm0,show min l.length s=s by omega] at h;have h2:=yta hs hm0 hm11 hm;unfold start at h2;rw [h,y1o,← h2,Int.mul_ediv_cancel];have:=vhr m;rw [y1o] at this;omega
def rv(l:List Int)(i:Nat):Int:=if 0<l.getD i 0 then ahd l i l.length / gw (l.getD i 0).toNat else -1
theorem xiy{l:List Int}(hr:inRange l=true){i:Nat}(hi:i<l.length):rv l i=cdv (fc (cn l)) l i:=by
 obtain ⟨n,hn11,hn⟩:=z3a hr hi;have e1:l.getD i 0=n:=by simp [hi,hn]
 unfold rv;rw [e1];by_cases h0:0<n
 ·rw [if_pos (by omega)];have:=xjq hr hi hn h0;simpa using this
 ·have:n=0:=by omega
  subst this;rw [if_neg (by omega),j37 hi (by simpa using hn)]
theorem yzd(l:List Int)(j:Nat)(hj:0<j):cn l j=jwa (fun i=>if i=j then 1 else 0) l:=by
 induction l with
 | nil=>rfl
 | cons x l ih=>
  rw [zah,ih];simp only [jwa,List.map_cons,List.sum_cons];by_cases h:0<x
  ·rw [if_pos h];by_cases h2:x=(j:Int)
   ·rw [if_pos ⟨h,h2⟩,if_pos (by omega)]
   ·rw [if_neg (by omega),if_neg (by omega)]
  ·rw [if_neg h,if_neg (by omega)]
theorem xu8(l:List Int):cn l 0=0:=by
 unfold cn;have:l.filter (fun x=>decide (0<x) && x==((0:Nat):Int))=[]:=by
  rw [List.filter_eq_nil_iff];intro x _;simp;omega
 rw [this];rfl
theorem v6y(l:List Int)(h:jwa (fun _=>1) l=0)(g:Nat->Int):jwa g l=0:=by
 induction l with
 | nil=>rfl
 | cons x l ih=>
  have hle:=vtl (fun _=>1) 1 (fun _=>by decide) (by decide) l;simp only [jwa,List.map_cons,List.sum_cons] at *;by_cases hx:0<x
  ·rw [if_pos hx] at h;omega
  ·rw [if_neg hx] at h ⊢;rw [ih (by omega)];rfl
theorem xp5(l:List Int)(h:jwa (fun _=>1) l=1):∃ n:Nat,∀ g:Nat->Int,jwa g l=g n:=by
 induction l with
 | nil=>simp [jwa] at h
 | cons x l ih=>
  have hc:∀ g,jwa g (x :: l)=(if 0<x then g x.toNat else 0)+jwa g l:=fun g=>by simp [jwa]
  rw [hc] at h;by_cases hx:0<x
  ·rw [if_pos hx] at h;have h0:=v6y l (by omega);exact ⟨x.toNat,fun g=>by rw [hc,if_pos hx,h0];omega⟩
  ·rw [if_neg hx] at h;obtain ⟨n,hn⟩:=ih (by omega);exact ⟨n,fun g=>by rw [hc,if_neg hx,hn];omega⟩
theorem jqm{n:Nat}(h:gw n=1024):n=1:=by
 apply Classical.byContradiction;intro hn;rcases Nat.lt_or_ge n 1 with h1 | h1
 ·have:n=0:=by omega
  subst this;revert h;decide
 ·have:11 - n<=9:=by omega
  have:=Nat.pow_le_pow_right (n:=2) (by decide) this;unfold gw at h;omega
theorem ksm{l:List Int}(hr:inRange l=true):ky9 l=y1y (cn l):=by
 cases h:y1y (cn l)
 ·rw [Bool.eq_false_iff];intro hs;simp only [ky9,Bool.and_eq_true,beq_iff_eq] at hs;obtain ⟨n,hn⟩:=xp5 l hs.1;have h1:=jqm (by rw [← hn gw];exact hs.2);subst h1;rw [Bool.eq_false_iff] at h;apply h;rw [jf2];intro j hj;rcases Nat.eq_zero_or_pos j with e | e
  ·subst e;rw [xu8];rfl
  ·rw [yzd l j e,hn];unfold one;by_cases e1:j=1
   ·subst e1;rfl
   ·rw [if_neg (by omega),if_neg e1]
 ·have a:=ks4 hr h (fun _=>1);have b:=ks4 hr h gw;simp [ky9,a,b];decide
end Go.Proofs.YtbcjmakpempkiaaGreatDoor
