import Derived.ArgAppend
import Derived.BigQuiet
import Derived.ChangeKeysEq
import Derived.Deep.AppendLies
import Derived.Deep.CutBlock
import Derived.Deep.DeepCutAuto
import Derived.Deep.OwnRows
import Derived.Deep.QuietTactic
import Derived.Deep.RegionHeld3
import Derived.Deep.RegionLaw
import Derived.Deep.WholeRow
import Derived.Laws.BytesArg
import Derived.Laws.CopyOwn
import Derived.Laws.IdiomStrings
import Derived.Laws.ResultCell
import Derived.Laws.Rows
import Derived.Laws.StructEq
import Derived.Outline
import Derived.Test.YtbcjmakpempkiaaGreatDoorRows
import Derived.WalkKit
import Derived.WalkSpells
set_option maxRecDepth 100000
set_option maxHeartbeats 8000000
set_option linter.all false
namespace Go.Proofs.YtbcjmakpempkiaaGreatDoor
def pw(x:Int):Nat:=2^(11 - x.toNat)
def wt(l:List Int):Nat:=(l.map pw).sum
def dist(n k j:Nat):Nat:=if k<=j then j - k else j+n - k
open Go.RowKit
def yuc(x:Int):Bool:=decide (0<=x∧x<=11)
def inRange(l:List Int):Bool:=l.all yuc
def xin(w:World)(ad:Option Addr)(l:List Int):Prop:=∀ k,k<l.length->∃ b o,ad=some ⟨b,o,none⟩∧b<w.heap.size∧w.cell? ⟨b,o+k,none⟩=some (.int .i64 (l.getD k 0))
def arr(f:Nat->Int):Array Value:=#[.int .i64 (f 0), .int .i64 (f 1), .int .i64 (f 2), .int .i64 (f 3), .int .i64 (f 4), .int .i64 (f 5), .int .i64 (f 6), .int .i64 (f 7), .int .i64 (f 8), .int .i64 (f 9), .int .i64 (f 10), .int .i64 (f 11)]
theorem xp7(f:Nat->Int):(arr f).size=12:=rfl
theorem zge(f:Nat->Int)(i:Nat)(h:i<12):(arr f)[i]?=some (.int .i64 (f i)):=by
 have:i=0∨i=1∨i=2∨i=3∨i=4∨i=5∨i=6∨i=7∨i=8∨i=9∨i=10∨i=11:=by omega
 rcases this with rfl | rfl | rfl | rfl | rfl | rfl | rfl | rfl | rfl | rfl | rfl | rfl <;> rfl
theorem vdk{w:World}{b T:Nat}{f:Nat->Int}(h:w.rowIs b T 12 (fun j=> .int .i64 (f j))):w.heap[b]?=some (.cells (arr f) T (0,0)):=by
 obtain ⟨c,hb,hn,hc⟩:=h;have:c=arr f:=by
  apply Array.ext_getElem?;intro i;by_cases hi:i<12
  ·rw [hc i hi,zge f i hi]
  ·rw [Array.getElem?_eq_none (by omega),Array.getElem?_eq_none (by rw [xp7];omega)]
 rw [hb,this]
theorem kdi(T:Nat)(w:World)(f:Nat->Int):(w.alloc (.cells (arr f) T)).rowIs w.heap.size T 12 (fun j=> .int .i64 (f j)):=
 World.rowIs_alloc w (arr f) T _ (fun i hi=>zge f i (by simpa [xp7] using hi))
theorem yui(f:Nat->Int):(arr f).all (·.oneCell')=true:=by simp [arr,Value.oneCell']
theorem xz2(f:Nat->Int):(Tryz.prog.info? 197).map (·.size)=some (arr f).size:=by kernel_rfl
theorem zvc(f:Nat->Int):(Tryz.prog.info? 199).map (·.size)=some (arr f).size:=by kernel_rfl
def cn(l:List Int)(j:Nat):Int:=((l.filter (fun x=>decide (0<x) && x==(j:Int))).length:Int)
theorem j3h(j:Nat):cn [] j=0:=rfl
theorem v4o(l:List Int)(j:Nat):0<=cn l j:=by unfold cn;omega
theorem kc7(l:List Int)(j:Nat):cn l j<=l.length:=by
 unfold cn;have:=List.length_filter_le (fun x=>decide (0<x) && x==(j:Int)) l;omega
theorem vuc(l:List Int)(x:Int)(j:Nat):cn (l++[x]) j=cn l j+if 0<x∧x=j then 1 else 0:=by
 unfold cn;rw [List.filter_append];by_cases h:0<x∧x=(j:Int)
 ·have:(decide (0<x) && x==(j:Int))=true:=by simp [h.2];omega
  rw [if_pos h,List.filter_cons,this];simp
 ·have:(decide (0<x) && x==(j:Int))=false:=by
   rw [Bool.eq_false_iff];intro h';simp at h';exact h ⟨h'.1,h'.2⟩
  rw [if_neg h,List.filter_cons,this];simp
theorem ysp{l:List Int}{k:Nat}(hk:k<l.length)(j:Nat):cn (l.take (k+1)) j=cn (l.take k) j+if 0<l[k]∧l[k]=j then 1 else 0:=by
 rw [List.take_succ_eq_append_getElem hk,vuc]
theorem j96{B:Nat}{w w':World}{b t n:Nat}{f:Nat->Value}(h:w.rowIs b t n f)(hb:Below B w w')(hlt:b<B):w'.rowIs b t n f:=h.of_block (hb.block b hlt)
theorem z3a{l:List Int}(hr:inRange l=true){k:Nat}(hk:k<l.length):∃ n:Nat,n<=11∧l[k]=(n:Int):=by
 have:=List.all_eq_true.1 hr l[k] (List.getElem_mem hk);simp [yuc] at this;exact ⟨l[k].toNat,by omega,by omega⟩
theorem xin.atNat{w:World}{ad:Option Addr}{l:List Int}(h:xin w ad l)(hr:inRange l=true){k:Nat}(hk:k<l.length):∃ (b o n:Nat),ad=some ⟨b,o,none⟩∧w.cell? ⟨b,o+k,none⟩=some (.int .i64 n)∧n<=11∧Hid (l[k]=(n:Int)):=by
 obtain ⟨n,hn,e⟩:=z3a hr hk;obtain ⟨b,o,e2,_,hc⟩:=h k hk;exact ⟨b,o,n,e2,by rw [hc];simp [hk,e],hn,e⟩
theorem xin.below{B:Nat}{w w':World}{ad:Option Addr}{l:List Int}(h:xin w ad l)(hb:Below B w w')(hB:w.heap.size<=B):xin w' ad l:=fun k hk=>by
 obtain ⟨b,o,e,hlt,hc⟩:=h k hk;exact ⟨b,o,e,Nat.lt_of_lt_of_le hlt hb.size,by rw [hb.cell (by show b<B;omega),hc]⟩
theorem z5t{wr:World}{g T:Nat}{l:List Int}{k n:Nat}(hlt:k<l.length)(hx:l[k]=(n:Int))(hn:0<n)(h:wr.rowIs g T 12 (fun j=> .int .i64 (cn (l.take k) j))) :
  (wr.setCell ⟨g,n,none⟩ (.int .i64 (cn (l.take k) n+1))).rowIs g T 12 (fun j=> .int .i64 (cn (l.take (k+1)) j)):=by
 refine (h.set n _).congr fun i _=>?_
 rw [ysp hlt,hx];by_cases e:i=n
 ·subst e;rw [if_pos rfl,if_pos ⟨by omega,rfl⟩]
 ·rw [if_neg e,if_neg (by omega)];simp
theorem jbc{wr:World}{g T:Nat}{l:List Int}{k:Nat}(hlt:k<l.length)(hx:l[k]=0)(h:wr.rowIs g T 12 (fun j=> .int .i64 (cn (l.take k) j))) :
  wr.rowIs g T 12 (fun j=> .int .i64 (cn (l.take (k+1)) j)):=by
 refine h.congr fun i _=>?_
 rw [ysp hlt,hx];simp
theorem v5q(ad:Option Addr)(cap:Nat)(l:List Int)(w:World)(hl:l.length<=1000000)(hc:xin w ad l)(hr:inRange l=true) :
  Calls Tryz.prog 114 #[.slice ad l.length cap] w fun e w'=>e= .returned (.agg (arr (cn l)))∧Below w.heap.size w w':=by
 go_enter Tryz.func114,Tryz.ntmps114
 go_wp2
 go_loopw [8] (fun i wr=>∃ k:Nat,k<=l.length∧i= .int .i64 k∧wr.rowIs (w.heap.size+1) 199 12 (fun j=> .int .i64 (cn (l.take k) j))∧wr.rowIs w.heap.size 199 12 (fun _=> .int .i64 0)∧Below w.heap.size w wr) (fun i _=>l.length - (intOf i).toNat)
 case atStart=>
  refine ⟨0,Nat.zero_le _,rfl,?_,?_,((Below.refl _ _).alloc (Nat.le_refl _) _).alloc (by simp) _⟩
  ·have:=kdi 199 (w.alloc (.cells (arr (fun _=>0)) 199)) (fun _=>0);simpa [j3h,arr] using this
  ·have:=(kdi 199 w (fun _=>0)).alloc (.cells (arr (fun _=>0)) 199);simpa [arr] using this
 case round=>
  obtain ⟨k,hk,rfl,hrow,hres,hbel⟩:=hrel;by_cases hlt:k<l.length
  ·obtain ⟨b,o,n,rfl,g,hn,hx⟩:=(hc.below hbel (Nat.le_refl _)).atNat hr hlt;have hcn0:=v4o (l.take k) n;have hcn1:cn (l.take k) n<=1000000:=by
    have:=kc7 (l.take k) n;have:=List.length_take_le k l;omega
   have g1:=hrow.cell (i:=n) (by omega);have g2:=hrow.frozen n;by_cases hpos:0<n
   ·have R:=z5t hlt hx.out hpos hrow;have R2:=hres.setOther (a:=⟨w.heap.size+1,n,none⟩) (by simp) (.int .i64 (cn (l.take k) n+1));have R3:=hbel.setCell (p:=⟨w.heap.size+1,n,none⟩) (by simp) (.int .i64 (cn (l.take k) n+1));go_wp2
    go_roundw
    case rel=>exact ⟨k+1,by omega,by go_num,R,R2,R3⟩
    case measure=>simp [intOf];omega
   ·obtain rfl:n=0:=by omega
    have R:=jbc hlt hx.out hrow;go_wp2
    go_roundw
    case rel=>exact ⟨k+1,by omega,by go_num,R,hres,hbel⟩
    case measure=>simp [intOf];omega
  ·rw [List.take_of_length_le (by omega)] at hrow;have h1:=vdk hrow;have h2:=vdk (f:=fun _=>0) hres;go_wp2_with (first | refine wpList_load_row rfl 199 _ rfl _ rfl 199 _ _ _ h1 Tryz.underlying199 rfl (zvc _) ?_ | refine wpList_store_row rfl 199 _ _ rfl _ _ rfl rfl 199 _ h2 (zvc _) rfl (yui _) ?_)
   refine bodyPost_ret (v:= .agg (arr (cn l))) ?_ ?_ ?_
   ·exact results_cell_row Tryz.results114 _ _ _ 199 _ _ _ rfl (setRow_heap _ _ _ _ 199 _ h2) Tryz.underlying199 rfl (zvc _)
   ·rfl
   ·exact ⟨rfl,below_setRow hbel (Nat.le_refl _) _⟩
theorem idx(f:Nat->Int)(k:Nat)(hk:k<12)(w:World):(Instr.index 197 (.agg (arr f)) (.int .i64 k)).run Tryz.prog w= .ok (.int .i64 (f k)) w:=by
 have:=zge f k hk;simp [Instr.index,go_sem,this,hk]
def shr(f:Nat->Int):Nat->Int
 | 0=>0
 | k+1=>shr f k+f k*2^(11 - k)
theorem xht(k:Nat):(0:Int)<2^(11 - k)∧(2:Int)^(11 - k)<=2048:=by
 have h:11 - k<=11:=by omega
 generalize 11 - k=m at *;have:m=0∨m=1∨m=2∨m=3∨m=4∨m=5∨m=6∨m=7∨m=8∨m=9∨m=10∨m=11:=by omega
 rcases this with rfl | rfl | rfl | rfl | rfl | rfl | rfl | rfl | rfl | rfl | rfl | rfl <;> decide
theorem yzo{x:Int}(h0:0<=x)(h1:x<=1000000)(k:Nat):0<=x*2^(11 - k)∧x*2^(11 - k)<=2048000000:=by
 have ⟨a,b⟩:=xht k;exact ⟨Int.mul_nonneg h0 (by omega),Int.le_trans (Int.mul_le_mul h1 b (by omega) (by omega)) (by decide)⟩
theorem z3i(f:Nat->Int)(hf:∀ j,j<12->0<=f j∧f j<=1000000)(k:Nat)(hk:k<=12):0<=shr f k∧shr f k<=2048000000*k:=by
 induction k with
 | zero=>exact ⟨by simp [shr],by simp [shr]⟩
 | succ k ih=>
  have ⟨a,b⟩:=ih (by omega);have ⟨c,d⟩:=hf k (by omega);have ⟨e,g⟩:=yzo c d k;simp only [shr];omega
theorem koc(f:Nat->Int)(hf:∀ j,j<12->0<=f j∧f j<=1000000)(k:Nat)(hk:k<12):wrap64 (shr f k+wrap64 (f k*2^(11 - k)))=shr f (k+1):=by
 have ⟨a,b⟩:=z3i f hf k (by omega);have ⟨c,d⟩:=hf k hk;have ⟨e,g⟩:=yzo c d k;rw [IntWalk.wrap64_in (f k*2^(11 - k)) ⟨by omega,by omega⟩,IntWalk.wrap64_in _ ⟨by omega,by omega⟩];rfl
theorem xni(f:Nat->Int)(w:World)(hf:∀ j,j<12->0<=f j∧f j<=1000000) :
  Calls Tryz.prog 115 #[.agg (arr f)] w fun e w'=>e= .returned (.bool (shr f 12==2048))∧Below w.heap.size w w':=by
 go_enter Tryz.func115,Tryz.ntmps115
 go_wp2_with (refine wpList_load_row rfl 197 _ rfl _ rfl 199 (arr f) (0,0) _ (heap_alloc_new _ _) Tryz.underlying197 rfl (xz2 _) ?_)
 go_loop [3,8] (fun s i=>∃ k:Nat,k<=12∧i= .int .i64 k∧s= .int .i64 (shr f k)) (fun _ i=>12 - (intOf i).toNat)
 case atStart=>exact ⟨0,Nat.zero_le _,rfl,rfl⟩
 case round=>
  obtain ⟨k,hk,rfl,rfl⟩:=hrel;by_cases hlt:k<12
  ·have hi:=idx f k hlt;have HS:Hid (wrap64 (shr f k+wrap64 (f k*2^(11 - k)))=shr f (k+1)):=koc f hf k hlt;go_wp2
   go_round
   case rel=>exact ⟨k+1,by omega,by go_num,by rw [HS.out]⟩
   case measure=>simp [intOf];omega
  ·obtain rfl:k=12:=by omega
   go_wp2
   go_ret
   exact ⟨rfl,(Below.refl _ _).alloc (Nat.le_refl _) _⟩
def one(j:Nat):Int:=if j=1 then 1 else 0
def y1y(f:Nat->Int):Bool:=(List.range 12).all fun i=>f i==one i
theorem vl6(f:Nat->Int)(i:Nat)(hi:i<12)(w:World):(part 3 (arr f) (i*Tryz.prog.cellsOf 3)).run Tryz.prog w= .ok (.int .i64 (f i)) w:=by
 have hc:Tryz.prog.cellsOf 3=1:=by kernel_rfl
 have:=zge f i hi;simp [part,hc,go_sem,this]
theorem xj3(d:Nat)(f g:Nat->Int)(w:World):∀ is:List Nat,(∀ i∈is,i<12)->(Op.eqItems (d+1) 3 (Tryz.prog.cellsOf 3) (arr f) (arr g) is).run Tryz.prog w= .ok (is.all fun i=>f i==g i) w
 | [],_=>by simp [Op.eqItems]
 | i :: is,h=>by
  have hi:=h i (by simp);have ih:=xj3 d f g w is (fun j hj=>h j (by simp [hj]));simp only [Op.eqItems,Sem.run_bind,vl6 f i hi,vl6 g i hi,Result.andThen_ok,run_equalIn_int w d 3 .i64 .i64 (f i) (g i) Tryz.underlying3];by_cases e:f i=g i
  ·simp [e,ih]
  ·simp [e]
theorem yaa(f:Nat->Int)(w:World):(Op.equalIn 10000 197 (.agg (arr f)) (.agg #[.int .i64 0, .int .i64 1, .int .i64 0, .int .i64 0, .int .i64 0, .int .i64 0, .int .i64 0, .int .i64 0, .int .i64 0, .int .i64 0, .int .i64 0, .int .i64 0])).run Tryz.prog w= .ok (y1y f) w:=by
 have hz:=Tryz.sizeOf3;obtain ⟨i,hi⟩:∃ i,Tryz.prog.info? 3=some i:=by
  cases h:Tryz.prog.info? 3 with
  | none=>
    have:(Tryz.prog.info? 3).isSome=true:=by kernel_rfl
    simp [h] at this
  | some i=>exact ⟨i,rfl⟩
 have e:(#[.int .i64 0, .int .i64 1, .int .i64 0, .int .i64 0, .int .i64 0, .int .i64 0, .int .i64 0, .int .i64 0, .int .i64 0, .int .i64 0, .int .i64 0, .int .i64 0]:Array Value)=arr one:=rfl;rw [e,show (10000:Nat)=9999+1 from rfl,run_equalIn_array w 9999 _ _ Tryz.underlying197 hi];exact xj3 9998 f one w (List.range 12) (fun i hi=>by simpa using hi)
theorem jvc(f:Nat->Int)(w:World) :
  Calls Tryz.prog 116 #[.agg (arr f)] w fun e w'=>e= .returned (.bool (y1y f))∧Below w.heap.size w w':=by
 have he:=yaa f;go_enter Tryz.func116,Tryz.ntmps116
 go_wp2_with (refine wpList_load_row rfl 197 _ rfl _ rfl 199 (arr f) (0,0) _ (heap_alloc_new _ _) Tryz.underlying197 rfl (xz2 _) ?_)
 go_ret
 exact ⟨rfl,(Below.refl _ _).alloc (Nat.le_refl _) _⟩
def fc(f:Nat->Int):Nat->Int
 | 0=>0
 | k+1=>(fc f k+f k)*2
theorem vav(f:Nat->Int)(hf:∀ j,j<12->0<=f j∧f j<=1000000)(k:Nat)(hk:k<=12):0<=fc f k∧fc f k<=2000000*(2^k - 1):=by
 induction k with
 | zero=>exact ⟨by simp [fc],by simp [fc]⟩
 | succ k ih=>
  have ⟨a,b⟩:=ih (by omega);have ⟨c,d⟩:=hf k (by omega);simp only [fc];rw [Int.pow_succ];omega
theorem j41(k:Nat)(hk:k<=12):(2:Int)^k<=4096:=by
 have:k=0∨k=1∨k=2∨k=3∨k=4∨k=5∨k=6∨k=7∨k=8∨k=9∨k=10∨k=11∨k=12:=by omega
 rcases this with rfl | rfl | rfl | rfl | rfl | rfl | rfl | rfl | rfl | rfl | rfl | rfl | rfl <;> decide
theorem jht(f:Nat->Int)(hf:∀ j,j<12->0<=f j∧f j<=1000000)(k:Nat)(hk:k<=12):0<=fc f k∧fc f k<=8192000000:=by
 have ⟨a,b⟩:=vav f hf k hk;have:=j41 k hk;omega
def fcTo(f:Nat->Int)(k j:Nat):Int:=if j<=k then fc f j else 0
theorem z48{wr:World}{g:Nat}{f:Nat->Int}{k:Nat}(h:wr.rowIs g 197 12 (fun j=> .int .i64 (fcTo f k j))) :
  (wr.setCell ⟨g,k+1,none⟩ (.int .i64 (fc f (k+1)))).rowIs g 197 12 (fun j=> .int .i64 (fcTo f (k+1) j)):=by
 refine (h.set (k+1) _).congr fun i _=>?_
 unfold fcTo;by_cases e:i=k+1
 ·subst e;rw [if_pos rfl,if_pos (Nat.le_refl _)]
 ·rw [if_neg e];by_cases e2:i<=k
  ·rw [if_pos e2,if_pos (by omega)]
  ·rw [if_neg e2,if_neg (by omega)]
theorem znc{wr:World}{g:Nat}{f:Nat->Int}(h:wr.rowIs g 197 12 (fun j=> .int .i64 (fcTo f 11 j))):wr.rowIs g 197 12 (fun j=> .int .i64 (fc f j)):=
 h.congr fun i hi=>by rw [fcTo,if_pos (by omega)]
theorem jgl(f:Nat->Int)(w:World)(hf:∀ j,j<12->0<=f j∧f j<=1000000) :
  Calls Tryz.prog 151 #[.agg (arr f)] w fun e w'=>e= .returned (.agg (arr (fc f)))∧Below w.heap.size w w':=by
 go_enter Tryz.func151,Tryz.ntmps151
 go_wp2
 go_loopw [4] (fun i wr=>∃ k:Nat,k<=11∧i= .int .i64 (k+1)∧wr.rowIs (w.heap.size+1+1) 197 12 (fun j=> .int .i64 (fcTo f k j))∧wr.rowIs w.heap.size 199 12 (fun j=> .int .i64 (f j))∧wr.rowIs (w.heap.size+1) 197 12 (fun _=> .int .i64 0)∧Below w.heap.size w wr) (fun i _=>12 - (intOf i).toNat)
 case atStart=>
  refine ⟨0,Nat.zero_le _,rfl,?_,?_,?_,(((Below.refl _ _).alloc (Nat.le_refl _) _).alloc (by simp) _).alloc (by simp;omega) _⟩
  ·have:=kdi 197 ((w.alloc (.cells (arr f) 199)).alloc (.cells (arr (fun _=>0)) 197)) (fun _=>0);have h2:=this.congr (g:=fun j=> .int .i64 (fcTo f 0 j)) (fun i _=>by unfold fcTo;split <;> simp_all [fc]);simpa [arr] using h2
  ·have:=((kdi 199 w f).alloc (.cells (arr (fun _=>0)) 197)).alloc (.cells (arr (fun _=>0)) 197);simpa [arr] using this
  ·have:=(kdi 197 (w.alloc (.cells (arr f) 199)) (fun _=>0)).alloc (.cells (arr (fun _=>0)) 197);simpa [arr] using this
 case round=>
  obtain ⟨k,hk,rfl,hrow,hf1,hres,hbel⟩:=hrel;by_cases hlt:k<11
  ·have g1:=hrow.cell (i:=k) (by omega);have g2:=hf1.cell (i:=k) (by omega);have g3:=hrow.cell (i:=k+1) (by omega);have g4:=hrow.frozen (k+1);have e1:fcTo f k k=fc f k:=if_pos (Nat.le_refl _);rw [e1] at g1;have ⟨b1,b2⟩:=jht f hf k (by omega);have ⟨b3,b4⟩:=hf k (by omega);clear e1;have R:(wr.setCell ⟨w.heap.size+1+1,k+1,none⟩ (.int .i64 ((fc f k+f k)*2))).drew.rowIs (w.heap.size+1+1) 197 12 (fun j=> .int .i64 (fcTo f (k+1) j)):=(z48 hrow).drew;have R1:=(hf1.setOther (a:=⟨w.heap.size+1+1,k+1,none⟩) (by simp;omega) (.int .i64 ((fc f k+f k)*2))).drew;have R2:=(hres.setOther (a:=⟨w.heap.size+1+1,k+1,none⟩) (by simp) (.int .i64 ((fc f k+f k)*2))).drew;have R3:=(hbel.setCell (p:=⟨w.heap.size+1+1,k+1,none⟩) (by simp;omega) (.int .i64 ((fc f k+f k)*2))).drew;go_wp2
   go_region
   go_wp2
   go_roundw
   case rel=>exact ⟨k+1,by omega,by go_num,R,R1,R2,R3⟩
   case measure=>simp [intOf];omega
  ·obtain rfl:k=11:=by omega
   have h1:=vdk (znc hrow);have h2:=vdk (f:=fun _=>0) hres;go_wp2_with (first | refine wpList_load_row rfl 197 _ rfl _ rfl 197 _ _ _ h1 Tryz.underlying197 rfl (xz2 _) ?_ | refine wpList_store_row rfl 197 _ _ rfl _ _ rfl rfl 197 _ h2 (xz2 _) rfl (yui _) ?_)
   refine bodyPost_ret (v:= .agg (arr (fc f))) ?_ ?_ ?_
   ·exact results_cell_row Tryz.results151 _ _ _ 197 _ _ _ rfl (setRow_heap _ _ _ _ 197 _ h2) Tryz.underlying197 rfl (xz2 _)
   ·rfl
   ·exact ⟨rfl,below_setRow hbel (by omega) _⟩
theorem ve2:(Tryz.prog.info? 3).map (fun i=>(i.zero,i.size,i.bytes))=some (some (.int .i64 0),1,8):=by kernel_rfl
def cdv(nx:Nat->Int)(l:List Int)(i:Nat):Int:=if l.getD i 0=0 then -1 else nx (l.getD i 0).toNat+cn (l.take i) (l.getD i 0).toNat
theorem j37{nx:Nat->Int}{l:List Int}{k:Nat}(hk:k<l.length)(h:l[k]=0):cdv nx l k= -1:=by
 rw [cdv,if_pos (by simp [hk,h])]
theorem xj2{nx:Nat->Int}{l:List Int}{k n:Nat}(hk:k<l.length)(h:l[k]=(n:Int))(hn:0<n):cdv nx l k=nx n+cn (l.take k) n:=by
 have e:l.getD k 0=n:=by simp [hk,h]
 rw [cdv,e,if_neg (by omega)];simp
theorem jr9{nx:Nat->Int}{l:List Int}{wr:World}{g k n:Nat}(hk:k<l.length)(hx:l[k]=(n:Int))(hn:0<n)(h:wr.rowIs g 197 12 (fun j=> .int .i64 (nx j+cn (l.take k) j))) :
  (wr.setCell ⟨g,n,none⟩ (.int .i64 (nx n+cn (l.take k) n+1))).rowIs g 197 12 (fun j=> .int .i64 (nx j+cn (l.take (k+1)) j)):=by
 refine (h.set n _).congr fun i _=>?_
 rw [ysp hk,hx];by_cases e:i=n
 ·subst e;rw [if_pos rfl,if_pos ⟨by omega,rfl⟩];congr 1;omega
 ·rw [if_neg e,if_neg (by omega)];simp
theorem zlc{nx:Nat->Int}{l:List Int}{wr:World}{g k:Nat}(hk:k<l.length)(hx:l[k]=0)(h:wr.rowIs g 197 12 (fun j=> .int .i64 (nx j+cn (l.take k) j))) :
  wr.rowIs g 197 12 (fun j=> .int .i64 (nx j+cn (l.take (k+1)) j)):=by
 refine h.congr fun i _=>?_
 rw [ysp hk,hx];simp
theorem y6y{w0 w1 w2:World}(h1:Below w0.heap.size w0 w1)(h2:Below w1.heap.size w1 w2):Below w0.heap.size w0 w2:=h1.trans (h2.mono h1.size)
theorem z7r{l:List Int}(hl:l.length<=269):∀ j,j<12->0<=cn l j∧cn l j<=1000000:=fun j _=>⟨v4o l j,by have:=kc7 l j;omega⟩
theorem jax{w:World}{g:Nat}{f:Nat->Int}(h:w.heap[g]?=some (.cells (arr f) 199 (0,0))) :
  w.cell? ⟨g,0,none⟩=some (.int .i64 (f 0))∧w.cell? ⟨g,1,none⟩=some (.int .i64 (f 1))∧w.cell? ⟨g,2,none⟩=some (.int .i64 (f 2))∧w.cell? ⟨g,3,none⟩=some (.int .i64 (f 3))∧w.cell? ⟨g,4,none⟩=some (.int .i64 (f 4))∧w.cell? ⟨g,5,none⟩=some (.int .i64 (f 5))∧w.cell? ⟨g,6,none⟩=some (.int .i64 (f 6))∧w.cell? ⟨g,7,none⟩=some (.int .i64 (f 7))∧w.cell? ⟨g,8,none⟩=some (.int .i64 (f 8))∧w.cell? ⟨g,9,none⟩=some (.int .i64 (f 9))∧w.cell? ⟨g,10,none⟩=some (.int .i64 (f 10))∧w.cell? ⟨g,11,none⟩=some (.int .i64 (f 11)):=by
 have k:=fun j=>cell_of_row w g j _ _ _ h
 exact ⟨k 0,k 1,k 2,k 3,k 4,k 5,k 6,k 7,k 8,k 9,k 10,k 11⟩
def xir(f g:Nat->Int):Nat->Int
 | 0=>0
 | k+1=>xir f g k+f k*g k
def jwa(g:Nat->Int)(l:List Int):Int:=(l.map fun x=>if 0<x then g x.toNat else 0).sum
theorem xyc(f:Nat->Int)(k:Nat):shr f k=xir f (fun j=>2^(11 - j)) k:=by
 induction k with
 | zero=>rfl
 | succ k ih=>simp [shr,xir,ih]
theorem zah(x:Int)(l:List Int)(j:Nat):cn (x :: l) j=(if 0<x∧x=j then 1 else 0)+cn l j:=by
 unfold cn;by_cases h:0<x∧x=(j:Int)
 ·have:(decide (0<x) && x==(j:Int))=true:=by simp [h.2];omega
  rw [if_pos h,List.filter_cons,this];simp;omega
 ·have:(decide (0<x) && x==(j:Int))=false:=by
   rw [Bool.eq_false_iff];intro h';simp at h';exact h ⟨h'.1,h'.2⟩
  rw [if_neg h,List.filter_cons,this];simp
theorem jrc(g:Nat->Int)(k:Nat):xir (cn []) g k=0:=by
 induction k with
 | zero=>rfl
 | succ k ih=>simp [xir,ih,j3h]
theorem kk9(x:Int)(l:List Int)(g:Nat->Int)(k:Nat):xir (cn (x :: l)) g k=(if 0<x∧x.toNat<k then g x.toNat else 0)+xir (cn l) g k:=by
 induction k with
 | zero=>simp [xir]
 | succ k ih=>
  simp only [xir,ih,zah];by_cases h:0<x∧x=(k:Int)
  ·have e:x.toNat=k:=by omega
   rw [if_neg (by omega),if_pos h,if_pos (by omega),e,Int.add_mul];omega
  ·rw [if_neg h];by_cases h2:0<x∧x.toNat<k
   ·rw [if_pos h2,if_pos (by omega)];simp;omega
   ·rw [if_neg h2,if_neg (by omega)];simp
theorem zan(g:Nat->Int)(l:List Int)(hr:inRange l=true):xir (cn l) g 12=jwa g l:=by
 induction l with
 | nil=>simp [jrc,jwa]
 | cons x l ih=>
  simp [inRange,yuc] at hr;have hr':inRange l=true:=by simp [inRange,yuc];exact hr.2
  rw [kk9,ih hr'];simp only [jwa,List.map_cons,List.sum_cons];by_cases h:0<x
  ·rw [if_pos h,if_pos ⟨h,by omega⟩]
  ·rw [if_neg h,if_neg (by omega)]
theorem kfr(l:List Int)(hr:inRange l=true):shr (cn l) 12=jwa (fun j=>2^(11 - j)) l:=by rw [xyc,zan _ _ hr]
theorem vto(l:List Int):inRange l=true↔∀ x∈l,0<=x∧x<=11:=by simp [inRange,yuc]
theorem jf2(f:Nat->Int):y1y f=true↔∀ j,j<12->f j=one j:=by simp [y1y]
theorem jue{f:Nat->Int}(h:y1y f=true)(g:Nat->Int):xir f g 12=g 1:=by
 have k:=(jf2 f).1 h;simp [xir,k 0,k 1,k 2,k 3,k 4,k 5,k 6,k 7,k 8,k 9,k 10,k 11,one]
theorem ks4{l:List Int}(hr:YtbcjmakpempkiaaGreatDoor.inRange l=true)(h:y1y (cn l)=true)(g:Nat->Int):jwa g l=g 1:=by rw [← zan g l hr,jue h g]
theorem y0b(f:Nat->Int)(k:Nat)(hk:k<=11):fc f k*2^(11 - k)=shr f k:=by
 induction k with
 | zero=>simp [fc,shr]
 | succ k ih=>
  have e:(2:Int)^(11 - k)=2*2^(11 - (k+1)):=by
   rw [show 11 - k=(11 - (k+1))+1 from by omega,Int.pow_succ];omega
  have ih':=ih (by omega);simp only [fc,shr];rw [← ih',e,Int.mul_assoc,Int.add_mul]
theorem j7p(f:Nat->Int)(hf:∀ j,0<=f j){a b:Nat}(h:a<=b):shr f a<=shr f b:=by
 induction b with
 | zero=>
   have:a=0:=by omega
   subst this;exact Int.le_refl _
 | succ b ih=>
  by_cases e:a=b+1
  ·subst e;exact Int.le_refl _
  ·have:=ih (by omega);have h1:0<=f b*2^(11 - b):=Int.mul_nonneg (hf b) (Int.le_of_lt (Int.pow_pos (by decide)));simp only [shr];omega
theorem zzs(l:List Int)(j:Nat){a b:Nat}(h:a<=b):cn (l.take a) j<=cn (l.take b) j:=by
 induction b with
 | zero=>
   have:a=0:=by omega
   subst this;exact Int.le_refl _
 | succ b ih=>
  by_cases e:a=b+1
  ·subst e;exact Int.le_refl _
  ·have:=ih (by omega);by_cases hb:b<l.length
   ·rw [ysp hb];split <;> omega
   ·rw [List.take_of_length_le (i:=b+1) (by omega)];rw [List.take_of_length_le (i:=b) (by omega)] at this;exact this
theorem ygz{l:List Int}{i:Nat}(hi:i<l.length){n:Nat}(hn:0<n)(h:l[i]=(n:Int)){b:Nat}(hb:i<b):cn (l.take i) n<cn (l.take b) n:=by
 have h1:=zzs l n (show i+1<=b from hb);rw [ysp hi,if_pos ⟨by omega,h⟩] at h1;omega
theorem ynl{l:List Int}{i:Nat}(hi:i<l.length){n:Nat}(hn:0<n)(h:l[i]=(n:Int)):cn (l.take i) n+1<=cn l n:=by
 have:=ygz hi hn h hi;rw [List.take_length] at this;omega
theorem nth(l:List Int)(n:Nat)(q:Int)(h0:0<=q)(h1:q<cn l n):∃ i,∃ h:i<l.length,l[i]=(n:Int)∧cn (l.take i) n=q:=by
 have key:∀ k,k<=l.length->q<cn (l.take k) n->∃ i,∃ h:i<l.length,l[i]=(n:Int)∧cn (l.take i) n=q:=by
  intro k;induction k with
  | zero=>intro _ h;simp [j3h] at h;omega
  | succ k ih=>
   intro hk h;rw [ysp (by omega)] at h;by_cases e:0<l[k]∧l[k]=(n:Int)
   ·rw [if_pos e] at h;by_cases e2:q<cn (l.take k) n
    ·exact ih (by omega) e2
    ·exact ⟨k,by omega,e.2,by omega⟩
   ·rw [if_neg e] at h;exact ih (by omega) (by omega)
 exact key l.length (Nat.le_refl _) (by rw [List.take_length];exact h1)
def start(l:List Int)(i n:Nat):Int:=shr (cn l) n+cn (l.take i) n*2^(11 - n)
theorem yta{l:List Int}{i n:Nat}(hi:i<l.length)(hn:0<n)(hn2:n<=11)(h:l[i]=(n:Int)):cdv (fc (cn l)) l i*2^(11 - n)=start l i n:=by
 rw [xj2 hi h hn,Int.add_mul,y0b _ _ hn2];rfl
theorem vnz(m:Nat)(h:m<=11):0<2^m∧2^m<=2048:=⟨Nat.pow_pos (by decide),Nat.pow_le_pow_right (n:=2) (by decide) h⟩
def gw(j:Nat):Int:=((2^(11 - j):Nat):Int)
theorem yky:(fun j=>(2:Int)^(11 - j))=gw:=by funext j;simp [gw]
theorem vtl(g:Nat->Int)(M:Int)(hg:∀ j,0<=g j∧g j<=M)(hM:0<=M)(l:List Int):0<=jwa g l∧jwa g l<=M*l.length:=by
 induction l with
 | nil=>simp [jwa]
 | cons x l ih=>
  have:=hg x.toNat;simp only [jwa,List.map_cons,List.sum_cons,List.length_cons] at *;rw [Int.natCast_add,Int.mul_add];split <;> simp <;> omega
def ky9(l:List Int):Bool:=jwa (fun _=>1) l==1 && jwa gw l==1024
def ahd(l:List Int)(s:Nat):Nat->Int
 | 0=>0
 | k+1=>ahd l s k+if 0<l.getD k 0∧(l.getD k 0<l.getD s 0∨(l.getD k 0=l.getD s 0∧k<s)) then gw (l.getD k 0).toNat else 0
theorem jg6(l:List Int)(x:Int)(g:Nat->Int)(k:Nat):xir (cn (l++[x])) g k=xir (cn l) g k+(if 0<x∧x.toNat<k then g x.toNat else 0):=by
 induction k with
 | zero=>simp [xir]
 | succ k ih=>
  simp only [xir,ih,vuc];by_cases h:0<x∧x=(k:Int)
  ·have e:x.toNat=k:=by omega
   rw [if_neg (by omega),if_pos h,if_pos (by omega),e,Int.add_mul];omega
  ·rw [if_neg h];by_cases h2:0<x∧x.toNat<k
   ·rw [if_pos h2,if_pos (by omega)];simp;omega
   ·rw [if_neg h2,if_neg (by omega)];simp
theorem yoi(f:Nat->Int)(k:Nat):shr f k=xir f gw k:=by rw [xyc,yky]
theorem vp8{l:List Int}(hr:inRange l=true){s m:Nat}(hs:s<l.length)(hm:l[s]=(m:Int))(k:Nat)(hk:k<=l.length) :
  ahd l s k=shr (cn (l.take k)) m+(if 0<m then cn (l.take (min k s)) m*gw m else 0):=by
 induction k with
 | zero=>simp [ahd,yoi,jrc,j3h]
 | succ k ih=>
  have hk':k<l.length:=by omega
  obtain ⟨n,hn11,hn⟩:=z3a hr hk';have e1:l.getD k 0=n:=by simp [hk',hn]
  have e2:l.getD s 0=m:=by simp [hs,hm]
  simp only [ahd];rw [ih (by omega),e1,e2,yoi,yoi,List.take_succ_eq_append_getElem hk',jg6,hn];have e3:(n:Int).toNat=n:=by simp
  rw [e3];by_cases hm0:0<m
  ·rw [if_pos hm0,if_pos hm0];by_cases hks:k<s
   ·have hmin:min (k+1) s=min k s+1:=by omega
    have hmk:min k s=k:=by omega
    rw [hmin,hmk,ysp hk',hn];by_cases c1:0<n∧n<m
    ·rw [if_pos (by omega),if_pos (by omega),if_neg (by omega)];simp;omega
    ·by_cases c2:0<n∧n=m
     ·rw [if_pos (by omega),if_neg (by omega),if_pos (by omega),c2.2,Int.add_mul];omega
     ·rw [if_neg (by omega),if_neg (by omega),if_neg (by omega)];simp
   ·have hmin:min (k+1) s=min k s:=by omega
    rw [hmin];by_cases c1:0<n∧n<m
    ·rw [if_pos (by omega),if_pos (by omega)];omega
    ·rw [if_neg (by omega),if_neg (by omega)];omega
  ·have:m=0:=by omega
   subst this;rw [if_neg hm0,if_neg hm0,if_neg (by omega),if_neg (by omega)]
theorem y1o(m:Nat):gw m=2^(11 - m):=by simp [gw]
theorem vhr(m:Nat):0<gw m:=by have:=vnz (11 - m) (by omega);unfold gw;omega
theorem xjq{l:List Int}(hr:inRange l=true){s m:Nat}(hs:s<l.length)(hm:l[s]=(m:Int))(hm0:0<m):ahd l s l.length / gw m=cdv (fc (cn l)) l s:=by
 have hm11:m<=11:=by obtain ⟨n,h1,h2⟩:=z3a hr hs;omega
 have h:=vp8 hr hs hm l.length (Nat.le_refl _);rw [List.take_length,if_pos hm0,show min l.length s=s by omega] at h;have h2:=yta hs hm0 hm11 hm;unfold start at h2;rw [h,y1o,← h2,Int.mul_ediv_cancel];have:=vhr m;rw [y1o] at this;omega
def rv(l:List Int)(i:Nat):Int:=if 0<l.getD i 0 then ahd l i l.length / gw (l.getD i 0).toNat else -1
theorem xiy{l:List Int}(hr:inRange l=true){i:Nat}(hi:i<l.length):rv l i=cdv (fc (cn l)) l i:=by
 obtain ⟨n,hn11,hn⟩:=z3a hr hi;have e1:l.getD i 0=n:=by simp [hi,hn]
 unfold rv;rw [e1];by_cases h0:0<n
 ·rw [if_pos (by omega)];have:=xjq hr hi hn h0;simpa using this
 ·have:n=0:=by omega
  subst this;rw [if_neg (by omega),j37 hi (by simpa using hn)]
theorem yzd(l:List Int)(j:Nat)(hj:0<j):cn l j=jwa (fun i=>if i=j then 1 else 0) l:=by
 induction l with
 | nil=>rfl
 | cons x l ih=>
  rw [zah,ih];simp only [jwa,List.map_cons,List.sum_cons];by_cases h:0<x
  ·rw [if_pos h];by_cases h2:x=(j:Int)
   ·rw [if_pos ⟨h,h2⟩,if_pos (by omega)]
   ·rw [if_neg (by omega),if_neg (by omega)]
  ·rw [if_neg h,if_neg (by omega)]
theorem xu8(l:List Int):cn l 0=0:=by
 unfold cn;have:l.filter (fun x=>decide (0<x) && x==((0:Nat):Int))=[]:=by
  rw [List.filter_eq_nil_iff];intro x _;simp;omega
 rw [this];rfl
theorem v6y(l:List Int)(h:jwa (fun _=>1) l=0)(g:Nat->Int):jwa g l=0:=by
 induction l with
 | nil=>rfl
 | cons x l ih=>
  have hle:=vtl (fun _=>1) 1 (fun _=>by decide) (by decide) l;simp only [jwa,List.map_cons,List.sum_cons] at *;by_cases hx:0<x
  ·rw [if_pos hx] at h;omega
  ·rw [if_neg hx] at h ⊢;rw [ih (by omega)];rfl
theorem xp5(l:List Int)(h:jwa (fun _=>1) l=1):∃ n:Nat,∀ g:Nat->Int,jwa g l=g n:=by
 induction l with
 | nil=>simp [jwa] at h
 | cons x l ih=>
  have hc:∀ g,jwa g (x :: l)=(if 0<x then g x.toNat else 0)+jwa g l:=fun g=>by simp [jwa]
  rw [hc] at h;by_cases hx:0<x
  ·rw [if_pos hx] at h;have h0:=v6y l (by omega);exact ⟨x.toNat,fun g=>by rw [hc,if_pos hx,h0];omega⟩
  ·rw [if_neg hx] at h;obtain ⟨n,hn⟩:=ih (by omega);exact ⟨n,fun g=>by rw [hc,if_neg hx,hn];omega⟩
theorem jqm{n:Nat}(h:gw n=1024):n=1:=by
 apply Classical.byContradiction;intro hn;rcases Nat.lt_or_ge n 1 with h1 | h1
 ·have:n=0:=by omega
  subst this;revert h;decide
 ·have:11 - n<=9:=by omega
  have:=Nat.pow_le_pow_right (n:=2) (by decide) this;unfold gw at h;omega
theorem ksm{l:List Int}(hr:inRange l=true):ky9 l=y1y (cn l):=by
 cases h:y1y (cn l)
 ·rw [Bool.eq_false_iff];intro hs;simp only [ky9,Bool.and_eq_true,beq_iff_eq] at hs;obtain ⟨n,hn⟩:=xp5 l hs.1;have h1:=jqm (by rw [← hn gw];exact hs.2);subst h1;rw [Bool.eq_false_iff] at h;apply h;rw [jf2];intro j hj;rcases Nat.eq_zero_or_pos j with e | e
  ·subst e;rw [xu8];rfl
  ·rw [yzd l j e,hn];unfold one;by_cases e1:j=1
   ·subst e1;rfl
   ·rw [if_neg (by omega),if_neg e1]
 ·have a:=ks4 hr h (fun _=>1);have b:=ks4 hr h gw;simp [ky9,a,b];decide
def k2f(l:List Int):List Value:=l.map (Value.int .i64)
def sxy(f:Nat->Int):Nat->Int×Int
 | 0=>(1,0)
 | k+1=>(((sxy f k).1+f k)%65521,((sxy f k).2+((sxy f k).1+f k)%65521)%65521)
def vhw(s:ByteArray)(k:Nat):Int:=((s.data.toList.getD k 0).toNat:Int)
theorem yq7(s:ByteArray)(k:Nat)(h:k<s.size):((s[k]).toNat:Int)=vhw s k:=by
 unfold vhw;have:s.data.toList.getD k 0=s[k]:=by
  have h':k<s.data.toList.length:=by simpa using h
  rw [List.getD_eq_getElem?_getD,List.getElem?_eq_getElem h'];rfl
 rw [this]
theorem jeu(cs:Array Value)(h:cs.size=2):(Tryz.prog.info? 119).map (·.size)=some cs.size:=by rw [h];kernel_rfl
theorem xch{w:World}{g T:Nat}{f:Nat->Value}(h:w.rowIs g T 2 f):w.heap[g]?=some (.cells #[f 0,f 1] T):=by
 obtain ⟨c,hc,hn,hv⟩:=h;rw [hc];have h0:=hv 0 (by omega);have h1:=hv 1 (by omega);have:c=#[f 0,f 1]:=by
  apply Array.ext
  ·simpa using hn
  ·intro i h2 h3;have:i=0∨i=1:=by simp at h3;omega
   rcases this with rfl | rfl
   ·rw [Array.getElem?_eq_getElem h2] at h0;simpa using h0
   ·rw [Array.getElem?_eq_getElem h2] at h1;simpa using h1
 rw [this]
theorem kmk(w:World):Calls Tryz.prog 110 #[] w fun e w'=>e= .returned (.agg #[.int .i64 1, .int .i64 0])∧Below w.heap.size w w':=by
 go_enter Tryz.func110,Tryz.ntmps110
 go_wp2
 refine bodyPost_ret (v:= .agg #[.int .i64 1, .int .i64 0]) ?_ rfl ?_
 ·exact results_cell_row Tryz.results110 _ _ _ 119 _ _ _ rfl (heap_alloc_new _ _) Tryz.underlying119 rfl (jeu _ rfl)
 ·exact ⟨rfl,(Below.refl _ _).alloc (Nat.le_refl _) _⟩
theorem zf1(x y:Int)(w:World)(hx:0<=x∧x<=65520)(hy:0<=y∧y<=65520) :
  Calls Tryz.prog 112 #[.agg #[.int .i64 x, .int .i64 y]] w fun e w'=>e= .returned (.int .i64 (65536*y+x))∧Below w.heap.size w w':=by
 go_enter Tryz.func112,Tryz.ntmps112
 go_wp2
 go_ret
 exact ⟨rfl,(Below.refl _ _).alloc (Nat.le_refl _) _⟩
theorem kd6(g o:Nat)(x y b:Int)(w:World)(hx:0<=x∧x<=65520)(hy:0<=y∧y<=65520)(hb:0<=b∧b<=255)
  (cx:w.cell? ⟨g,o,none⟩=some (.int .i64 x)) (cy:w.cell? ⟨g,o+1,none⟩=some (.int .i64 y)) (fx:w.frozen? ⟨g,o,none⟩=false) (fy:w.frozen? ⟨g,o+1,none⟩=false) :
  Calls Tryz.prog 111 #[.pointer (some ⟨g,o,none⟩), .int .u8 b] w fun e w'=>e= .returned (.tuple #[])∧
   ∃ m,w'=((w.drewN m).setCell ⟨g,o,none⟩ (.int .i64 ((x+b)%65521))).setCell ⟨g,o+1,none⟩ (.int .i64 ((y+(x+b)%65521)%65521)):=by
 go_enter Tryz.func111,Tryz.ntmps111
 go_wp2
 go_region
 all_goals
  go_end0
  refine ⟨rfl,1,?_⟩;first | rfl | (simp;rfl)
def k0w(s:ByteArray)(k:Nat):Nat:=(s.data.toList.getD k 0).toNat
theorem z5g(s:ByteArray)(k:Nat):k0w s k<256:=(s.data.toList.getD k 0).toNat_lt
theorem k2a(s:ByteArray)(k:Nat)(h:k<s.size):(s[k]).toNat=k0w s k:=by
 have:=yq7 s k h;unfold vhw at this;unfold k0w;omega
structure Tr where
 out:List Nat
 ats:List Nat
 inn:Nat
 starts:List Nat
 err:Nat
 needs:Bool
 s:ByteArray
 cur:Nat
 left:Nat
 frm:Nat
 head:Nat
 many:Nat
 limit:Nat
namespace Tr
def ended(t:Tr):Bool:=t.err !=0 || t.needs
def fail(t:Tr)(e:Nat):Tr:=if t.ended then t else { t with err:=e }
def octet(t:Tr):Nat×Tr:=
 if t.ended then (0,t) else if t.s.size<=t.inn then (0,{ t with needs:=true }) else (k0w t.s t.inn,{ t with inn:=t.inn+1 })
def load(t:Tr):Tr:=if t.left=0 then { t.octet.2 with cur:=t.octet.1,left:=8 } else t
def bit(t:Tr):Nat×Tr:=(t.load.cur%2,{ t.load with cur:=t.load.cur / 2,left:=t.load.left - 1 })
def number(t:Tr):Nat->Nat×Tr
 | 0=>(0,t)
 | k+1=>((t.number k).1+(t.number k).2.bit.1*2^k,(t.number k).2.bit.2)
def skip(t:Tr):Tr:={ (if 0<t.left∧t.cur≠0 then t.fail 8 else t) with left:=0 }
def put(t:Tr)(b:Nat):Tr:=if t.ended then t else { t with out:=t.out++[b],ats:=t.ats++[t.inn] }
end Tr
structure RSet where
 l:List Int
 many:Int
 one:Bool
def rset(l:List Int):RSet:=⟨l,jwa (fun _=>1) l,ky9 l⟩
def yk3:RSet:=⟨[],0,false⟩
def x66(l:List Int)(n c:Int):Nat->Nat->Int
 | 0,_=> -1
 | r+1,i=>if l.getD i 0=n∧rv l i=c then i else x66 l n c r (i+1)
def find(S:RSet)(n c:Int):Int:=x66 S.l n c S.l.length 0
namespace Tr
def sym(S:RSet):Nat->Nat->Nat->Tr->Int×Tr
 | 0,_,_,t=>(-1,t)
 | r+1,n,c,t=>
  if t.bit.2.ended then (-1,t.bit.2)
  else if 0<=find S n (2*c+t.bit.1:Nat) then (find S n (2*c+t.bit.1:Nat),t.bit.2)
  else if S.one then (-1,t.bit.2)
  else sym S r (n+1) (2*c+t.bit.1) t.bit.2
def symbol(t:Tr)(S:RSet):Int×Tr:=sym S 11 1 0 t
def bytes:Nat->Tr->Tr
 | 0,t=>t
 | n+1,t=>if t.ended then t else bytes n (t.octet.2.put t.octet.1)
def plainHead(t:Tr):Nat×Tr:=
 let a:=t.skip.octet
 let b:=a.2.octet
 let c:=b.2.octet
 let d:=c.2.octet
 (a.1+256*b.1,if c.1+256*d.1=65535 - (a.1+256*b.1) then d.2 else d.2.fail 9)
def plain(t:Tr):Tr:=bytes t.plainHead.1 t.plainHead.2
def mu(t:Tr):Nat:=if t.ended then 0 else 1+8*(t.s.size - t.inn)+t.left
def helped(t:Tr)(k:Int)(l:List Int):Int×Nat×Tr:=
 if k=12 then
  (if l.length=0 then 0 else l.getD (l.length - 1) 0,3+(t.number 2).1,if l.length=0 then (t.number 2).2.fail 10 else (t.number 2).2)
 else if k=13 then (0,3+(t.number 3).1,(t.number 3).2)
 else if k=14 then (0,11+(t.number 6).1,(t.number 6).2)
 else (k,1,t)
def rowStep(H:RSet)(n:Nat)(l:List Int)(t:Tr):List Int×Tr:=
 let h:=helped (t.symbol H).2 (t.symbol H).1 l
 let t1:=if n<l.length+h.2.1 then h.2.2.fail 10 else h.2.2
 (if t1.ended then l else l++List.replicate h.2.1 h.1,t1)
def row(H:RSet)(n:Nat)(l:List Int)(t:Tr):List Int×Tr:=
 if l.length<n∧t.ended=false then
  if _h:(rowStep H n l t).2.mu<t.mu then row H n (rowStep H n l t).1 (rowStep H n l t).2 else (l,t)
 else (l,t)
 termination_by t.mu
def order:List Nat:=[13,14,12,0,7,8,6,9,5,10,4,11,3,2,1]
def helps:Nat->Nat->List Int->Tr->List Int×Tr
 | 0,_,l,t=>(l,t)
 | r+1,i,l,t=>if t.ended then (l,t) else helps r (i+1) (l.set (order.getD i 0) (t.number 3).1) (t.number 3).2
def ownHead(t:Tr):Nat×Nat×Nat×Tr:=
 let a:=t.number 4
 let t1:=if 12<a.1 then a.2.fail 10 else a.2
 let b:=t1.number 4
 let c:=b.2.number 4
 (a.1,b.1,c.1,if 11<c.1 then c.2.fail 10 else c.2)
def ownHelp(t:Tr):List Int×Tr:=
 let h:=helps (4+t.ownHead.2.2.1) 0 (List.replicate 15 0) t.ownHead.2.2.2
 (h.1,if jwa gw h.1=2048 then h.2 else h.2.fail 10)
def ownRow(t:Tr):List Int×Tr:=row (rset t.ownHelp.1) (257+t.ownHead.1+1+t.ownHead.2.1) [] t.ownHelp.2
def own(t:Tr):RSet×RSet×Tr:=
 if t.ownHelp.2.ended then (yk3,yk3,t.ownHelp.2)
 else if t.ownRow.2.ended then (yk3,yk3,t.ownRow.2)
 else
  let a:=t.ownRow.1.take (257+t.ownHead.1)
  let b:=t.ownRow.1.drop (257+t.ownHead.1)
  (rset a,rset b,if a.getD 256 0=0∨jwa gw a≠2048∨(jwa gw b≠2048∧ky9 b=false∧0<jwa (fun _=>1) b) then t.ownRow.2.fail 10 else t.ownRow.2)
def fixedA:List Int:=List.replicate 243 8++List.replicate 26 9
def fixedB:List Int:=List.replicate 16 4
def spanLeast(base k:Nat):Nat:=if k<4 then base+k else base+(2+k%2)*2^((k - 2) / 2)
def spanBits(k:Nat):Nat:=if k<4 then 0 else (k - 2) / 2
def copyN(far:Nat):Nat->Tr->Tr
 | 0,t=>t
 | n+1,t=>if t.ended then t else copyN far n (t.put (t.out.getD (t.out.length - far) 0))
def copies(t:Tr)(b:RSet)(k:Nat):Tr:=
 let m:=t.number (spanBits k)
 let t1:=if b.many=0 then m.2.fail 11 else m.2
 let d:=t1.symbol b
 if d.1<0 then d.2.fail 11
 else
  let f:=d.2.number (spanBits d.1.toNat)
  let far:=spanLeast 1 d.1.toNat+f.1
  copyN far (spanLeast 3 k+m.1) (if f.2.out.length - f.2.frm<far then f.2.fail 11 else f.2)
def contentStep(t:Tr)(a b:RSet):Tr:=
 if (t.symbol a).1<256 then (t.symbol a).2.put ((t.symbol a).1%256).toNat else (t.symbol a).2.copies b ((t.symbol a).1 - 257).toNat
def content(a b:RSet)(t:Tr):Tr:=
 if t.ended then t
 else if (t.symbol a).2.ended=true∨(t.symbol a).1=256 then (t.symbol a).2
 else if _h:(t.contentStep a b).mu<t.mu then content a b (t.contentStep a b) else t
 termination_by t.mu
def block(kind:Nat)(t:Tr):Tr:=
 if kind=0 then t.plain
 else if kind=1 then content (rset fixedA) (rset fixedB) t
 else if kind=2 then content t.own.1 t.own.2.1 t.own.2.2
 else t.fail 7
def blocksFrom(t:Tr):Tr:=
 if t.ended then t
 else if (t.bit.2.number 2).2.ended then (t.bit.2.number 2).2
 else if t.bit.1≠0 then (if (block (t.bit.2.number 2).1 (t.bit.2.number 2).2).ended then block (t.bit.2.number 2).1 (t.bit.2.number 2).2 else (block (t.bit.2.number 2).1 (t.bit.2.number 2).2).skip)
 else if _h:(block (t.bit.2.number 2).1 (t.bit.2.number 2).2).mu<t.mu then blocksFrom (block (t.bit.2.number 2).1 (t.bit.2.number 2).2)
 else t
 termination_by t.mu
def blocks(t:Tr):Tr:=blocksFrom { t with frm:=t.out.length,left:=0 }
end Tr
namespace Tr
theorem ended_iff(t:Tr):t.ended=false↔t.err=0∧t.needs=false:=by
 unfold ended;cases t.needs <;> simp
theorem mu_ended{t:Tr}(h:t.ended=true):t.mu=0:=by simp [mu,h]
theorem mu_going{t:Tr}(h:t.ended=false):t.mu=1+8*(t.s.size - t.inn)+t.left:=by simp [mu,h]
theorem mu_pos{t:Tr}(h:t.ended=false):0<t.mu:=by rw [mu_going h];omega
theorem fail_ended{t:Tr}(h:t.ended=true)(e:Nat):t.fail e=t:=by simp [fail,h]
theorem fail_going{t:Tr}(h:t.ended=false)(e:Nat):t.fail e={ t with err:=e }:=by simp [fail,h]
theorem ended_fail(t:Tr){e:Nat}(he:e≠0):(t.fail e).ended=true:=by
 cases h:t.ended
 ·rw [fail_going h];simp [ended,he]
 ·rw [fail_ended h,h]
theorem mu_fail(t:Tr){e:Nat}(he:e≠0):(t.fail e).mu=0:=mu_ended (ended_fail t he)
theorem octet_ended{t:Tr}(h:t.ended=true):t.octet=(0,t):=by simp [octet,h]
theorem octet_none{t:Tr}(h:t.ended=false)(hs:t.s.size<=t.inn):t.octet=(0,{ t with needs:=true }):=by simp [octet,h,hs]
theorem octet_some{t:Tr}(h:t.ended=false)(hs:t.inn<t.s.size):t.octet=(k0w t.s t.inn,{ t with inn:=t.inn+1 }):=by
 simp [octet,h];omega
theorem put_ended{t:Tr}(h:t.ended=true)(b:Nat):t.put b=t:=by simp [put,h]
theorem put_going{t:Tr}(h:t.ended=false)(b:Nat):t.put b={ t with out:=t.out++[b],ats:=t.ats++[t.inn] }:=by simp [put,h]
theorem ended_put(t:Tr)(b:Nat):(t.put b).ended=t.ended:=by
 cases h:t.ended
 ·rw [put_going h];simpa [ended] using h
 ·rw [put_ended h,h]
theorem mu_put(t:Tr)(b:Nat):(t.put b).mu=t.mu:=by
 cases h:t.ended
 ·rw [mu_going h,mu_going (by rw [ended_put,h])];rw [put_going h]
 ·rw [put_ended h]
theorem load_zero{t:Tr}(h:t.left=0):t.load={ t.octet.2 with cur:=t.octet.1,left:=8 }:=by simp [load,h]
theorem load_pos{t:Tr}(h:0<t.left):t.load=t:=by simp only [load];rw [if_neg (by omega)]
structure Fwd(t t':Tr):Prop where
 out:t'.out=t.out
 ats:t'.ats=t.ats
 starts:t'.starts=t.starts
 s:t'.s=t.s
 frm:t'.frm=t.frm
 limit:t'.limit=t.limit
 mu:t'.mu<=t.mu
 ended:t.ended=true->t'.ended=true
theorem Fwd.refl(t:Tr):Fwd t t:=⟨rfl,rfl,rfl,rfl,rfl,rfl,Nat.le_refl _,fun h=>h⟩
theorem Fwd.trans{a b c:Tr}(h:Fwd a b)(k:Fwd b c):Fwd a c:=⟨k.out.trans h.out,k.ats.trans h.ats,k.starts.trans h.starts,k.s.trans h.s,k.frm.trans h.frm,k.limit.trans h.limit,Nat.le_trans k.mu h.mu,fun x=>k.ended (h.ended x)⟩
theorem Fwd.of_ended{a b:Tr}(h:Fwd a b)(hb:b.ended=false):a.ended=false:=by
 cases e:a.ended
 ·rfl
 ·rw [h.ended e] at hb;cases hb
theorem fwd_fail(t:Tr){e:Nat}(he:e≠0):Fwd t (t.fail e):=by
 cases h:t.ended
 ·have h2:=ended_fail t he;refine ⟨?_,?_,?_,?_,?_,?_,by rw [mu_fail t he];omega,fun _=>h2⟩ <;> rw [fail_going h]
 ·rw [fail_ended h];exact Fwd.refl t
theorem fwd_octet(t:Tr):Fwd t t.octet.2:=by
 cases h:t.ended
 ·by_cases hs:t.s.size<=t.inn
  ·rw [octet_none h hs];exact ⟨rfl,rfl,rfl,rfl,rfl,rfl,by rw [mu_ended (by simp [Tr.ended])];omega,fun _=>by simp [Tr.ended]⟩
  ·rw [octet_some h (by omega)];have h':({ t with inn:=t.inn+1 }:Tr).ended=false:=by simpa [Tr.ended] using h
   exact ⟨rfl,rfl,rfl,rfl,rfl,rfl,by rw [mu_going h,mu_going h'];simp only;omega,fun x=>by rw [h] at x;cases x⟩
 ·rw [octet_ended h];exact Fwd.refl t
theorem mu_octet{t:Tr}(h:t.octet.2.ended=false):t.octet.2.mu+8=t.mu:=by
 have ht:=(fwd_octet t).of_ended h;by_cases hs:t.s.size<=t.inn
 ·rw [octet_none ht hs] at h;simp [Tr.ended] at h
 ·rw [mu_going h,mu_going ht,octet_some ht (by omega)];simp only;omega
theorem fwd_bit(t:Tr):Fwd t t.bit.2:=by
 have e1:t.bit.2.ended=t.load.ended:=rfl;by_cases hl:t.left=0
 ·have e2:t.load.ended=t.octet.2.ended:=by rw [load_zero hl];rfl
  have f:=fwd_octet t;refine ⟨?_,?_,?_,?_,?_,?_,?_,fun h=>by rw [e1,e2];exact f.ended h⟩
  ·show t.load.out=_;rw [load_zero hl];exact f.out
  ·show t.load.ats=_;rw [load_zero hl];exact f.ats
  ·show t.load.starts=_;rw [load_zero hl];exact f.starts
  ·show t.load.s=_;rw [load_zero hl];exact f.s
  ·show t.load.frm=_;rw [load_zero hl];exact f.frm
  ·show t.load.limit=_;rw [load_zero hl];exact f.limit
  ·cases h:t.octet.2.ended
   ·have:=mu_octet h;have ht:=f.of_ended h;have g1:=mu_going h;have e3:t.bit.2.mu=1+8*(t.octet.2.s.size - t.octet.2.inn)+7:=by
     rw [mu_going (by rw [e1,e2,h])];show 1+8*(t.load.s.size - t.load.inn)+(t.load.left - 1)=_;rw [load_zero hl];rfl
    omega
   ·rw [mu_ended (by rw [e1,e2,h])];omega
 ·have e2:t.load=t:=load_pos (by omega);refine ⟨?_,?_,?_,?_,?_,?_,?_,fun h=>by rw [e1,e2];exact h⟩
  ·show t.load.out=_;rw [e2]
  ·show t.load.ats=_;rw [e2]
  ·show t.load.starts=_;rw [e2]
  ·show t.load.s=_;rw [e2]
  ·show t.load.frm=_;rw [e2]
  ·show t.load.limit=_;rw [e2]
  ·cases h:t.ended
   ·rw [mu_going h,mu_going (by rw [e1,e2,h])];show 1+8*(t.load.s.size - t.load.inn)+(t.load.left - 1)<=_;rw [e2];omega
   ·rw [mu_ended (by rw [e1,e2,h])];omega
theorem mu_bit{t:Tr}(h:t.ended=false):t.bit.2.mu<t.mu:=by
 have e1:t.bit.2.ended=t.load.ended:=rfl;cases hb:t.bit.2.ended
 ·by_cases hl:t.left=0
  ·have e2:t.load.ended=t.octet.2.ended:=by rw [load_zero hl];rfl
   have ho:t.octet.2.ended=false:=by rw [← e2,← e1,hb]
   have:=mu_octet ho;have g1:=mu_going ho;have e3:t.bit.2.mu=1+8*(t.octet.2.s.size - t.octet.2.inn)+7:=by
    rw [mu_going hb];show 1+8*(t.load.s.size - t.load.inn)+(t.load.left - 1)=_;rw [load_zero hl];rfl
   have e4:t.octet.2.left=0:=by
    by_cases hs:t.s.size<=t.inn
    ·rw [octet_none h hs];exact hl
    ·rw [octet_some h (by omega)];exact hl
   omega
  ·rw [mu_going h,mu_going hb];show 1+8*(t.load.s.size - t.load.inn)+(t.load.left - 1)<_;rw [load_pos (by omega)];omega
 ·rw [mu_ended hb];exact mu_pos h
theorem fwd_number(t:Tr)(k:Nat):Fwd t (t.number k).2:=by
 induction k with
 | zero=>exact Fwd.refl t
 | succ k ih=>exact ih.trans (fwd_bit _)
theorem fwd_skip(t:Tr):Fwd t t.skip:=by
 unfold skip;split
 ·have f:=fwd_fail t (e:=8) (by decide);exact ⟨f.out,f.ats,f.starts,f.s,f.frm,f.limit,by rw [mu_ended (t:={ t.fail 8 with left:=0 }) (ended_fail t (e:=8) (by decide))];omega,fun h=>f.ended h⟩
 ·refine ⟨rfl,rfl,rfl,rfl,rfl,rfl,?_,fun h=>h⟩;cases h:t.ended
  ·have h':({ t with left:=0 }:Tr).ended=false:=h;rw [mu_going h,mu_going h'];simp only;omega
  ·have h':({ t with left:=0 }:Tr).ended=true:=h;rw [mu_ended h'];omega
theorem fwd_sym(S:RSet)(r:Nat):∀ (n c:Nat) (t:Tr),Fwd t (sym S r n c t).2:=by
 induction r with
 | zero=>intro n c t;exact Fwd.refl t
 | succ r ih=>
  intro n c t;unfold sym;split
  ·exact fwd_bit t
  ·split
   ·exact fwd_bit t
   ·split
    ·exact fwd_bit t
    ·exact (fwd_bit t).trans (ih _ _ _)
theorem fwd_symbol(t:Tr)(S:RSet):Fwd t (t.symbol S).2:=fwd_sym S 11 1 0 t
theorem mu_symbol{t:Tr}(S:RSet)(h:t.ended=false):(t.symbol S).2.mu<t.mu:=by
 have hb:=mu_bit h;unfold symbol sym;split
 ·exact hb
 ·split
  ·exact hb
  ·split
   ·exact hb
   ·exact Nat.lt_of_le_of_lt (fwd_sym S 10 _ _ _).mu hb
theorem findFrom_lt(l:List Int)(n c:Int)(r:Nat):∀ i,x66 l n c r i<(i+r:Nat):=by
 induction r with
 | zero=>intro i;simp [x66];omega
 | succ r ih=>
  intro i;unfold x66;split
  ·omega
  ·have:=ih (i+1);omega
theorem find_lt(S:RSet)(n c:Int):find S n c<S.l.length:=by
 have:=findFrom_lt S.l n c S.l.length 0;unfold find;omega
theorem sym_lt(S:RSet)(r:Nat):∀ (n c:Nat) (t:Tr),(sym S r n c t).1<S.l.length∧ -1<=(sym S r n c t).1:=by
 induction r with
 | zero=>intro n c t;simp [sym];omega
 | succ r ih=>
  intro n c t;unfold sym;split
  ·exact ⟨by show (-1:Int)<_;omega,by show (-1:Int)<= -1;omega⟩
  ·split
   ·exact ⟨find_lt S _ _,by show -1<=find S _ _;omega⟩
   ·split
    ·exact ⟨by show (-1:Int)<_;omega,by show (-1:Int)<= -1;omega⟩
    ·exact ih _ _ _
theorem symbol_lt(t:Tr)(S:RSet):(t.symbol S).1<S.l.length∧ -1<=(t.symbol S).1:=sym_lt S 11 1 0 t
def cost(t:Tr):Nat:=t.out.length+66*t.mu
theorem Fwd.cost{a b:Tr}(h:Fwd a b):b.cost<=a.cost:=by unfold Tr.cost;rw [h.out];have:=h.mu;omega
theorem number_lt(t:Tr)(k:Nat):(t.number k).1<2^k:=by
 induction k with
 | zero=>simp [number]
 | succ k ih=>
  simp only [number];have h1:(t.number k).2.bit.1<=1:=by show _%2<=1;omega
  rw [Nat.pow_succ];have h2:(t.number k).2.bit.1*2^k<=1*2^k:=Nat.mul_le_mul_right _ h1;omega
end Tr
namespace Tr
structure Fine(t:Tr):Prop where
 left:t.left<=8
 cur:t.cur<256
 inn:t.inn<=t.s.size
 frm:t.frm<=t.out.length
 ats:t.ats.length=t.out.length
 err:t.err<=18
theorem Fine.fail{t:Tr}(h:Fine t){e:Nat}(he:e<=18):Fine (t.fail e):=by
 cases hd:t.ended
 ·rw [fail_going hd];exact ⟨h.left,h.cur,h.inn,h.frm,h.ats,he⟩
 ·rw [fail_ended hd];exact h
theorem octet_lt(t:Tr):t.octet.1<256:=by
 unfold octet;split
 ·simp
 ·split
  ·simp
  ·exact z5g _ _
theorem Fine.octet{t:Tr}(h:Fine t):Fine t.octet.2:=by
 cases hd:t.ended
 ·by_cases hs:t.s.size<=t.inn
  ·rw [octet_none hd hs];exact ⟨h.left,h.cur,h.inn,h.frm,h.ats,h.err⟩
  ·rw [octet_some hd (by omega)];exact ⟨h.left,h.cur,by show t.inn+1<=t.s.size;omega,h.frm,h.ats,h.err⟩
 ·rw [octet_ended hd];exact h
theorem Fine.load{t:Tr}(h:Fine t):Fine t.load:=by
 by_cases hl:t.left=0
 ·rw [load_zero hl];have f:=h.octet;exact ⟨by show 8<=8;omega,octet_lt t,f.inn,f.frm,f.ats,f.err⟩
 ·rw [load_pos (by omega)];exact h
theorem Fine.bit{t:Tr}(h:Fine t):Fine t.bit.2:=by
 have f:=h.load;exact ⟨by show t.load.left - 1<=8;have:=f.left;omega,by show t.load.cur / 2<256;have:=f.cur;omega,f.inn,f.frm,f.ats,f.err⟩
theorem Fine.number{t:Tr}(h:Fine t)(k:Nat):Fine (t.number k).2:=by
 induction k with
 | zero=>exact h
 | succ k ih=>exact ih.bit
theorem Fine.skip{t:Tr}(h:Fine t):Fine t.skip:=by
 unfold Tr.skip;split
 ·have f:=h.fail (e:=8) (by decide);exact ⟨Nat.zero_le _,f.cur,f.inn,f.frm,f.ats,f.err⟩
 ·exact ⟨Nat.zero_le _,h.cur,h.inn,h.frm,h.ats,h.err⟩
theorem Fine.put{t:Tr}(h:Fine t)(b:Nat):Fine (t.put b):=by
 cases hd:t.ended
 ·rw [put_going hd];exact ⟨h.left,h.cur,h.inn,by show t.frm<=(t.out++[b]).length;have:=h.frm;simp;omega,by show (t.ats++[t.inn]).length=(t.out++[b]).length;simp [h.ats],h.err⟩
 ·rw [put_ended hd];exact h
theorem Fine.sym(S:RSet)(r:Nat):∀ (n c:Nat) (t:Tr),Fine t->Fine (Tr.sym S r n c t).2:=by
 induction r with
 | zero=>intro n c t h;exact h
 | succ r ih=>
  intro n c t h;unfold Tr.sym;split
  ·exact h.bit
  ·split
   ·exact h.bit
   ·split
    ·exact h.bit
    ·exact ih _ _ _ h.bit
theorem Fine.symbol{t:Tr}(h:Fine t)(S:RSet):Fine (t.symbol S).2:=Fine.sym S 11 1 0 t h
structure Run(t t':Tr):Prop where
 starts:t'.starts=t.starts
 s:t'.s=t.s
 frm:t'.frm=t.frm
 limit:t'.limit=t.limit
 mu:t'.mu<=t.mu
 cost:t'.cost<=t.cost
 ended:t.ended=true->t'.ended=true
theorem Run.refl(t:Tr):Run t t:=⟨rfl,rfl,rfl,rfl,Nat.le_refl _,Nat.le_refl _,fun h=>h⟩
theorem Run.trans{a b c:Tr}(h:Run a b)(k:Run b c):Run a c:=⟨k.starts.trans h.starts,k.s.trans h.s,k.frm.trans h.frm,k.limit.trans h.limit,Nat.le_trans k.mu h.mu,Nat.le_trans k.cost h.cost,fun x=>k.ended (h.ended x)⟩
theorem Fwd.run{a b:Tr}(h:Fwd a b):Run a b:=⟨h.starts,h.s,h.frm,h.limit,h.mu,h.cost,h.ended⟩
theorem put_len(t:Tr)(b:Nat):(t.put b).out.length<=t.out.length+1:=by
 cases hd:t.ended
 ·rw [put_going hd];simp
 ·rw [put_ended hd];omega
theorem put_run(t:Tr)(b:Nat):(t.put b).starts=t.starts∧(t.put b).s=t.s∧(t.put b).frm=t.frm∧(t.put b).limit=t.limit:=by
 cases hd:t.ended
 ·rw [put_going hd];exact ⟨rfl,rfl,rfl,rfl⟩
 ·rw [put_ended hd];exact ⟨rfl,rfl,rfl,rfl⟩
theorem run_byte(t:Tr):Run t (t.octet.2.put t.octet.1):=by
 have f:=fwd_octet t;obtain ⟨e1,e2,e3,e4⟩:=put_run t.octet.2 t.octet.1;refine ⟨e1.trans f.starts,e2.trans f.s,e3.trans f.frm,e4.trans f.limit,by rw [mu_put];exact f.mu,?_,fun h=>by rw [ended_put];exact f.ended h⟩;unfold Tr.cost;rw [mu_put];cases h:t.octet.2.ended
 ·have:=mu_octet h;have:=put_len t.octet.2 t.octet.1;rw [f.out] at this;omega
 ·rw [put_ended h,f.out,mu_ended h];omega
theorem run_bytes(n:Nat):∀ t:Tr,Run t (bytes n t):=by
 induction n with
 | zero=>intro t;exact Run.refl t
 | succ n ih=>
  intro t;unfold bytes;split
  ·exact Run.refl t
  ·exact (run_byte t).trans (ih _)
theorem Fine.bytes(n:Nat):∀ t:Tr,Fine t->Fine (Tr.bytes n t):=by
 induction n with
 | zero=>intro t h;exact h
 | succ n ih=>
  intro t h;unfold Tr.bytes;split
  ·exact h
  ·exact ih _ (h.octet.put _)
theorem fwd_plainHead(t:Tr):Fwd t t.plainHead.2:=by
 have f:=(fwd_skip t).trans ((fwd_octet t.skip).trans ((fwd_octet _).trans ((fwd_octet _).trans (fwd_octet _))));unfold plainHead;simp only;split
 ·exact f
 ·exact f.trans (fwd_fail _ (by decide))
theorem Fine.plainHead{t:Tr}(h:Fine t):Fine t.plainHead.2:=by
 have f:=h.skip.octet.octet.octet.octet;unfold Tr.plainHead;simp only;split
 ·exact f
 ·exact f.fail (by decide)
theorem run_plain(t:Tr):Run t t.plain:=(fwd_plainHead t).run.trans (run_bytes _ _)
theorem Fine.plain{t:Tr}(h:Fine t):Fine t.plain:=Fine.bytes _ _ h.plainHead
theorem copyN_ended{far:Nat}(n:Nat){t:Tr}(h:t.ended=true):copyN far n t=t:=by
 cases n with
 | zero=>rfl
 | succ n=>unfold copyN;rw [if_pos h]
theorem copyN_facts(far n:Nat):∀ t:Tr,(copyN far n t).starts=t.starts∧(copyN far n t).s=t.s∧(copyN far n t).frm=t.frm∧(copyN far n t).limit=t.limit∧(copyN far n t).mu=t.mu∧(copyN far n t).ended=t.ended∧(copyN far n t).out.length<=t.out.length+n:=by
 induction n with
 | zero=>intro t;exact ⟨rfl,rfl,rfl,rfl,rfl,rfl,Nat.le_refl _⟩
 | succ n ih=>
  intro t;unfold copyN;split
  ·exact ⟨rfl,rfl,rfl,rfl,rfl,rfl,by omega⟩
  ·obtain ⟨a1,a2,a3,a4,a5,a6,a7⟩:=ih (t.put (t.out.getD (t.out.length - far) 0));obtain ⟨e1,e2,e3,e4⟩:=put_run t (t.out.getD (t.out.length - far) 0);have:=put_len t (t.out.getD (t.out.length - far) 0);exact ⟨a1.trans e1,a2.trans e2,a3.trans e3,a4.trans e4,a5.trans (mu_put _ _),a6.trans (ended_put _ _),by omega⟩
theorem Fine.copyN(far n:Nat):∀ t:Tr,Fine t->Fine (Tr.copyN far n t):=by
 induction n with
 | zero=>intro t h;exact h
 | succ n ih=>
  intro t h;unfold Tr.copyN;split
  ·exact h
  ·exact ih _ (h.put _)
theorem copy_len{k m:Nat}(hk:k<=11)(hm:m<2^spanBits k):spanLeast 3 k+m<=66:=by
 have:k=0∨k=1∨k=2∨k=3∨k=4∨k=5∨k=6∨k=7∨k=8∨k=9∨k=10∨k=11:=by omega
 rcases this with rfl | rfl | rfl | rfl | rfl | rfl | rfl | rfl | rfl | rfl | rfl | rfl <;> simp [spanBits,spanLeast] at * <;> omega
structure Copied(t t':Tr):Prop where
 starts:t'.starts=t.starts
 s:t'.s=t.s
 frm:t'.frm=t.frm
 limit:t'.limit=t.limit
 mu:t'.mu<=t.mu
 len:t'.out.length<=t.out.length+66
 same:t'.ended=true->t'.out.length=t.out.length∨t.ended=false
 ended:t.ended=true->t'.ended=true∧t'.out=t.out
theorem Fwd.copied{a b:Tr}(h:Fwd a b):Copied a b:=⟨h.starts,h.s,h.frm,h.limit,h.mu,by rw [h.out];omega,fun _=>Or.inl (by rw [h.out]),fun x=>⟨h.ended x,h.out⟩⟩
theorem copied_copies(t:Tr)(b:RSet)(k:Nat)(hk:k<=11):Copied t (t.copies b k):=by
 unfold copies;simp only;have f1:=fwd_number t (spanBits k);have f2:Fwd t (if b.many=0 then (t.number (spanBits k)).2.fail 11 else (t.number (spanBits k)).2):=by
  split
  ·exact f1.trans (fwd_fail _ (by decide))
  ·exact f1
 generalize ht1:(if b.many=0 then (t.number (spanBits k)).2.fail 11 else (t.number (spanBits k)).2)=t1 at *;have f3:=f2.trans (fwd_symbol t1 b);split
 ·exact (f3.trans (fwd_fail _ (by decide))).copied
 ·have f4:=f3.trans (fwd_number (t1.symbol b).2 (spanBits (t1.symbol b).1.toNat));generalize hf:(t1.symbol b).2.number (spanBits (t1.symbol b).1.toNat)=f at *;have f5:Fwd t (if f.2.out.length - f.2.frm<spanLeast 1 (t1.symbol b).1.toNat+f.1 then f.2.fail 11 else f.2):=by
   split
   ·exact f4.trans (fwd_fail _ (by decide))
   ·exact f4
  generalize (if f.2.out.length - f.2.frm<spanLeast 1 (t1.symbol b).1.toNat+f.1 then f.2.fail 11 else f.2)=t5 at *;have hn:=copy_len hk (number_lt t (spanBits k));obtain ⟨a1,a2,a3,a4,a5,a6,a7⟩:=copyN_facts (spanLeast 1 (t1.symbol b).1.toNat+f.1) (spanLeast 3 k+(t.number (spanBits k)).1) t5;refine ⟨a1.trans f5.starts,a2.trans f5.s,a3.trans f5.frm,a4.trans f5.limit,by rw [a5];exact f5.mu,by rw [f5.out] at a7;omega,fun h=>?_,fun h=>?_⟩
  ·rw [a6] at h;left
   rw [copyN_ended _ h,f5.out]
  ·have h5:=f5.ended h;rw [copyN_ended _ h5];exact ⟨h5,f5.out⟩
theorem Fine.copies{t:Tr}(h:Fine t)(b:RSet)(k:Nat):Fine (t.copies b k):=by
 unfold Tr.copies;simp only;have f1:=h.number (spanBits k);have f2:Fine (if b.many=0 then (t.number (spanBits k)).2.fail 11 else (t.number (spanBits k)).2):=by
  split
  ·exact f1.fail (by decide)
  ·exact f1
 generalize ht1:(if b.many=0 then (t.number (spanBits k)).2.fail 11 else (t.number (spanBits k)).2)=t1 at *;have f3:=f2.symbol b;split
 ·exact f3.fail (by decide)
 ·have f4:=f3.number (spanBits (t1.symbol b).1.toNat);generalize hf:(t1.symbol b).2.number (spanBits (t1.symbol b).1.toNat)=f at *;split
  ·exact Fine.copyN _ _ _ (f4.fail (by decide))
  ·exact Fine.copyN _ _ _ f4
theorem run_contentStep{t:Tr}{a b:RSet}(ha:a.l.length<=269)(ht:t.ended=false):Run t (t.contentStep a b)∧(t.contentStep a b).mu<t.mu:=by
 have f:=fwd_symbol t a;have hm:=mu_symbol a ht;have hl:=(symbol_lt t a).1;unfold contentStep;split
 ·obtain ⟨e1,e2,e3,e4⟩:=put_run (t.symbol a).2 ((t.symbol a).1%256).toNat;have:=put_len (t.symbol a).2 ((t.symbol a).1%256).toNat;rw [f.out] at this;refine ⟨⟨e1.trans f.starts,e2.trans f.s,e3.trans f.frm,e4.trans f.limit,by rw [mu_put];exact f.mu,?_,fun h=>by rw [ht] at h;cases h⟩,by rw [mu_put];exact hm⟩;unfold Tr.cost;rw [mu_put];omega
 ·have c:=copied_copies (t.symbol a).2 b ((t.symbol a).1 - 257).toNat (by omega);have h1:=c.mu;have h2:=c.len;rw [f.out] at h2;refine ⟨⟨c.starts.trans f.starts,c.s.trans f.s,c.frm.trans f.frm,c.limit.trans f.limit,by omega,?_,fun h=>by rw [ht] at h;cases h⟩,by omega⟩;unfold Tr.cost;omega
theorem Fine.contentStep{t:Tr}(h:Fine t)(a b:RSet):Fine (t.contentStep a b):=by
 unfold Tr.contentStep;split
 ·exact (h.symbol a).put _
 ·exact (h.symbol a).copies _ _
theorem content_go{a b:RSet}{t:Tr}(ha:a.l.length<=269)(h1:t.ended=false)(h2:(t.symbol a).2.ended=false)(h3:(t.symbol a).1≠256):content a b t=content a b (t.contentStep a b):=by
 rw [content,if_neg (by rw [h1];simp),if_neg (by rw [h2];simp [h3]),dif_pos (run_contentStep ha h1).2]
theorem content_stop{a b:RSet}{t:Tr}(h1:t.ended=false)(h:(t.symbol a).2.ended=true∨(t.symbol a).1=256):content a b t=(t.symbol a).2:=by
 rw [content,if_neg (by rw [h1];simp),if_pos h]
theorem content_ended{a b:RSet}{t:Tr}(h1:t.ended=true):content a b t=t:=by
 rw [content,if_pos h1]
theorem run_content{a b:RSet}(ha:a.l.length<=269):∀ (n:Nat) (t:Tr),t.mu<=n->Run t (content a b t)∧(Fine t->Fine (content a b t)):=by
 intro n;induction n with
 | zero=>
  intro t hn;have:t.ended=true:=by
   cases h:t.ended
   ·have:=mu_pos h;omega
   ·rfl
  rw [content_ended this];exact ⟨Run.refl t,fun h=>h⟩
 | succ n ih=>
  intro t hn;cases h1:t.ended
  ·by_cases h2:(t.symbol a).2.ended=true∨(t.symbol a).1=256
   ·rw [content_stop h1 h2];exact ⟨(fwd_symbol t a).run,fun h=>h.symbol a⟩
   ·have h3:(t.symbol a).2.ended=false:=by
     cases h:(t.symbol a).2.ended
     ·rfl
     ·exact absurd (Or.inl h) h2
    rw [content_go ha h1 h3 (fun e=>h2 (Or.inr e))];have r:=run_contentStep (b:=b) ha h1;have k:=ih (t.contentStep a b) (by omega);exact ⟨r.1.trans k.1,fun h=>k.2 (h.contentStep a b)⟩
  ·rw [content_ended h1];exact ⟨Run.refl t,fun h=>h⟩
end Tr
def OI(w:World)(B:Nat)(v:Value)(l:List Int):Prop:=w.ownsRow B 3 1 v l.length (k2f l)
theorem OI.nil(w:World)(B:Nat):OI w B (.slice none 0 0) []:=World.ownsRow_nil _ _ _ _
theorem OI.cells{w:World}{B:Nat}{v:Value}{l:List Int}(h:OI w B v l):∃ ad cap,v= .slice ad l.length cap∧xin w ad l:=by
 rcases h.2 with ⟨hv,h0⟩ | ⟨g,cap,cur,hv,hb,hg,hnc,hcm,hcs,htake⟩
 ·exact ⟨none,0,by rw [hv,h0],fun k hk=>by omega⟩
 ·refine ⟨some ⟨g,0,none⟩,cap,hv,fun k hk=>⟨g,0,rfl,(Array.getElem?_eq_some_iff.1 hg).1,?_⟩⟩;have h':w.ownsRow B 3 1 (.slice (some ⟨g,0,none⟩) l.length cap) l.length (k2f l):=by rw [← hv];exact h
  rw [Nat.zero_add,World.ownsRow.cellAt h' k (by omega)];simp [k2f,hk]
structure Kp(R:Nat->Prop)(ρ:Nat->Nat)(w w':World):Prop where
 size:w.heap.size<=w'.heap.size
 block:∀ k,k<w.heap.size->¬ R (ρ k)->w'.heap[k]?=w.heap[k]?
theorem Kp.refl(R:Nat->Prop)(ρ:Nat->Nat)(w:World):Kp R ρ w w:=⟨Nat.le_refl _,fun _ _ _=>rfl⟩
theorem Kp.trans{R:Nat->Prop}{ρ:Nat->Nat}{a b c:World}(h:Kp R ρ a b)(k:Kp R ρ b c):Kp R ρ a c:=⟨Nat.le_trans h.size k.size,fun i hi hr=>(k.block i (Nat.lt_of_lt_of_le hi h.size) hr).trans (h.block i hi hr)⟩
theorem Kp.mono{R R':Nat->Prop}{ρ:Nat->Nat}{a b:World}(h:Kp R ρ a b)(hR:∀ x,R x->R' x):Kp R' ρ a b:=⟨h.size,fun i hi hr=>h.block i hi (fun x=>hr (hR _ x))⟩
theorem Kp.of_below{R:Nat->Prop}{ρ:Nat->Nat}{a b:World}(h:Below a.heap.size a b):Kp R ρ a b:=⟨h.size,fun i hi _=>h.block i hi⟩
theorem Kp.of_set{R:Nat->Prop}{ρ:Nat->Nat}(a:World)(p:Addr)(v:Value)(hR:R (ρ p.block)):Kp R ρ a (a.setCell p v):=⟨by simp [World.setCell],fun i _ hr=>Below.heap_setCell _ _ _ _ (fun e=>hr (e ▸ hR))⟩
theorem kcz{R:Nat->Prop}{ρ:Nat->Nat}{w w':World}{B:Nat}{e:TypeId}{sz:Nat}{v:Value}{n:Nat}{xs:List Value}(h:w.ownsRow B e sz v n xs)(hk:Kp R ρ w w')(hr:∀ g,v.ownBlock=some g->¬ R (ρ g)):w'.ownsRow B e sz v n xs:=by
 refine ⟨h.1,?_⟩;rcases h.2 with hn | ⟨g,cap,cur,rfl,hb,hgg,rest⟩
 ·exact .inl hn
 ·refine .inr ⟨g,cap,cur,rfl,hb,?_,rest⟩;rw [hk.block g (Array.getElem?_eq_some_iff.1 hgg).1 (hr g rfl)];exact hgg
theorem zlz{R:Nat->Prop}{ρ:Nat->Nat}{w w':World}{g:Nat}{t:TypeId}{n:Nat}{f:Nat->Value}(h:w.rowIs g t n f)(hk:Kp R ρ w w')(hr:¬ R (ρ g)):w'.rowIs g t n f:=h.of_block (hk.block g h.lt hr)
structure kuu where
 vcs:Value
 vss:Value
 vl:Value
 lens:List Int
 mks:Nat
 vw:Value
 waits:List (Value×List Int)
 vr:Value
 weres:List Value
 vb:Value
 books:List (Int×List Value)
 still:List (Nat×Obj)
 vrn:Value
 vtx:Value
def keg(l:List Nat):List Value:=l.map fun (n:Nat)=> .int .u8 n
theorem xmo{w:World}{B:Nat}{e:TypeId}{sz:Nat}{v:Value}{n:Nat}{xs:List Value}(h:w.ownsRow B e sz v n xs){g:Nat}(hg:v.ownBlock=some g):g<w.heap.size:=(h.lt g hg).2
theorem x1k{w w1:World}{row:Option Nat}{o:Obj}{a:Addr}{v:Value}(hg:(w.alloc o).drew.grownBy w1 row)(hlt:a.block<w.heap.size)(hne:row≠some a.block)(h:w.cell? a=some v):w1.cell? a=some v:=by
 have h1:w1.heap[a.block]?=w.heap[a.block]?:=(hg.block a.block (by simp;omega) (Ne.symm hne)).trans (Below.heap_alloc w o a.block hlt);rw [World.cell?_of_block (w:=w) h1,h]
theorem x7a{w w1:World}{row:Option Nat}{o:Obj}{a:Addr}{v:Value}(hg:(w.alloc o).grownBy w1 row)(hlt:a.block<w.heap.size)(hne:row≠some a.block)(h:w.cell? a=some v):w1.cell? a=some v:=by
 have h1:w1.heap[a.block]?=w.heap[a.block]?:=(hg.block a.block (by simp;omega) (Ne.symm hne)).trans (Below.heap_alloc w o a.block hlt);rw [World.cell?_of_block (w:=w) h1,h]
theorem jk1{w w1:World}{row:Option Nat}{o:Obj}{a:Addr}(hg:(w.alloc o).grownBy w1 row)(hlt:a.block<w.heap.size)(hne:row≠some a.block)(h:w.frozen? a=false):w1.frozen? a=false:=by
 have h1:w1.heap[a.block]?=w.heap[a.block]?:=(hg.block a.block (by simp;omega) (Ne.symm hne)).trans (Below.heap_alloc w o a.block hlt);rw [World.frozen?_of_block (w:=w) h1,h]
theorem kh5:(Tryz.prog.info? 5).map (fun i=>(i.zero,i.size,i.bytes))=some (some (.int .u8 0),1,1):=by kernel_rfl
theorem jy4(l:List Int)(n c:Int)(r:Nat):∀ i,(∀ j,i<=j->j<i+r->¬ (l.getD j 0=n∧rv l j=c))->x66 l n c r i= -1:=by
 induction r with
 | zero=>intro i _;rfl
 | succ r ih=>
  intro i h;rw [x66,if_neg (h i (Nat.le_refl _) (by omega))];exact ih (i+1) (fun j h1 h2=>h j (by omega) (by omega))
theorem jbw(l:List Int)(n c:Int)(r:Nat):∀ i k,i<=k->k<i+r->(l.getD k 0=n∧rv l k=c)->(∀ j,i<=j->j<k->¬ (l.getD j 0=n∧rv l j=c))->x66 l n c r i=k:=by
 induction r with
 | zero=>intro i k h1 h2;omega
 | succ r ih=>
  intro i k h1 h2 hk hj;by_cases e:i=k
  ·subst e;rw [x66,if_pos hk]
  ·rw [x66,if_neg (hj i (Nat.le_refl _) (by omega))];exact ih (i+1) k (by omega) (by omega) hk (fun j h3 h4=>hj j (by omega) h4)
theorem yv7{l:List Int}(hr:inRange l=true){i n:Nat}(hi:i<l.length)(hn:0<n)(h:l[i]=(n:Int)):rv l i=fc (cn l) n+cn (l.take i) n:=by
 rw [xiy hr hi,xj2 hi h hn]
theorem jux{S:RSet}(hr:inRange S.l=true){i n:Nat}(hi:i<S.l.length)(hn:0<n)(h:S.l[i]=(n:Int)):find S n (fc (cn S.l) n+cn (S.l.take i) n)=i:=by
 refine jbw _ _ _ _ 0 i (Nat.zero_le _) (by omega) ⟨by simp [hi,h],yv7 hr hi hn h⟩ ?_;intro j _ hj hP;have hjl:j<S.l.length:=by omega
 have h2:S.l[j]=(n:Int):=by have:=hP.1;simpa [hjl] using this
 have h3:=hP.2;rw [yv7 hr hjl hn h2] at h3;have:=ygz hjl hn h2 hj;omega
theorem k5a{S:RSet}(hr:inRange S.l=true){n:Nat}(hn:0<n){c:Int}(h0:fc (cn S.l) n<=c)(h1:c<fc (cn S.l) n+cn S.l n):∃ i,∃ hi:i<S.l.length,S.l[i]=(n:Int)∧cn (S.l.take i) n=c - fc (cn S.l) n∧find S n c=i:=by
 obtain ⟨i,hi,h2,h3⟩:=nth S.l n (c - fc (cn S.l) n) (by omega) (by omega);refine ⟨i,hi,h2,h3,?_⟩;have:=jux hr hi hn h2;rw [h3] at this;rw [← this];congr 1;omega
theorem zr0{S:RSet}(hr:inRange S.l=true){n:Nat}(hn:0<n){c:Int}(h:c<fc (cn S.l) n∨fc (cn S.l) n+cn S.l n<=c):find S n c= -1:=by
 refine jy4 _ _ _ _ 0 (fun j _ hj hP=>?_);have hjl:j<S.l.length:=by omega
 have h2:S.l[j]=(n:Int):=by have:=hP.1;simpa [hjl] using this
 have h3:=hP.2;rw [yv7 hr hjl hn h2] at h3;have a:=v4o (S.l.take j) n;have b:=ynl hjl hn h2;omega
theorem xze{l:List Int}(h:jwa gw l=2048):ky9 l=false:=by
 unfold ky9;rw [h];simp
theorem kfa(f:Nat->Int)(k:Nat):shr f (k+1)=shr f k+f k*2^(11 - k):=rfl
theorem xuq{a b P:Int}(hP:0<P)(h:a*P<=b*P):a<=b:=Int.le_of_mul_le_mul_right h hP
namespace Tr
theorem fwd_helped(t:Tr)(k:Int)(l:List Int):Fwd t (t.helped k l).2.2:=by
 unfold helped;split
 ·simp only;split
  ·exact (fwd_number t 2).trans (fwd_fail _ (by decide))
  ·exact fwd_number t 2
 ·split
  ·exact fwd_number t 3
  ·split
   ·exact fwd_number t 6
   ·exact Fwd.refl t
theorem Fine.helped{t:Tr}(h:Fine t)(k:Int)(l:List Int):Fine (t.helped k l).2.2:=by
 unfold Tr.helped;split
 ·simp only;split
  ·exact (h.number 2).fail (by decide)
  ·exact h.number 2
 ·split
  ·exact h.number 3
  ·split
   ·exact h.number 6
   ·exact h
theorem inRange_append{l:List Int}(hl:inRange l=true){x:Int}(hx:yuc x=true)(m:Nat):inRange (l++List.replicate m x)=true:=by
 unfold inRange at *;rw [List.all_append,hl,Bool.true_and,List.all_eq_true];intro y hy;rw [(List.mem_replicate.1 hy).2];exact hx
def rowT(n:Nat)(len:Nat)(h:Int×Nat×Tr):Tr:=if n<len+h.2.1 then h.2.2.fail 10 else h.2.2
theorem fwd_rowT(n len:Nat)(h:Int×Nat×Tr):Fwd h.2.2 (rowT n len h):=by
 unfold rowT;split
 ·exact fwd_fail _ (by decide)
 ·exact Fwd.refl _
theorem Fine.rowT(n len:Nat){h:Int×Nat×Tr}(hf:Fine h.2.2):Fine (Tr.rowT n len h):=by
 unfold Tr.rowT;split
 ·exact hf.fail (by decide)
 ·exact hf
theorem rowT_len{n len:Nat}{h:Int×Nat×Tr}(he:(rowT n len h).ended=false):len+h.2.1<=n:=by
 unfold rowT at he;split at he
 ·rw [ended_fail _ (by decide)] at he;cases he
 ·omega
theorem rowStep_eq(H:RSet)(n:Nat)(l:List Int)(t:Tr):rowStep H n l t=(if (rowT n l.length (helped (t.symbol H).2 (t.symbol H).1 l)).ended then l else l++List.replicate (helped (t.symbol H).2 (t.symbol H).1 l).2.1 (helped (t.symbol H).2 (t.symbol H).1 l).1,rowT n l.length (helped (t.symbol H).2 (t.symbol H).1 l)):=rfl
theorem mu_rowStep{H:RSet}{n:Nat}{l:List Int}{t:Tr}(h:t.ended=false):(rowStep H n l t).2.mu<t.mu:=by
 rw [rowStep_eq];exact Nat.lt_of_le_of_lt ((fwd_helped (t.symbol H).2 (t.symbol H).1 l).trans (fwd_rowT _ _ _)).mu (mu_symbol H h)
theorem row_go{H:RSet}{n:Nat}{l:List Int}{t:Tr}(hl:l.length<n)(h:t.ended=false):row H n l t=row H n (rowStep H n l t).1 (rowStep H n l t).2:=by
 rw [row,if_pos ⟨hl,h⟩,dif_pos (mu_rowStep h)]
theorem row_stop{H:RSet}{n:Nat}{l:List Int}{t:Tr}(h:¬ (l.length<n∧t.ended=false)):row H n l t=(l,t):=by
 rw [row,if_neg h]
theorem fwd_rowStep(H:RSet)(n:Nat)(l:List Int)(t:Tr):Fwd t (rowStep H n l t).2:=
 (fwd_symbol t H).trans ((fwd_helped _ _ _).trans (fwd_rowT _ _ _))
theorem row_facts{H:RSet}{n:Nat}:∀ (m:Nat) (l:List Int) (t:Tr),t.mu<=m->Fwd t (row H n l t).2∧(Fine t->Fine (row H n l t).2)∧((row H n l t).2.ended=false->l.length<=n->(row H n l t).1.length=n):=by
 intro m;induction m with
 | zero=>
  intro l t hm;have he:t.ended=true:=by
   cases h:t.ended
   ·have:=mu_pos h;omega
   ·rfl
  rw [row_stop (by rw [he];simp)];exact ⟨Fwd.refl t,fun h=>h,fun h=>by rw [he] at h;cases h⟩
 | succ m ih=>
  intro l t hm;by_cases hc:l.length<n∧t.ended=false
  ·rw [row_go hc.1 hc.2];have hmu:=mu_rowStep (H:=H) (n:=n) (l:=l) hc.2;obtain ⟨a1,a2,a3⟩:=ih (rowStep H n l t).1 (rowStep H n l t).2 (by omega);refine ⟨(fwd_rowStep H n l t).trans a1,fun h=>a2 (Fine.rowT _ _ ((h.symbol H).helped _ _)),fun he hl=>a3 he ?_⟩;rw [rowStep_eq];show (if _ then _ else _:List Int).length<=n;split
   ·exact hl
   ·rename_i hne
    have:=rowT_len (h:=helped (t.symbol H).2 (t.symbol H).1 l) (n:=n) (len:=l.length) (by simpa using hne);simp;omega
  ·rw [row_stop hc];refine ⟨Fwd.refl t,fun h=>h,fun he hl=>?_⟩;have he':t.ended=false:=he;show l.length=n;have:¬ l.length<n:=fun h=>hc ⟨h,he'⟩
   omega
end Tr
def ky5:Array Value:=#[.int .i64 13, .int .i64 14, .int .i64 12, .int .i64 0, .int .i64 7, .int .i64 8, .int .i64 6, .int .i64 9, .int .i64 5, .int .i64 10, .int .i64 4, .int .i64 11, .int .i64 3, .int .i64 2, .int .i64 1]
theorem vr5{k:Nat}(h:k<15):ky5[k]?=some (.int .i64 ((Tr.order.getD k 0:Nat):Int))∧Tr.order.getD k 0<15:=by
 have:k=0∨k=1∨k=2∨k=3∨k=4∨k=5∨k=6∨k=7∨k=8∨k=9∨k=10∨k=11∨k=12∨k=13∨k=14:=by omega
 rcases this with rfl | rfl | rfl | rfl | rfl | rfl | rfl | rfl | rfl | rfl | rfl | rfl | rfl | rfl | rfl <;> exact ⟨rfl,by decide⟩
theorem Tr.fwd_helps(r:Nat):∀ (i:Nat) (L:List Int) (t:Tr),Tr.Fwd t (Tr.helps r i L t).2:=by
 induction r with
 | zero=>intro i L t;exact Tr.Fwd.refl t
 | succ r ih=>
  intro i L t;unfold Tr.helps;split
  ·exact Tr.Fwd.refl t
  ·exact (Tr.fwd_number t 3).trans (ih _ _ _)
theorem xgg:Tr.fixedA.length=269:=by rw [Tr.fixedA,List.length_append,List.length_replicate,List.length_replicate]
namespace Tr
theorem fwd_ite_fail(c:Prop)[Decidable c](t:Tr){e:Nat}(he:e≠0):Fwd t (if c then t.fail e else t):=by
 split
 ·exact fwd_fail t he
 ·exact Fwd.refl t
theorem Fine.ite_fail(c:Prop)[Decidable c]{t:Tr}(h:Fine t){e:Nat}(he:e<=18):Fine (if c then t.fail e else t):=by
 split
 ·exact h.fail he
 ·exact h
theorem ownHead_facts(t:Tr):Fwd t t.ownHead.2.2.2∧(Fine t->Fine t.ownHead.2.2.2)∧(t.ownHead.2.2.2.ended=false->t.ownHead.1<=12):=by
 unfold ownHead;dsimp only
 have f1:=fwd_number t 4;have g1:Fine t->Fine (t.number 4).2:=fun h=>h.number 4
 generalize t.number 4=A at *;have f2:Fwd t (if 12<A.1 then A.2.fail 10 else A.2)∧(Fine t->Fine (if 12<A.1 then A.2.fail 10 else A.2))∧((if 12<A.1 then A.2.fail 10 else A.2).ended=false->A.1<=12):=by
  split
  ·exact ⟨f1.trans (fwd_fail _ (by decide)),fun h=>(g1 h).fail (by decide),fun h=>by rw [ended_fail _ (by decide)] at h;cases h⟩
  ·exact ⟨f1,g1,fun _=>by omega⟩
 generalize (if 12<A.1 then A.2.fail 10 else A.2)=T1 at *;have f3:Fwd T1 ((T1.number 4).2.number 4).2:=(fwd_number T1 4).trans (fwd_number _ 4);have g3:Fine T1->Fine ((T1.number 4).2.number 4).2:=fun h=>(h.number 4).number 4
 generalize ((T1.number 4).2.number 4)=C at *;split
 ·exact ⟨(f2.1.trans f3).trans (fwd_fail _ (by decide)),fun h=>(g3 (f2.2.1 h)).fail (by decide),fun h=>by rw [ended_fail _ (by decide)] at h;cases h⟩
 ·exact ⟨f2.1.trans f3,fun h=>g3 (f2.2.1 h),fun h=>f2.2.2 (f3.of_ended h)⟩
theorem fwd_ownHead(t:Tr):Fwd t t.ownHead.2.2.2:=(ownHead_facts t).1
theorem Fine.ownHead{t:Tr}(h:Fine t):Fine t.ownHead.2.2.2:=(ownHead_facts t).2.1 h
theorem ownHead_lt{t:Tr}(h:t.ownHead.2.2.2.ended=false):t.ownHead.1<=12:=(ownHead_facts t).2.2 h
theorem Fine.helps(r:Nat):∀ (i:Nat) (L:List Int) (t:Tr),Fine t->Fine (Tr.helps r i L t).2:=by
 induction r with
 | zero=>intro i L t h;exact h
 | succ r ih=>
  intro i L t h;unfold Tr.helps;split
  ·exact h
  ·exact ih _ _ _ (h.number 3)
theorem fwd_ownHelp'(t:Tr):Fwd t.ownHead.2.2.2 t.ownHelp.2:=by
 unfold ownHelp;simp only;refine (fwd_helps (4+t.ownHead.2.2.1) 0 (List.replicate 15 0) t.ownHead.2.2.2).trans ?_;split
 ·exact Fwd.refl _
 ·exact fwd_fail _ (by decide)
theorem Fine.ownHelp{t:Tr}(h:Fine t):Fine t.ownHelp.2:=by
 unfold Tr.ownHelp;simp only;split
 ·exact Fine.helps _ _ _ _ h.ownHead
 ·exact (Fine.helps _ _ _ _ h.ownHead).fail (by decide)
theorem own_facts(t:Tr):Fwd t t.own.2.2∧(Fine t->Fine t.own.2.2):=by
 have f1:=(fwd_ownHead t).trans (fwd_ownHelp' t);have g1:Fine t->Fine t.ownHelp.2:=fun h=>h.ownHelp
 have r:=row_facts (H:=rset t.ownHelp.1) (n:=257+t.ownHead.1+1+t.ownHead.2.1) t.ownHelp.2.mu [] t.ownHelp.2 (Nat.le_refl _);have f2:Fwd t t.ownRow.2:=f1.trans r.1;have g2:Fine t->Fine t.ownRow.2:=fun h=>r.2.1 (g1 h)
 clear r;unfold own;generalize t.ownRow=R at *;generalize t.ownHelp=HP at *;generalize t.ownHead=HD at *;dsimp only
 split
 ·exact ⟨f1,g1⟩
 ·split
  ·exact ⟨f2,g2⟩
  ·dsimp only
   split
   ·exact ⟨f2.trans (fwd_fail _ (by decide)),fun h=>(g2 h).fail (by decide)⟩
   ·exact ⟨f2,g2⟩
theorem fwd_own(t:Tr):Fwd t t.own.2.2:=(own_facts t).1
theorem Fine.own{t:Tr}(h:Fine t):Fine t.own.2.2:=(own_facts t).2 h
theorem own_len(t:Tr):t.own.1.l.length<=269:=by
 unfold own;split
 ·simp [yk3]
 ·split
  ·simp [yk3]
  ·rename_i h1 h2
   have h3:=ownHead_lt ((fwd_ownHelp' t).of_ended (by simpa using h1));show (t.ownRow.1.take (257+t.ownHead.1)).length<=269;rw [List.length_take];omega
theorem run_block(k:Nat)(t:Tr):Run t (block k t)∧(Fine t->Fine (block k t)):=by
 unfold block;split
 ·exact ⟨run_plain t,fun h=>h.plain⟩
 ·split
  ·exact run_content (by show Tr.fixedA.length<=269;rw [xgg];omega) t.mu t (Nat.le_refl _)
  ·split
   ·have c:=run_content (a:=t.own.1) (b:=t.own.2.1) (own_len t) t.own.2.2.mu t.own.2.2 (Nat.le_refl _);exact ⟨(fwd_own t).run.trans c.1,fun h=>c.2 h.own⟩
   ·exact ⟨(fwd_fail t (by decide)).run,fun h=>h.fail (by decide)⟩
theorem blocks_end{t:Tr}(h:t.ended=true):blocksFrom t=t:=by rw [blocksFrom,if_pos h]
theorem blocks_short{t:Tr}(h:t.ended=false)(h2:(t.bit.2.number 2).2.ended=true):blocksFrom t=(t.bit.2.number 2).2:=by
 rw [blocksFrom,if_neg (by rw [h];simp),if_pos h2]
theorem blocks_last{t:Tr}(h:t.ended=false)(h2:(t.bit.2.number 2).2.ended=false)(h3:t.bit.1≠0):blocksFrom t=if (block (t.bit.2.number 2).1 (t.bit.2.number 2).2).ended then block (t.bit.2.number 2).1 (t.bit.2.number 2).2 else (block (t.bit.2.number 2).1 (t.bit.2.number 2).2).skip:=by
 rw [blocksFrom,if_neg (by rw [h];simp),if_neg (by rw [h2];simp),if_pos h3]
theorem mu_block{t:Tr}(h:t.ended=false):(block (t.bit.2.number 2).1 (t.bit.2.number 2).2).mu<t.mu:=
 Nat.lt_of_le_of_lt (Nat.le_trans (run_block _ _).1.mu (fwd_number t.bit.2 2).mu) (mu_bit h)
theorem blocks_go{t:Tr}(h:t.ended=false)(h2:(t.bit.2.number 2).2.ended=false)(h3:t.bit.1=0):blocksFrom t=blocksFrom (block (t.bit.2.number 2).1 (t.bit.2.number 2).2):=by
 rw [blocksFrom,if_neg (by rw [h];simp),if_neg (by rw [h2];simp),if_neg (by rw [h3];simp),dif_pos (mu_block h)]
theorem run_blocksFrom:∀ (n:Nat) (t:Tr),t.mu<=n->Run t (blocksFrom t)∧(Fine t->Fine (blocksFrom t)):=by
 intro n;induction n with
 | zero=>
  intro t hn;have he:t.ended=true:=by
   cases h:t.ended
   ·have:=mu_pos h;omega
   ·rfl
  rw [blocks_end he];exact ⟨Run.refl t,fun h=>h⟩
 | succ n ih=>
  intro t hn;cases h1:t.ended
  ·have fd:=(fwd_bit t).trans (fwd_number t.bit.2 2);cases h2:(t.bit.2.number 2).2.ended
   ·have rb:=run_block (t.bit.2.number 2).1 (t.bit.2.number 2).2;have rr:=fd.run.trans rb.1;have ff:Fine t->Fine (block (t.bit.2.number 2).1 (t.bit.2.number 2).2):=fun h=>rb.2 (h.bit.number 2)
    have hmu:=mu_block h1;by_cases h3:t.bit.1=0
    ·rw [blocks_go h1 h2 h3];have k:=ih _ (show (block (t.bit.2.number 2).1 (t.bit.2.number 2).2).mu<=n by omega);exact ⟨rr.trans k.1,fun h=>k.2 (ff h)⟩
    ·rw [blocks_last h1 h2 h3];split
     ·exact ⟨rr,ff⟩
     ·exact ⟨rr.trans (fwd_skip _).run,fun h=>(ff h).skip⟩
   ·rw [blocks_short h1 h2];exact ⟨fd.run,fun h=>h.bit.number 2⟩
  ·rw [blocks_end h1];exact ⟨Run.refl t,fun h=>h⟩
theorem blocks_facts{t:Tr}(h:Fine t):t.blocks.s=t.s∧t.blocks.starts=t.starts∧t.blocks.cost<=t.cost∧t.blocks.mu<=t.mu∧Fine t.blocks∧(t.ended=true->t.blocks.ended=true)∧t.blocks.limit=t.limit:=by
 have hmu:({ t with frm:=t.out.length,left:=0 }:Tr).mu<=t.mu:=by
  cases he:t.ended
  ·rw [mu_going he,mu_going (t:={ t with frm:=t.out.length,left:=0 }) he];simp only;omega
  ·rw [mu_ended (t:={ t with frm:=t.out.length,left:=0 }) he];omega
 have F0:Fine ({ t with frm:=t.out.length,left:=0 }:Tr):=⟨Nat.zero_le _,h.cur,h.inn,Nat.le_refl _,h.ats,h.err⟩
 have hc:({ t with frm:=t.out.length,left:=0 }:Tr).cost<=t.cost:=by
  show t.out.length+66*({ t with frm:=t.out.length,left:=0 }:Tr).mu<=t.out.length+66*t.mu;omega
 have r:=run_blocksFrom _ ({ t with frm:=t.out.length,left:=0 }:Tr) (Nat.le_refl _);exact ⟨r.1.s,r.1.starts,Nat.le_trans r.1.cost hc,Nat.le_trans r.1.mu hmu,r.2 F0,fun he=>r.1.ended he,r.1.limit⟩
end Tr
def Tr.start(s:ByteArray)(limit:Nat):Tr:={ out:=[],ats:=[],inn:=0,starts:=[],err:=0,needs:=false,s:=s,cur:=0,left:=0,frm:=0,head:=0,many:=0,limit:=limit }
def Tr.trail(t:Tr):Tr:=if t.ended=false∧t.inn<t.s.size then ({ t with inn:=t.inn+1 }:Tr).fail 14 else t
def Tr.readRaw(s:ByteArray)(limit:Nat):Tr:=if s.size=0 then { Tr.start s limit with needs:=true } else ({ Tr.start s limit with starts:=[0] }:Tr).blocks.trail
def xu6(l:List Nat):ByteArray:=strOfNums (l.map fun (n:Nat)=>(n:Int))
def Tr.mean(t:Tr):ByteArray×Nat:=if t.err≠0 then (⟨#[]⟩,t.err) else if t.needs then (⟨#[]⟩,15) else (xu6 t.out,0)
theorem kak(s:ByteArray)(limit:Nat):(Tr.start s limit).Fine:=⟨by show 0<=8;omega,by show 0<256;omega,Nat.zero_le _,Nat.le_refl _,rfl,by show 0<=18;omega⟩
def vht(w:World)(q:ByteArray×Nat)(x:Ending)(w':World):Prop:=x= .returned (.tuple #[.string q.1, .int .i64 q.2])∧Below w.heap.size w w'
namespace Tr
def sumL(l:List Nat):Int:=65536*(sxy (fun k=>((l.getD k 0:Nat):Int)) l.length).2+(sxy (fun k=>((l.getD k 0:Nat):Int)) l.length).1
def four(t:Tr):Nat->Nat×Tr
 | 0=>(0,t)
 | k+1=>(256*(t.four k).1+(t.four k).2.octet.1,(t.four k).2.octet.2)
def sum(t:Tr):Tr:=if ((t.four 4).1:Int)=sumL ((t.four 4).2.out.drop (t.four 4).2.frm) then (t.four 4).2 else (t.four 4).2.fail 12
def crowned(t:Tr)(b:Nat):Tr:={ (if t.limit<=t.many then t.fail 5 else t) with many:=t.many+1,head:=(t.head+b)%256 }
def crown(t:Tr):Nat×Tr:=(t.octet.1,t.octet.2.crowned t.octet.1)
def isB(t:Tr)(b:Nat):Tr:=if t.crown.1=b then t.crown.2 else t.crown.2.fail 4
def text(t:Tr):Tr:=
 if t.ended then t
 else if t.crown.1=0 then t.crown.2
 else if _h:t.crown.2.mu<t.mu then text t.crown.2
 else t
 termination_by t.mu
def marked(t:Tr)(m:Nat):Tr:=
 let t2:=if 7<m then t.fail 4 else t
 let t3:=if m%2=1 then t2.text else t2
 let t4:=if m / 2%2=1 then t3.text else t3
 if m / 4=1 then t4.isB t4.head else t4
def sized(t:Tr):Tr:=if t.octet.1+256*t.octet.2.octet.1=(t.octet.2.octet.2.out.length - t.octet.2.octet.2.frm)%65536 then t.octet.2.octet.2 else t.octet.2.octet.2.fail 13
def headed(t:Tr):Tr:=((({ t with head:=0,many:=0 }:Tr).isB 76).isB 2)
def member(t:Tr):Tr:=(t.headed.crown.2.marked t.headed.crown.1).blocks.sum.sized
theorem mu_crowned(t:Tr)(b:Nat):(t.crowned b).mu<=t.mu:=by
 have e:(t.crowned b).mu=(if t.limit<=t.many then t.fail 5 else t).mu:=rfl;rw [e];split
 ·exact (fwd_fail t (by decide)).mu
 ·exact Nat.le_refl _
theorem fwd_crowned(t:Tr)(b:Nat):Fwd t (t.crowned b):=by
 have f:Fwd t (if t.limit<=t.many then t.fail 5 else t):=fwd_ite_fail _ t (by decide);exact ⟨f.out,f.ats,f.starts,f.s,f.frm,f.limit,f.mu,f.ended⟩
theorem fwd_crown(t:Tr):Fwd t t.crown.2:=(fwd_octet t).trans (fwd_crowned _ _)
theorem mu_octet_lt{t:Tr}(h:t.ended=false):t.octet.2.mu<t.mu:=by
 cases h2:t.octet.2.ended
 ·have:=mu_octet h2;omega
 ·rw [mu_ended h2];exact mu_pos h
theorem mu_crown{t:Tr}(h:t.ended=false):t.crown.2.mu<t.mu:=Nat.lt_of_le_of_lt (mu_crowned _ _) (mu_octet_lt h)
theorem Fine.crowned{t:Tr}(h:Fine t)(b:Nat):Fine (t.crowned b):=by
 have f:Fine (if t.limit<=t.many then t.fail 5 else t):=Fine.ite_fail _ h (by decide);exact ⟨f.left,f.cur,f.inn,f.frm,f.ats,f.err⟩
theorem Fine.crown{t:Tr}(h:Fine t):Fine t.crown.2:=h.octet.crowned _
theorem fwd_isB(t:Tr)(b:Nat):Fwd t (t.isB b):=by
 unfold isB;split
 ·exact fwd_crown t
 ·exact (fwd_crown t).trans (fwd_fail _ (by decide))
theorem Fine.isB{t:Tr}(h:Fine t)(b:Nat):Fine (t.isB b):=by
 unfold Tr.isB;split
 ·exact h.crown
 ·exact h.crown.fail (by decide)
theorem text_end{t:Tr}(h:t.ended=true):t.text=t:=by rw [text,if_pos h]
theorem text_stop{t:Tr}(h:t.ended=false)(h2:t.crown.1=0):t.text=t.crown.2:=by rw [text,if_neg (by rw [h];simp),if_pos h2]
theorem text_go{t:Tr}(h:t.ended=false)(h2:t.crown.1≠0):t.text=t.crown.2.text:=by rw [text,if_neg (by rw [h];simp),if_neg h2,dif_pos (mu_crown h)]
structure Low(n:Nat)(t:Tr):Prop where
 head:t.head<256
 many:t.many+t.mu<=n
theorem octet_head(t:Tr):t.octet.2.head=t.head∧t.octet.2.many=t.many:=by
 cases hd:t.ended
 ·by_cases hs:t.s.size<=t.inn
  ·rw [octet_none hd hs];exact ⟨rfl,rfl⟩
  ·rw [octet_some hd (by omega)];exact ⟨rfl,rfl⟩
 ·rw [octet_ended hd];exact ⟨rfl,rfl⟩
theorem fail_head(t:Tr)(e:Nat):(t.fail e).head=t.head∧(t.fail e).many=t.many:=by
 cases hd:t.ended
 ·rw [fail_going hd];exact ⟨rfl,rfl⟩
 ·rw [fail_ended hd];exact ⟨rfl,rfl⟩
theorem Low.mono{n m:Nat}{t:Tr}(h:Low n t)(hm:n<=m):Low m t:=⟨h.head,Nat.le_trans h.many hm⟩
theorem Low.fail{n:Nat}{t:Tr}(h:Low n t){e:Nat}(he:e≠0):Low n (t.fail e):=⟨by rw [(fail_head t e).1];exact h.head,by rw [(fail_head t e).2,mu_fail t he];have:=h.many;omega⟩
theorem Low.crown{n:Nat}{t:Tr}(h:Low n t):Low (n+1) t.crown.2:=by
 refine ⟨Nat.mod_lt _ (by decide),?_⟩;have h1:t.crown.2.many=t.many+1:=by show t.octet.2.many+1=_;rw [(octet_head t).2]
 have h2:=(fwd_crown t).mu;have h3:=h.many;omega
theorem Low.crown_go{n:Nat}{t:Tr}(h:Low n t)(he:t.ended=false):Low n t.crown.2:=by
 refine ⟨Nat.mod_lt _ (by decide),?_⟩;have h1:t.crown.2.many=t.many+1:=by show t.octet.2.many+1=_;rw [(octet_head t).2]
 have h2:=mu_crown he;have h3:=h.many;omega
theorem Low.isB{n:Nat}{t:Tr}(h:Low n t)(b:Nat):Low (n+1) (t.isB b):=by
 unfold Tr.isB;split
 ·exact h.crown
 ·exact h.crown.fail (by decide)
theorem text_facts:∀ (m:Nat) (t:Tr),t.mu<=m->Fwd t t.text∧(Fine t->Fine t.text)∧(∀ n,Low n t->Low n t.text):=by
 intro m;induction m with
 | zero=>
  intro t hm;have he:t.ended=true:=by
   cases h:t.ended
   ·have:=mu_pos h;omega
   ·rfl
  rw [text_end he];exact ⟨Fwd.refl t,fun h=>h,fun _ h=>h⟩
 | succ m ih=>
  intro t hm;cases he:t.ended
  ·by_cases h0:t.crown.1=0
   ·rw [text_stop he h0];exact ⟨fwd_crown t,fun h=>h.crown,fun _ h=>h.crown_go he⟩
   ·rw [text_go he h0];have hmu:=mu_crown he;obtain ⟨a,b,c⟩:=ih t.crown.2 (by omega);exact ⟨(fwd_crown t).trans a,fun h=>b h.crown,fun n h=>c n (h.crown_go he)⟩
  ·rw [text_end he];exact ⟨Fwd.refl t,fun h=>h,fun _ h=>h⟩
theorem fwd_text(t:Tr):Fwd t t.text:=(text_facts t.mu t (Nat.le_refl _)).1
theorem Fine.text{t:Tr}(h:Fine t):Fine t.text:=(text_facts t.mu t (Nat.le_refl _)).2.1 h
theorem Low.text{n:Nat}{t:Tr}(h:Low n t):Low n t.text:=(text_facts t.mu t (Nat.le_refl _)).2.2 n h
theorem fwd_four(t:Tr)(k:Nat):Fwd t (t.four k).2:=by
 induction k with
 | zero=>exact Fwd.refl t
 | succ k ih=>exact ih.trans (fwd_octet _)
theorem Fine.four{t:Tr}(h:Fine t)(k:Nat):Fine (t.four k).2:=by
 induction k with
 | zero=>exact h
 | succ k ih=>exact ih.octet
theorem fwd_sum(t:Tr):Fwd t t.sum:=by
 unfold sum;split
 ·exact fwd_four t 4
 ·exact (fwd_four t 4).trans (fwd_fail _ (by decide))
theorem Fine.sum{t:Tr}(h:Fine t):Fine t.sum:=by
 unfold Tr.sum;split
 ·exact h.four 4
 ·exact (h.four 4).fail (by decide)
end Tr
def xeo(t:Tr):Prop:=∀ b∈t.out,b<256
theorem xeo.get{t:Tr}(h:xeo t)(k:Nat):0<=((t.out.getD k 0:Nat):Int)∧((t.out.getD k 0:Nat):Int)<=255:=by
 by_cases hk:k<t.out.length
 ·have:=h t.out[k] (List.getElem_mem hk);have e:t.out.getD k 0=t.out[k]:=by simp [hk]
  rw [e];omega
 ·have e:t.out.getD k 0=0:=by rw [List.getD_eq_getElem?_getD,List.getElem?_eq_none (by omega)];rfl
  rw [e];omega
namespace Tr
theorem Fwd.bytesOk{a b:Tr}(h:Fwd a b)(hb:xeo a):xeo b:=by unfold xeo;rw [h.out];exact hb
theorem put_bytesOk{t:Tr}(h:xeo t){b:Nat}(hb:b<256):xeo (t.put b):=by
 cases hd:t.ended
 ·rw [put_going hd];intro x hx;rcases List.mem_append.1 hx with hx | hx
  ·exact h x hx
  ·simp at hx;omega
 ·rw [put_ended hd];exact h
theorem bytes_bytesOk(n:Nat):∀ t:Tr,xeo t->xeo (Tr.bytes n t):=by
 induction n with
 | zero=>intro t h;exact h
 | succ n ih=>
  intro t h;unfold Tr.bytes;split
  ·exact h
  ·exact ih _ (put_bytesOk ((fwd_octet t).bytesOk h) (octet_lt t))
theorem getD_lt{t:Tr}(h:xeo t)(k:Nat):t.out.getD k 0<256:=by have:=h.get k;omega
theorem copyN_bytesOk(far n:Nat):∀ t:Tr,xeo t->xeo (Tr.copyN far n t):=by
 induction n with
 | zero=>intro t h;exact h
 | succ n ih=>
  intro t h;unfold Tr.copyN;split
  ·exact h
  ·exact ih _ (put_bytesOk h (getD_lt h _))
theorem copies_bytesOk{t:Tr}(h:xeo t)(b:RSet)(k:Nat):xeo (t.copies b k):=by
 unfold Tr.copies;simp only;have f1:=(fwd_number t (spanBits k)).bytesOk h;have f2:xeo (if b.many=0 then (t.number (spanBits k)).2.fail 11 else (t.number (spanBits k)).2):=(fwd_ite_fail _ _ (by decide)).bytesOk f1;generalize (if b.many=0 then (t.number (spanBits k)).2.fail 11 else (t.number (spanBits k)).2)=t1 at *;have f3:=(fwd_symbol t1 b).bytesOk f2;split
 ·exact (fwd_fail _ (by decide)).bytesOk f3
 ·have f4:=(fwd_number (t1.symbol b).2 (spanBits (t1.symbol b).1.toNat)).bytesOk f3;generalize (t1.symbol b).2.number (spanBits (t1.symbol b).1.toNat)=f at *;exact copyN_bytesOk _ _ _ ((fwd_ite_fail _ _ (by decide)).bytesOk f4)
theorem contentStep_bytesOk{t:Tr}(h:xeo t)(a b:RSet):xeo (t.contentStep a b):=by
 have f:=(fwd_symbol t a).bytesOk h;unfold Tr.contentStep;split
 ·exact put_bytesOk f (by omega)
 ·exact copies_bytesOk f _ _
theorem content_bytesOk{a b:RSet}(ha:a.l.length<=269):∀ (n:Nat) (t:Tr),t.mu<=n->xeo t->xeo (content a b t):=by
 intro n;induction n with
 | zero=>
  intro t hn h;have:t.ended=true:=by
   cases h:t.ended
   ·have:=mu_pos h;omega
   ·rfl
  rw [content_ended this];exact h
 | succ n ih=>
  intro t hn h;cases h1:t.ended
  ·by_cases h2:(t.symbol a).2.ended=true∨(t.symbol a).1=256
   ·rw [content_stop h1 h2];exact (fwd_symbol t a).bytesOk h
   ·have h3:(t.symbol a).2.ended=false:=by
     cases h:(t.symbol a).2.ended
     ·rfl
     ·exact absurd (Or.inl h) h2
    rw [content_go ha h1 h3 (fun e=>h2 (Or.inr e))];have r:=run_contentStep (b:=b) ha h1;exact ih _ (by omega) (contentStep_bytesOk h a b)
  ·rw [content_ended h1];exact h
theorem block_bytesOk(k:Nat){t:Tr}(h:xeo t):xeo (block k t):=by
 unfold block;split
 ·exact bytes_bytesOk _ _ ((fwd_plainHead t).bytesOk h)
 ·split
  ·exact content_bytesOk (by show Tr.fixedA.length<=269;rw [xgg];omega) t.mu t (Nat.le_refl _) h
  ·split
   ·exact content_bytesOk (own_len t) _ _ (Nat.le_refl _) ((fwd_own t).bytesOk h)
   ·exact (fwd_fail t (by decide)).bytesOk h
theorem blocksFrom_bytesOk:∀ (n:Nat) (t:Tr),t.mu<=n->xeo t->xeo (blocksFrom t):=by
 intro n;induction n with
 | zero=>
  intro t hn h;have he:t.ended=true:=by
   cases h:t.ended
   ·have:=mu_pos h;omega
   ·rfl
  rw [blocks_end he];exact h
 | succ n ih=>
  intro t hn h;cases h1:t.ended
  ·have fd:=((fwd_bit t).trans (fwd_number t.bit.2 2)).bytesOk h;cases h2:(t.bit.2.number 2).2.ended
   ·have rb:=block_bytesOk (t.bit.2.number 2).1 fd;have hmu:=mu_block h1;by_cases h3:t.bit.1=0
    ·rw [blocks_go h1 h2 h3];exact ih _ (show (block (t.bit.2.number 2).1 (t.bit.2.number 2).2).mu<=n by omega) rb
    ·rw [blocks_last h1 h2 h3];split
     ·exact rb
     ·exact (fwd_skip _).bytesOk rb
   ·rw [blocks_short h1 h2];exact fd
  ·rw [blocks_end h1];exact h
theorem blocks_bytesOk{t:Tr}(h:xeo t):xeo t.blocks:=blocksFrom_bytesOk _ _ (Nat.le_refl _) h
structure Part(t t':Tr):Prop where
 s:t'.s=t.s
 starts:t'.starts=t.starts
 limit:t'.limit=t.limit
 mu:t'.mu<=t.mu
 cost:t'.cost<=t.cost
 ended:t.ended=true->t'.ended=true
 bytes:xeo t->xeo t'
 fine:Fine t->Fine t'
theorem Part.trans{a b c:Tr}(h:Part a b)(k:Part b c):Part a c:=⟨k.s.trans h.s,k.starts.trans h.starts,k.limit.trans h.limit,Nat.le_trans k.mu h.mu,Nat.le_trans k.cost h.cost,fun x=>k.ended (h.ended x),fun x=>k.bytes (h.bytes x),fun x=>k.fine (h.fine x)⟩
theorem Fwd.part{a b:Tr}(h:Fwd a b)(hf:Fine a->Fine b):Part a b:=⟨h.s,h.starts,h.limit,h.mu,h.cost,h.ended,h.bytesOk,hf⟩
theorem part_marked(t:Tr)(m:Nat):Fwd t (t.marked m)∧(Fine t->Fine (t.marked m))∧(∀ n,Low n t->Low (n+1) (t.marked m)):=by
 unfold marked;dsimp only
 have f2:Fwd t (if 7<m then t.fail 4 else t):=fwd_ite_fail _ t (by decide);have g2:Fine t->Fine (if 7<m then t.fail 4 else t):=fun h=>Fine.ite_fail _ h (by decide)
 have l2:∀ n,Low n t->Low n (if 7<m then t.fail 4 else t):=fun n h=>by
  split
  ·exact h.fail (by decide)
  ·exact h
 generalize (if 7<m then t.fail 4 else t)=t2 at *;have f3:Fwd t2 (if m%2=1 then t2.text else t2)∧(Fine t2->Fine (if m%2=1 then t2.text else t2))∧(∀ n,Low n t2->Low n (if m%2=1 then t2.text else t2)):=by
  split
  ·exact ⟨fwd_text t2,fun h=>h.text,fun n h=>h.text⟩
  ·exact ⟨Fwd.refl _,fun h=>h,fun n h=>h⟩
 generalize (if m%2=1 then t2.text else t2)=t3 at *;have f4:Fwd t3 (if m / 2%2=1 then t3.text else t3)∧(Fine t3->Fine (if m / 2%2=1 then t3.text else t3))∧(∀ n,Low n t3->Low n (if m / 2%2=1 then t3.text else t3)):=by
  split
  ·exact ⟨fwd_text t3,fun h=>h.text,fun n h=>h.text⟩
  ·exact ⟨Fwd.refl _,fun h=>h,fun n h=>h⟩
 generalize (if m / 2%2=1 then t3.text else t3)=t4 at *;have f:=(f2.trans f3.1).trans f4.1;split
 ·exact ⟨f.trans (fwd_isB t4 _),fun h=>(f4.2.1 (f3.2.1 (g2 h))).isB _,fun n h=>(f4.2.2 n (f3.2.2 n (l2 n h))).isB _⟩
 ·exact ⟨f,fun h=>f4.2.1 (f3.2.1 (g2 h)),fun n h=>(f4.2.2 n (f3.2.2 n (l2 n h))).mono (by omega)⟩
theorem part_blocks{t:Tr}(h:Fine t):Part t t.blocks:=by
 have f:=blocks_facts h;exact ⟨f.1,f.2.1,f.2.2.2.2.2.2,f.2.2.2.1,f.2.2.1,f.2.2.2.2.2.1,blocks_bytesOk,fun _=>f.2.2.2.2.1⟩
theorem fwd_sized(t:Tr):Fwd t t.sized:=by
 unfold sized;split
 ·exact (fwd_octet t).trans (fwd_octet _)
 ·exact ((fwd_octet t).trans (fwd_octet _)).trans (fwd_fail _ (by decide))
theorem Fine.sized{t:Tr}(h:Fine t):Fine t.sized:=by
 unfold Tr.sized;split
 ·exact h.octet.octet
 ·exact h.octet.octet.fail (by decide)
theorem zero_facts(t:Tr):Fwd t { t with head:=0,many:=0 }∧(Fine t->Fine { t with head:=0,many:=0 })∧Low t.mu { t with head:=0,many:=0 }:=⟨⟨rfl,rfl,rfl,rfl,rfl,rfl,Nat.le_refl _,fun h=>h⟩,fun h=>⟨h.left,h.cur,h.inn,h.frm,h.ats,h.err⟩,⟨by show 0<256;omega,by show 0+t.mu<=t.mu;omega⟩⟩
theorem headed_facts(t:Tr):Fwd t t.headed∧(Fine t->Fine t.headed)∧Low (t.mu+2) t.headed∧(t.ended=false->t.headed.mu<t.mu):=by
 have z:=zero_facts t;refine ⟨z.1.trans ((fwd_isB _ 76).trans (fwd_isB _ 2)),fun h=>((z.2.1 h).isB 76).isB 2,(z.2.2.isB 76).isB 2,fun he=>?_⟩;have h1:(({ t with head:=0,many:=0 }:Tr).isB 76).mu<t.mu:=by
  have hm:({ t with head:=0,many:=0 }:Tr).crown.2.mu<t.mu:=mu_crown (t:={ t with head:=0,many:=0 }) he;unfold isB;split
  ·exact hm
  ·rw [mu_fail _ (by decide)];exact mu_pos he
 exact Nat.lt_of_le_of_lt (fwd_isB _ 2).mu h1
theorem part_member{t:Tr}(h:Fine t):Part t t.member∧(t.ended=false->t.member.mu<t.mu):=by
 have a:=headed_facts t;have m:=part_marked t.headed.crown.2 t.headed.crown.1;have f1:Part t (t.headed.crown.2.marked t.headed.crown.1):=(a.1.trans ((fwd_crown _).trans m.1)).part (fun h=>m.2.1 (a.2.1 h).crown);have F1:=f1.fine h;have f2:=part_blocks F1;have f3:Part (t.headed.crown.2.marked t.headed.crown.1).blocks (t.headed.crown.2.marked t.headed.crown.1).blocks.sum:=(fwd_sum _).part (fun h=>h.sum);have f4:Part (t.headed.crown.2.marked t.headed.crown.1).blocks.sum t.member:=(fwd_sized _).part (fun h=>h.sized);refine ⟨((f1.trans f2).trans f3).trans f4,fun he=>?_⟩;have h1:=a.2.2.2 he;have h2:=((fwd_crown t.headed).trans m.1).mu;have h3:=((f2.trans f3).trans f4).mu;omega
def long(members:Nat)(t:Tr):Tr:=
 if t.ended=false∧t.inn<t.s.size then
  if members<=t.starts.length then ({ t with inn:=t.inn+1 }:Tr).fail 6
  else if _h:({ t with starts:=t.starts++[t.inn] }:Tr).member.mu<t.mu then long members ({ t with starts:=t.starts++[t.inn] }:Tr).member
  else t
 else t
 termination_by t.mu
def readShort(s:ByteArray)(limit:Nat):Tr:=if s.size=0 then { Tr.start s limit with needs:=true } else (((({ Tr.start s limit with starts:=[0] }:Tr).isB 115).isB 1).blocks.sum).trail
def readLong(s:ByteArray)(members limit:Nat):Tr:=if s.size=0 then { Tr.start s limit with needs:=true } else long members (Tr.start s limit)
def read(format:Nat)(members limit:Nat)(s:ByteArray):Tr:=if format=0 then readRaw s limit else if format=1 then readShort s limit else readLong s members limit
theorem long_stop{members:Nat}{t:Tr}(h:¬ (t.ended=false∧t.inn<t.s.size)):long members t=t:=by rw [long,if_neg h]
theorem long_many{members:Nat}{t:Tr}(h:t.ended=false∧t.inn<t.s.size)(h2:members<=t.starts.length):long members t=({ t with inn:=t.inn+1 }:Tr).fail 6:=by rw [long,if_pos h,if_pos h2]
theorem long_go{members:Nat}{t:Tr}(hf:Fine t)(h:t.ended=false∧t.inn<t.s.size)(h2:¬ members<=t.starts.length):long members t=long members ({ t with starts:=t.starts++[t.inn] }:Tr).member:=by
 have hm:({ t with starts:=t.starts++[t.inn] }:Tr).member.mu<t.mu:=(part_member (t:={ t with starts:=t.starts++[t.inn] }) ⟨hf.left,hf.cur,hf.inn,hf.frm,hf.ats,hf.err⟩).2 h.1;rw [long,if_pos h,if_neg h2,dif_pos hm]
end Tr
def Tr.readAll(fm:Nat)(s:ByteArray):Tr:=Tr.read fm 1152921504606846976 1152921504606846976 s
namespace Tr
def le(s:ByteArray):Nat->Nat->Nat
 | _,0=>0
 | i,n+1=>k0w s i+256*le s (i+1) n
theorem le_last(s:ByteArray)(n:Nat):∀ i,le s i (n+1)=le s i n+256^n*k0w s (i+n):=by
 induction n with
 | zero=>intro i;simp [le]
 | succ n ih=>
  intro i;have h1:le s i (n+1+1)=k0w s i+256*le s (i+1) (n+1):=rfl;have h2:le s i (n+1)=k0w s i+256*le s (i+1) n:=rfl;rw [h1,h2,ih (i+1),Nat.pow_succ,show i+1+n=i+(n+1) by omega,Nat.mul_add];have:256*(256^n*k0w s (i+(n+1)))=256^n*256*k0w s (i+(n+1)):=by
   rw [← Nat.mul_assoc,Nat.mul_comm 256 (256^n)]
  omega
structure Hand(t:Tr)(h c:Nat):Prop where
 left:t.left=c%8
 cur:t.cur<2^(c%8)
 inn:t.inn+c / 8<=t.s.size
 val:h=t.cur+2^(c%8)*le t.s t.inn (c / 8)
theorem pow_split(c:Nat):2^(c%8)*256^(c / 8)=2^c:=by
 rw [show (256:Nat)=2^8 from rfl,← Nat.pow_mul,← Nat.pow_add];congr 1;omega
theorem Hand.take{t:Tr}{h c:Nat}(H:Hand t h c)(hs:t.inn+c / 8<t.s.size):Hand t (h+2^c*k0w t.s (t.inn+c / 8)) (c+8):=by
 have e1:(c+8)%8=c%8:=by omega
 have e2:(c+8) / 8=c / 8+1:=by omega
 refine ⟨by rw [e1];exact H.left,by rw [e1];exact H.cur,by omega,?_⟩;rw [e1,e2,le_last,Nat.mul_add,← Nat.mul_assoc,pow_split,H.val];omega
def Rd(t t':Tr):Prop:=t'={ t with inn:=t'.inn,cur:=t'.cur,left:=t'.left }
theorem Rd.refl(t:Tr):Rd t t:=rfl
theorem Rd.trans{a b c:Tr}(h:Rd a b)(k:Rd b c):Rd a c:=by unfold Rd at *;rw [k,h]
theorem Rd.ended{a b:Tr}(h:Rd a b):b.ended=a.ended:=by unfold Rd at h;rw [h];rfl
theorem Hand.bit{t:Tr}{h c:Nat}(H:Hand t h c)(hg:t.ended=false)(hc:0<c) :
  t.bit.1=h%2∧Hand t.bit.2 (h / 2) (c - 1)∧Rd t t.bit.2∧t.bit.2.inn+(c - 1) / 8=t.inn+c / 8:=by
 obtain ⟨h1,h2,h3,h4⟩:=H;by_cases h0:c%8=0
 ·obtain ⟨m,hm⟩:∃ m,c / 8=m+1:=⟨c / 8 - 1,by omega⟩
  have e1:(c - 1)%8=7:=by omega
  have e2:(c - 1) / 8=m:=by omega
  rw [h0] at h1 h2 h4;rw [hm] at h3 h4;have hb:=z5g t.s t.inn;have hl:t.load={ t with inn:=t.inn+1,cur:=k0w t.s t.inn,left:=8 }:=by
   rw [load_zero h1,octet_some hg (by omega)]
  have hv:h=k0w t.s t.inn+256*le t.s (t.inn+1) m:=by
   rw [h4];simp only [Nat.pow_zero] at h2;have:le t.s t.inn (m+1)=k0w t.s t.inn+256*le t.s (t.inn+1) m:=rfl;omega
  have eb:t.bit=(k0w t.s t.inn%2,{ t with inn:=t.inn+1,cur:=k0w t.s t.inn / 2,left:=7 }):=by unfold Tr.bit;rw [hl];rfl
  rw [eb];refine ⟨by show k0w t.s t.inn%2=h%2;omega,⟨?_,?_,?_,?_⟩,rfl,?_⟩
  ·show 7=(c - 1)%8;omega
  ·show k0w t.s t.inn / 2<2^((c - 1)%8);rw [e1];omega
  ·show t.inn+1+(c - 1) / 8<=t.s.size;omega
  ·show h / 2=k0w t.s t.inn / 2+2^((c - 1)%8)*le t.s (t.inn+1) ((c - 1) / 8);rw [e1,e2];omega
  ·show t.inn+1+(c - 1) / 8=t.inn+c / 8;omega
 ·obtain ⟨r,hr⟩:∃ r,c%8=r+1:=⟨c%8 - 1,by omega⟩
  have e1:(c - 1)%8=r:=by omega
  have e2:(c - 1) / 8=c / 8:=by omega
  rw [hr] at h1 h2 h4;have eb:t.bit=(t.cur%2,{ t with cur:=t.cur / 2,left:=r }):=by
   unfold Tr.bit;rw [load_pos (by omega),h1];rfl
  rw [eb];rw [Nat.pow_succ] at h2 h4;have h5:h=t.cur+2*(2^r*le t.s t.inn (c / 8)):=by
   rw [h4,Nat.mul_comm (2^r) 2,Nat.mul_assoc]
  refine ⟨by show t.cur%2=h%2;omega,⟨?_,?_,?_,?_⟩,rfl,?_⟩
  ·show r=(c - 1)%8;omega
  ·show t.cur / 2<2^((c - 1)%8);rw [e1];omega
  ·show t.inn+(c - 1) / 8<=t.s.size;omega
  ·show h / 2=t.cur / 2+2^((c - 1)%8)*le t.s t.inn ((c - 1) / 8);rw [e1,e2];omega
  ·show t.inn+(c - 1) / 8=t.inn+c / 8;omega
theorem Hand.number{t:Tr}{h c:Nat}(H:Hand t h c)(hg:t.ended=false)(k:Nat)(hk:k<=c) :
  (t.number k).1=h%2^k∧Hand (t.number k).2 (h / 2^k) (c - k)∧Rd t (t.number k).2∧(t.number k).2.inn+(c - k) / 8=t.inn+c / 8:=by
 induction k with
 | zero=>exact ⟨by simp [Tr.number,Nat.mod_one],by simpa [Tr.number] using H,Rd.refl t,rfl⟩
 | succ k ih=>
  obtain ⟨a,b,r,e⟩:=ih (by omega);obtain ⟨a2,b2,r2,e2⟩:=b.bit (by rw [r.ended,hg]) (by omega);refine ⟨?_,?_,r.trans r2,?_⟩
  ·show (t.number k).1+(t.number k).2.bit.1*2^k=_;rw [a,a2,Nat.mod_pow_succ,Nat.mul_comm]
  ·have e3:h / 2^(k+1)=h / 2^k / 2:=by rw [Nat.pow_succ,Nat.div_div_eq_div_mul]
   rw [e3,show c - (k+1)=c - k - 1 by omega];exact b2
  ·rw [show c - (k+1)=c - k - 1 by omega];show (t.number k).2.bit.2.inn+_=_;omega
structure Ob where
 out:List Nat
 ats:List Nat
 inn:Nat
 starts:List Nat
 err:Nat
 needs:Bool
def obs(t:Tr):Ob:=⟨t.out,t.ats,t.inn,t.starts,t.err,t.needs⟩
theorem obs_ended{a b:Tr}(h:obs a=obs b):a.ended=b.ended:=by
 unfold obs at h;injection h with h1 h2 h3 h4 h5 h6
 unfold Tr.ended;rw [h5,h6]
def Frz(t t':Tr):Prop:=t.ended=true->obs t'=obs t
theorem Frz.refl(t:Tr):Frz t t:=fun _=>rfl
theorem Frz.trans{a b c:Tr}(h:Frz a b)(k:Frz b c):Frz a c:=fun he=>by
 have h1:=h he;rw [k (by rw [obs_ended h1];exact he),h1]
theorem frz_fail(t:Tr)(e:Nat):Frz t (t.fail e):=fun h=>by rw [fail_ended h]
theorem frz_octet(t:Tr):Frz t t.octet.2:=fun h=>by rw [octet_ended h]
theorem frz_bit(t:Tr):Frz t t.bit.2:=fun h=>by
 unfold Tr.bit;by_cases hl:t.left=0
 ·rw [load_zero hl,octet_ended h];rfl
 ·rw [load_pos (by omega)];rfl
theorem frz_number(t:Tr)(k:Nat):Frz t (t.number k).2:=by
 induction k with
 | zero=>exact Frz.refl t
 | succ k ih=>exact ih.trans (frz_bit _)
theorem frz_skip(t:Tr):Frz t t.skip:=fun h=>by
 unfold Tr.skip;split
 ·rw [fail_ended h];rfl
 ·rfl
theorem frz_put(t:Tr)(b:Nat):Frz t (t.put b):=fun h=>by rw [put_ended h]
theorem frz_sym(S:RSet)(r n c:Nat)(t:Tr):Frz t (sym S r n c t).2:=fun h=>by
 cases r with
 | zero=>rfl
 | succ r=>
  unfold Tr.sym;have hb:=frz_bit t h;rw [if_pos (by rw [obs_ended hb];exact h)];exact hb
theorem frz_symbol(t:Tr)(S:RSet):Frz t (t.symbol S).2:=frz_sym S 11 1 0 t
theorem frz_bytes(n:Nat)(t:Tr):Frz t (bytes n t):=fun h=>by
 cases n with
 | zero=>rfl
 | succ n=>unfold Tr.bytes;rw [if_pos h]
theorem frz_ite_fail(c:Prop)[Decidable c](t:Tr)(e:Nat):Frz t (if c then t.fail e else t):=by
 split
 ·exact frz_fail t e
 ·exact Frz.refl t
theorem frz_ite_fail'(c:Prop)[Decidable c](t:Tr)(e:Nat):Frz t (if c then t else t.fail e):=by
 split
 ·exact Frz.refl t
 ·exact frz_fail t e
theorem frz_copyN(far n:Nat)(t:Tr):Frz t (copyN far n t):=fun h=>by
 cases n with
 | zero=>rfl
 | succ n=>unfold Tr.copyN;rw [if_pos h]
theorem frz_content(a b:RSet)(t:Tr):Frz t (content a b t):=fun h=>by rw [content_ended h]
theorem frz_blocksFrom(t:Tr):Frz t (blocksFrom t):=fun h=>by rw [blocks_end h]
theorem frz_blocks(t:Tr):Frz t t.blocks:=fun h=>by unfold Tr.blocks;rw [blocks_end (t:={ t with frm:=t.out.length,left:=0 }) h];rfl
theorem frz_four(t:Tr)(k:Nat):Frz t (t.four k).2:=by
 induction k with
 | zero=>exact Frz.refl t
 | succ k ih=>exact ih.trans (frz_octet _)
theorem frz_sum(t:Tr):Frz t t.sum:=(frz_four t 4).trans (by unfold Tr.sum;exact frz_ite_fail' _ _ _)
theorem frz_crowned(t:Tr)(b:Nat):Frz t (t.crowned b):=fun h=>by
 unfold Tr.crowned;split
 ·rw [fail_ended h];rfl
 ·rfl
theorem frz_crown(t:Tr):Frz t t.crown.2:=(frz_octet t).trans (frz_crowned _ _)
theorem frz_isB(t:Tr)(b:Nat):Frz t (t.isB b):=(frz_crown t).trans (by unfold Tr.isB;exact frz_ite_fail' _ _ _)
theorem frz_text(t:Tr):Frz t t.text:=fun h=>by rw [text_end h]
theorem frz_sized(t:Tr):Frz t t.sized:=((frz_octet t).trans (frz_octet _)).trans (by unfold Tr.sized;exact frz_ite_fail' _ _ _)
theorem frz_long(m:Nat)(t:Tr):Frz t (long m t):=fun h=>by rw [long_stop (by rw [h];simp)]
theorem frz_row(H:RSet)(n:Nat)(l:List Int)(t:Tr):Frz t (row H n l t).2:=fun h=>by rw [row_stop (by rw [h];simp)]
theorem frz_trail(t:Tr):Frz t t.trail:=fun h=>by unfold Tr.trail;rw [if_neg (by rw [h];simp)]
def dry(t:Tr):Ob:=⟨t.out,t.ats,t.s.size,t.starts,0,true⟩
theorem dry_of{a b:Tr}(h:Rd a b)(hi:b.inn=a.s.size)(hg:a.ended=false)(hn:b.left=0):obs b.bit.2=dry a:=by
 have hs:b.s=a.s:=by unfold Rd at h;rw [h]
 unfold Tr.bit;rw [load_zero hn,octet_none (by rw [h.ended];exact hg) (by rw [hs];omega)];have he:a.err=0:=((ended_iff a).1 hg).1;unfold Rd at h;rw [h];show Ob.mk a.out a.ats b.inn a.starts a.err true=Ob.mk a.out a.ats a.s.size a.starts 0 true;rw [hi,he]
theorem dry_ended{t t':Tr}(h:obs t'=dry t):t'.ended=true:=by
 unfold obs dry at h;injection h with h1 h2 h3 h4 h5 h6
 unfold Tr.ended;rw [h6];simp
theorem Hand.starve{t:Tr}{h c:Nat}(H:Hand t h c)(hg:t.ended=false)(hs:t.inn+c / 8=t.s.size)(k:Nat)(hk:c<k):obs (t.number k).2=dry t:=by
 obtain ⟨a,b,r,e⟩:=H.number hg c (Nat.le_refl _);rw [Nat.sub_self] at b e;have h1:obs (t.number (c+1)).2=dry t:=dry_of r (by omega) hg b.left;have h2:∀ j,obs (t.number (c+1+j)).2=dry t:=by
  intro j;induction j with
  | zero=>exact h1
  | succ j ih=>
   have:obs (t.number (c+1+j)).2.bit.2=obs (t.number (c+1+j)).2:=frz_bit _ (dry_ended ih);exact this.trans ih
 have:=h2 (k - (c+1));rwa [show c+1+(k - (c+1))=k by omega] at this
theorem Hand.octet{t:Tr}{h c:Nat}(H:Hand t h c)(hg:t.ended=false)(h0:c%8=0)(hc:8<=c) :
  t.octet.1=h%256∧Hand t.octet.2 (h / 256) (c - 8)∧Rd t t.octet.2∧t.octet.2.inn+(c - 8) / 8=t.inn+c / 8:=by
 obtain ⟨h1,h2,h3,h4⟩:=H;obtain ⟨m,hm⟩:∃ m,c / 8=m+1:=⟨c / 8 - 1,by omega⟩
 rw [h0] at h1 h2 h4;rw [hm] at h3 h4;have hb:=z5g t.s t.inn;have hv:h=k0w t.s t.inn+256*le t.s (t.inn+1) m:=by
  have:le t.s t.inn (m+1)=k0w t.s t.inn+256*le t.s (t.inn+1) m:=rfl;rw [h4];simp only [Nat.pow_zero] at h2;omega
 have hcur:t.cur=0:=by simp only [Nat.pow_zero] at h2;omega
 have e1:(c - 8)%8=0:=by omega
 have e2:(c - 8) / 8=m:=by omega
 rw [octet_some hg (by omega)];refine ⟨by show k0w t.s t.inn=h%256;omega,⟨?_,?_,?_,?_⟩,rfl,?_⟩
 ·show t.left=(c - 8)%8;omega
 ·show t.cur<2^((c - 8)%8);rw [e1];simpa using h2
 ·show t.inn+1+(c - 8) / 8<=t.s.size;omega
 ·show h / 256=t.cur+2^((c - 8)%8)*le t.s (t.inn+1) ((c - 8) / 8);rw [e1,e2,hcur];simp only [Nat.pow_zero];omega
 ·show t.inn+1+(c - 8) / 8=t.inn+c / 8;omega
theorem Hand.octet_dry{t:Tr}{h:Nat}(H:Hand t h 0)(hg:t.ended=false)(hs:t.inn=t.s.size):obs t.octet.2=dry t:=by
 rw [octet_none hg (by omega)];have he:t.err=0:=((ended_iff t).1 hg).1;show Ob.mk t.out t.ats t.inn t.starts t.err true=Ob.mk t.out t.ats t.s.size t.starts 0 true;rw [hs,he]
end Tr
end Go.Proofs.YtbcjmakpempkiaaGreatDoor
