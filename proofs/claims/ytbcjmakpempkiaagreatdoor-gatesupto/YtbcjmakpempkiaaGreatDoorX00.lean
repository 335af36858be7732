import Derived.ArgAppend
import Derived.Below
import Derived.BigQuiet
import Derived.BigRegion
import Derived.ChangeKeysEq
import Derived.ChangeOld
import Derived.Deep.AppendLies
import Derived.Deep.CutBlock
import Derived.Deep.DeepCutAuto
import Derived.Deep.DeepHandedRow
import Derived.Deep.MidRow
import Derived.Deep.OwnRows
import Derived.Deep.QuietTactic
import Derived.Deep.RegionHeld3
import Derived.Deep.RegionLaw
import Derived.Deep.Slices
import Derived.Deep.WholeRow
import Derived.Ground.NamesProg
import Derived.KernelRfl
import Derived.Laws.Bits64
import Derived.Laws.BitsAllLaws
import Derived.Laws.BitsLemmas
import Derived.Laws.BytesArg
import Derived.Laws.CopyOwn
import Derived.Laws.IdiomStrings
import Derived.Laws.OwnMore
import Derived.Laws.ResultCell
import Derived.Laws.Rows
import Derived.Laws.ShiftsVarLaws
import Derived.Laws.StructEq
import Derived.Lib.AppendZeros
import Derived.Lib.Builder
import Derived.Lib.LaidTab
import Derived.Lib.UnsafeStr
import Derived.Maps.AppendAt
import Derived.OpenShut
import Derived.Outline
import Derived.ProofKit
import Derived.RegionTactic
import Derived.Shelf.RegionOpenPlain
import Derived.Shelf.Strconv.Itoa3
import Derived.Test.YtbcjmakpempkiaaGreatDoorRows
import Derived.WalkKit
import Derived.WalkSpells
set_option maxRecDepth 100000
set_option maxHeartbeats 8000000
set_option linter.all false
namespace Go.Proofs.YtbcjmakpempkiaaGreatDoor
variable {l:List Int} {a b c w w' w0 w1 w2 wr:World} {B T d e g gW i k m n p s sz x:Nat} {ρ ρ':Nat->Nat} {v va vo vs:Value} {q r t:Prop} {o:Obj} {ad:Option Addr} {xs:List Value}
open Go.Proofs.Tryz
open Go.RowKit
theorem hid{p:Prop}(h:p):Hid p:=h
theorem CL{p:Prop}(a:p)(b:q):Hid (p/\q):=⟨a,b⟩
theorem Ji{p:Prop}(a:p)(b:q)(c:r):Hid (p/\q/\r):=⟨a,b,c⟩
theorem IQ{p s:Prop}(a:p)(b:q)(c:r)(d:s):Hid (p/\q/\r/\s):=⟨a,b,c,d⟩
theorem ix{p s:Prop}(a:p)(b:q)(c:r)(d:s)(e:t):Hid (p/\q/\r/\s/\t):=⟨a,b,c,d,e⟩
theorem mS{p s u:Prop}(a:p)(b:q)(c:r)(d:s)(e:t)(f:u):Hid (p/\q/\r/\s/\t/\u):=⟨a,b,c,d,e,f⟩
theorem zO{p:Prop}(h:p:=by omega):p:=h
theorem zD{p:Prop}(h:p:=by decide):p:=h
theorem zK{p:Prop}(h:p:=by kernel_rfl):p:=h
theorem zS{p:Prop}(h:p:=by simp):p:=h
theorem zL:n<=n:=Nat.le_refl n
theorem zB:Below n w w:=Below.refl n w
theorem qe.{u}{α:Sort u}(a:α):∃ z,z=a:=⟨_,rfl⟩
theorem qn{t:Nat}(h:¬ t=0):((t:Int)==0)=false:=by simp;exact h
abbrev V5(k:Nat):Prop:=1<=k/\k<=5
def zA:=@if_neg
def zC:=@if_pos
def zE:=@Nat.le_refl
def zF:=@Go.RowKit.Below.refl
def zG:=@Nat.le_trans
def zH:=@Nat.zero_le
def zI:=@List.length_append
def zJ:=@Go.heap_alloc_new
def zM:=@Nat.lt_of_lt_of_le
def zP:=@List.getElem_cons_succ
def zQ:=@List.set_cons_succ
def zR:=@List.getElem_cons_zero
def zT:=@List.set_cons_zero
def zU:=@List.getElem_toArray
def zV:=@List.setIfInBounds_toArray
def zW:=@Go.wpAnyH_take
def zX:=@Go.bodyPost_ret
def zY:=@Ne.symm
def zZ:=@Go.RowKit.Below.heap_setCell
def yA:=@Go.cell_of_row
def yB:=@Classical.byContradiction
def yC:=@Nat.mod_lt
def yD:=@List.getElem_mem
def yE:=@Iff.rfl
def yF:=@List.getD_eq_getElem?_getD
def yG:=@List.length_cons
def yH:=@congrArg
def yI:=@List.append_assoc
def yJ:=@Nat.zero_add
def yK:=@Go.RowKit.Below.heap_alloc
def yL:=@Go.World.rowIs_alloc
def yM:=@Go.info_parts
def yN:=@Nat.pow_succ
def yO:=@List.length_singleton
def yP:=@Nat.pow_le_pow_right
def yQ:=@Array.getElem?_eq_some_iff
def yR:=@Nat.mod_eq_of_lt
def yS:=@Go.wpList_store_row
def yT:=@Go.wpList_load_row
def yU:=@Go.World.ownsRow_nil
def yV:=@Go.World.cell?_of_block
def yW:=@List.mem_append
def yX:=@Go.cell_one_new
def yY:=@List.mem_singleton
def yZ:=@List.length_replicate
def xA:=@List.length_nil
def xB:=@List.mem_cons
def xC:=@Go.wpList_append_lies
def xD:=@Go.setRow_other
def xE:=@Option.some.inj
def xF:=@Go.DataW.trod_int
def xG:=@ByteArray.size_extract
def xH:=@Go.results_cell_row
def xI:=@List.length_drop
def xJ:=@Int.pow_pos
def xK:=@Go.setRow_heap
def xL:=@List.flatMap_cons
def xM:=@Classical.not_not
def xN:=@Go.below_setRow
def xO:=@Go.World.ownsRow.cellAt
def xP:=@Option.some.injEq
def xQ:=@Go.heap_alloc_old
def xR:=@List.getElem?_eq_getElem
def xS:=@Go.World.news_of_block
def xT:=@Go.World.block_lt_of_cell?
def xU:=@List.take_of_length_le
def xV:=@List.append_nil
def xW:=@Go.IntWalk.wrap64_in
def xX:=@Go.Addr.mk.injEq
def xY:=@Go.step_append_lies
def xZ:=@Go.run_make_row'
def vA:=@List.take_succ_eq_append_getElem
def vB:=@Int.add_mul
def vC:=@Go.AllReadyH.cons
def vD:=@Go.wpAnyH_ready
def vE:=@Go.World.cell?_setCell_far
def vF:=@Prod.mk.injEq
def vG:=@List.take_length
def vH:=@List.getElem?_eq_some_iff
def vI:=@Int.mul_assoc
def vJ:=@Go.WideShapes.add_plain
def vK:=@Go.AllReadyH.nil
def vL:=@Go.size_madeCells
def vM:=@Go.results_none
def vN:=@Go.World.setRow_alloc_new
def vO:=@Go.Value.slice.injEq
def vP:=@Nat.two_pow_pos
def vQ:=@Nat.mul_comm
def vR:=@Nat.lt_of_le_of_lt
def vS:=@Nat.add_zero
def vT:=@List.mem_map
def vU:=@List.length_set
def vV:=@List.length_eq_zero_iff
def vW:=@List.getElem?_replicate
def vX:=@ByteArray.size_append
def vY:=@Array.getElem?_eq_getElem
def vZ:=@decide_eq_true
def kA:=@Go.World.cells?_some
def kB:=@Nat.pow_pos
def kC:=@Nat.pow_add
def kD:=@Nat.div_div_eq_div_mul
def kE:=@List.getElem?_append_left
def kF:=@List.all_eq_true
def kG:=@Go.IntWalk.i64_left
def kH:=@dif_pos
def kI:=@decide_eq_false
def kJ:=@Go.all_oneCell_toArray
def kK:=@Go.World.ownsRow.form
def kL:=@Go.World.frozen?_of_block
def kM:=@Option.isSome_iff_exists
def kN:=@List.sum_cons
def kO:=@List.mem_cons_self
def kP:=@List.map_cons
def kQ:=@List.getElem?_append
def kR:=@List.drop_append_of_le_length
def kS:=@Int.tmod_eq_emod_of_nonneg
def kT:=@Int.le_refl
def kU:=@Bool.eq_false_iff
def kV:=@of_decide_eq_true
def kW:=@Option.map_eq_some_iff
def kX:=@Nat.sub_self
def kY:=@Nat.le_succ
def kZ:=@Nat.le_of_eq
def jA:=@Nat.eq_zero_or_pos
def jB:=@List.getElem_set_ne
def jC:=@List.getElem_append_left
def jD:=@List.drop_zero
def jE:=@Int.mul_le_mul_of_nonneg_right
def jF:=@Int.le_trans
def jG:=@Go.Calls.quiet_of_same
def jH:=@Go.wp_store_mid
def jI:=@Go.wpList_append_grows
def jJ:=@Go.wpAnyH_done
def jK:=@Go.World.rowIs_made
def jL:=@Go.World.cell?_spot
def jM:=@Nat.mul_add
def jN:=@Nat.lt_or_ge
def jO:=@List.mem_of_mem_drop
def jP:=@List.mem_cons_of_mem
def jQ:=@List.map_append
def jR:=@List.length_take_le
def jS:=@List.length_take
def jT:=@List.getElem_set_self
def jU:=@List.getElem?_take
def jV:=@List.getElem?_drop
def jW:=@Int.toNat_natCast
def jX:=@Int.pow_succ
def jY:=@Go.Calls.mono
def jZ:=@Go.ByteArray.toList_eq
def AA:=@Array.length_toList
def AB:=@Go.wp_region_held_drew
def AC:=@Go.run_loadVar_row
def AD:=@Go.run_convert_bytes_arg
def AE:=@Go.World.cell?_setCells_in
def AG:=@Option.isNone_some
def AH:=@Option.isNone_none
def AI:=@Go.Oper.upon_value
def AJ:=@Nat.pow_zero
def AK:=@Nat.mul_le_mul_left
def AL:=@Nat.mul_assoc
def AM:=@Nat.mod_mod_of_dvd
def AN:=@Nat.add_assoc
def AO:=@List.pairwise_iff_getElem
def AP:=@List.not_mem_nil
def AQ:=@List.nil_append
def AR:=@List.mem_or_eq_of_mem_set
def AS:=@List.length_map
def AT:=@List.getElem_of_mem
def AU:=@List.getElem?_eq_none
def AV:=@List.getElem?_append_right
def AX:=@List.flatMap_append
def AY:=@List.filter_cons
def AZ:=@List.eq_nil_of_length_eq_zero
def BA:=@List.drop_length
def BC:=@List.drop_left
def BD:=@Int.mul_comm
def BE:=@Int.le_of_mul_le_mul_right
def BF:=@Int.le_of_lt
def BG:=@Go.DataW.trod_struct
def BH:=@Array.getElem?_toList
def BI:=@Array.ext_getElem?
def BJ:=@beq_eq_false_iff_ne
def BK:=@Go.World.there_setCells
def BL:=@Go.World.ownsRow.frozenAt
def BM:=@Option.bind_some
def BN:=@List.take_append_of_le_length
def BO:=@List.replicate_zero
def BP:=@List.replicate_succ'
def BQ:=@List.mem_of_mem_take
def BR:=@List.getElem?_toArray
def BS:=@List.getElem?_set
def BT:=@List.getElem?_map
def BU:=@List.foldl_append
def BV:=@List.filter_append
def BW:=@List.drop_replicate
def BX:=@List.drop_eq_nil_of_le
def BY:=@List.drop_eq_getElem_cons
def BZ:=@Go.Lib.run_unsafeString_none
def CA:=@Int.toNat_of_nonneg
def CB:=@Array.toArray_toList
def CC:=@Array.size_eq_zero_iff
def CD:=@List.replicate_append_replicate
def De(x:Int):Bool:=decide (0<=x/\x<=11)
def Ae(l:List Int):Bool:=l.all De
theorem IJ(hk:k<l.length)(h:Ae (l.take k)=true)(h1:De l[k]=true):Ae (l.take (k+1))=true:=by
 unfold Ae at *;rw [vA hk,List.all_append,h];simp [h1]
theorem IH(hk:k<l.length)(h:De l[k]=false):Ae l=false:=by
 rw [Ae,List.all_eq_false];exact ⟨l[k],yD hk,by simp [h]⟩
def Ap(w:World)(ad:Option Addr)(l:List Int):Prop:=∀ k,k<l.length->∃ b o,ad=some ⟨b,o,none⟩/\b<w.heap.size/\w.cell? ⟨b,o+k,none⟩=some (.int .i64 (l.getD k 0))
theorem Ap.at(h:Ap w ad l)(hk:k<l.length):∃ b o x,ad=some ⟨b,o,none⟩/\w.cell? ⟨b,o+k,none⟩=some (.int .i64 x)/\Hid (l[k]=x):=by
 obtain ⟨b,o,e,_,hc⟩:=h k hk;exact ⟨b,o,l[k],e,by rw [hc];simp [hk],show l[k]=l[k] from rfl⟩
theorem IG(ad:Option Addr)(cap:Nat)(l:List Int)(w:World)(hl:l.length<=1000000)(hc:Ap w ad l) :
  Calls prog 113 #[.slice ad l.length cap] w fun e f=>e= .returned (.bool (Ae l))/\f=w:=by
 go_enter func113,ntmps113
 go_wp2
 go_loop [7] (fun i=>∃ k:Nat,k<=l.length/\i= .int .i64 k/\Ae (l.take k)=true) (fun i=>l.length - (intOf i).toNat)
 case atStart=>exact ⟨0,zH _,rfl,by simp [Ae]⟩
 case round=>
  obtain ⟨k,hk,rfl,d⟩:=hrel;have c:=hid d;clear d;by_cases a:k<l.length
  ·obtain ⟨b,o,x,rfl,g,hx⟩:=hc.at a;by_cases h0:0<=x
   ·by_cases h1:x<=11
    ·go_wp2
     go_round
     case rel=>exact ⟨k+1,zO,by go_num,IJ a c.out (by rw [hx.out];simp [De];omega)⟩
     case measure=>simp [intOf];omega
    ·go_wp2
     go_ret
     exact ⟨by rw [IH a (by rw [hx.out];simp [De];omega)];rfl,rfl⟩
   ·go_wp2
    go_ret
    exact ⟨by rw [IH a (by rw [hx.out];simp [De];omega)];rfl,rfl⟩
  ·go_wp2
   go_ret
   have h:=c.out;rw [xU zO] at h;exact ⟨by rw [h];rfl,rfl⟩
def arr(f:Nat->Int):Array Value:=#[.int .i64 (f 0), .int .i64 (f 1), .int .i64 (f 2), .int .i64 (f 3), .int .i64 (f 4), .int .i64 (f 5), .int .i64 (f 6), .int .i64 (f 7), .int .i64 (f 8), .int .i64 (f 9), .int .i64 (f 10), .int .i64 (f 11)]
theorem Un(f:Nat->Int):(arr f).size=12:=rfl
theorem Hz(f:Nat->Int)(i:Nat)(h:i<12):(arr f)[i]?=some (.int .i64 (f i)):=by
 have:i=0\/i=1\/i=2\/i=3\/i=4\/i=5\/i=6\/i=7\/i=8\/i=9\/i=10\/i=11:=zO;rcases this with rfl | rfl | rfl | rfl | rfl | rfl | rfl | rfl | rfl | rfl | rfl | rfl <;> rfl
theorem TI{b:Nat}{f:Nat->Int}(h:w.rowIs b T 12 (fun j=> .int .i64 (f j))):w.heap[b]?=some (.cells (arr f) T (0,0)):=by
 obtain ⟨c,a,d,hc⟩:=h;have:c=arr f:=by
  apply BI;intro i;by_cases hi:i<12
  ·rw [hc i hi,Hz f i hi]
  ·rw [Array.getElem?_eq_none zO,Array.getElem?_eq_none (by rw [Un];omega)]
 rw [a,this]
theorem Ha(T:Nat)(w:World)(f:Nat->Int):(w.alloc (.cells (arr f) T)).rowIs w.heap.size T 12 (fun j=> .int .i64 (f j)):=
 yL w (arr f) T _ (fun i hi=>Hz f i (by simpa [Un] using hi))
theorem FZ(f:Nat->Int):(arr f).all (·.oneCell')=true:=by simp [arr,Value.oneCell']
theorem FU(f:Nat->Int):(prog.info? 197).map (·.size)=some (arr f).size:=zK
theorem GU(f:Nat->Int):(prog.info? 199).map (·.size)=some (arr f).size:=zK
def cn(l:List Int)(j:Nat):Int:=((l.filter (fun x=>decide (0<x) && x==(j:Int))).length:Int)
theorem Iv(j:Nat):cn [] j=0:=rfl
theorem EK(l:List Int)(j:Nat):0<=cn l j:=by unfold cn;omega
theorem bz(l:List Int)(j:Nat):cn l j<=l.length:=by
 unfold cn;have:=List.length_filter_le (fun x=>decide (0<x) && x==(j:Int)) l;omega
theorem Yk(l:List Int)(x:Int)(j:Nat):cn (l++[x]) j=cn l j+if 0<x/\x=j then 1 else 0:=by
 unfold cn;rw [BV];by_cases h:0<x/\x=(j:Int)
 ·have:(decide (0<x) && x==(j:Int))=true:=by simp [h.2];omega
  rw [zC h,AY,this];simp
 ·have:(decide (0<x) && x==(j:Int))=false:=by
   rw [kU];intro a;simp at a;exact h ⟨a.1,a.2⟩
  rw [zA h,AY,this];simp
theorem DT(hk:k<l.length)(j:Nat):cn (l.take (k+1)) j=cn (l.take k) j+if 0<l[k]/\l[k]=j then 1 else 0:=by
 rw [vA hk,Yk]
theorem Dc{b t:Nat}{f:Nat->Value}(h:w.rowIs b t n f)(c:Below B w w')(a:b<B):w'.rowIs b t n f:=h.of_block (c.block b a)
theorem Gw(a:Ae l=true)(hk:k<l.length):∃ n:Nat,n<=11/\l[k]=(n:Int):=by
 have:=kF.1 a l[k] (yD hk);simp [De] at this;exact ⟨l[k].toNat,zO,zO⟩
theorem Ap.LZ(h:Ap w ad l)(d:Ae l=true)(hk:k<l.length):∃ (b o n:Nat),ad=some ⟨b,o,none⟩/\w.cell? ⟨b,o+k,none⟩=some (.int .i64 n)/\n<=11/\Hid (l[k]=(n:Int)):=by
 obtain ⟨n,c,e⟩:=Gw d hk;obtain ⟨b,o,a,_,hc⟩:=h k hk;exact ⟨b,o,n,a,by rw [hc];simp [hk,e],c,e⟩
theorem Ap.below(h:Ap w ad l)(c:Below B w w')(hB:w.heap.size<=B):Ap w' ad l:=fun k hk=>by
 obtain ⟨b,o,e,a,hc⟩:=h k hk;exact ⟨b,o,e,zM a c.size,by rw [c.cell (by show b<B;omega),hc]⟩
theorem Ap.same(h:Ap w ad l)(c:w'.heap=w.heap):Ap w' ad l:=fun k hk=>by
 obtain ⟨b,o,e,a,hc⟩:=h k hk;exact ⟨b,o,e,by rw [c];exact a,by rw [yV (w:=w) (by rw [c]),hc]⟩
theorem XB(a:k<l.length)(hx:l[k]=(n:Int))(b:0<n)(h:wr.rowIs g T 12 (fun j=> .int .i64 (cn (l.take k) j))) :
  (wr.setCell ⟨g,n,none⟩ (.int .i64 (cn (l.take k) n+1))).rowIs g T 12 (fun j=> .int .i64 (cn (l.take (k+1)) j)):=by
 refine (h.set n _).congr fun i _=>?_
 rw [DT a,hx];by_cases e:i=n
 ·subst e;rw [zC rfl,zC ⟨zO,rfl⟩]
 ·rw [zA e,zA zO];simp
theorem XA(a:k<l.length)(hx:l[k]=0)(h:wr.rowIs g T 12 (fun j=> .int .i64 (cn (l.take k) j))) :
  wr.rowIs g T 12 (fun j=> .int .i64 (cn (l.take (k+1)) j)):=by
 refine h.congr fun i _=>?_
 rw [DT a,hx];simp
theorem El(ad:Option Addr)(cap:Nat)(l:List Int)(w:World)(hl:l.length<=1000000)(hc:Ap w ad l)(z:Ae l=true) :
  Calls prog 114 #[.slice ad l.length cap] w fun e A=>e= .returned (.agg (arr (cn l)))/\Below w.heap.size w A:=by
 go_enter func114,ntmps114
 go_wp2
 go_loopw [8] (fun i wr=>∃ k:Nat,k<=l.length/\i= .int .i64 k/\wr.rowIs (w.heap.size+1) 199 12 (fun j=> .int .i64 (cn (l.take k) j))/\wr.rowIs w.heap.size 199 12 (fun _=> .int .i64 0)/\Below w.heap.size w wr) (fun i _=>l.length - (intOf i).toNat)
 case atStart=>
  refine ⟨0,zH _,rfl,?_,?_,(zB.alloc zL _).alloc zS _⟩
  ·have:=Ha 199 (w.alloc (.cells (arr (fun _=>0)) 199)) (fun _=>0);simpa [Iv,arr] using this
  ·have:=(Ha 199 w (fun _=>0)).alloc (.cells (arr (fun _=>0)) 199);simpa [arr] using this
 case round=>
  obtain ⟨k,hk,rfl,c,h,d⟩:=hrel;by_cases q:k<l.length
  ·obtain ⟨b,o,n,rfl,g,C,hx⟩:=(hc.below d zL).LZ z q;have s:=EK (l.take k) n;have t:cn (l.take k) n<=1000000:=by
    have:=bz (l.take k) n;have:=jR k l;omega
   have B:=c.cell (i:=n) zO;have g2:=c.frozen n;by_cases r:0<n
   ·have R:=XB q hx.out r c;have u:=h.setOther (a:=⟨w.heap.size+1,n,none⟩) zS (.int .i64 (cn (l.take k) n+1));have y:=d.setCell (p:=⟨w.heap.size+1,n,none⟩) zS (.int .i64 (cn (l.take k) n+1));go_wp2
    go_roundw
    case rel=>exact ⟨k+1,zO,by go_num,R,u,y⟩
    case measure=>simp [intOf];omega
   ·obtain rfl:n=0:=zO;have R:=XA q hx.out c;go_wp2
    go_roundw
    case rel=>exact ⟨k+1,zO,by go_num,R,h,d⟩
    case measure=>simp [intOf];omega
  ·rw [xU zO] at c;have h1:=TI c;have h2:=TI (f:=fun _=>0) h;go_wp2_with (first | refine yT rfl 199 _ rfl _ rfl 199 _ _ _ h1 underlying199 rfl (GU _) ?_ | refine yS rfl 199 _ _ rfl _ _ rfl rfl 199 _ h2 (GU _) rfl (FZ _) ?_)
   refine zX (v:= .agg (arr (cn l))) ?_ ?_ ?_
   ·exact xH results114 _ _ _ 199 _ _ _ rfl (xK _ _ _ _ 199 _ h2) underlying199 rfl (GU _)
   ·rfl
   ·exact ⟨rfl,xN d zL _⟩
theorem idx(f:Nat->Int)(k:Nat)(hk:k<12)(w:World):(Instr.index 197 (.agg (arr f)) (.int .i64 k)).run prog w= .ok (.int .i64 (f k)) w:=by
 have:=Hz f k hk;simp [Instr.index,go_sem,this,hk]
def shr(f:Nat->Int):Nat->Int
 | 0=>0
 | k+1=>shr f k+f k*2^(11 - k)
theorem lG(k:Nat):(0:Int)<2^(11 - k)/\(2:Int)^(11 - k)<=2048:=by
 have h:11 - k<=11:=zO;generalize 11 - k=m at *;have:m=0\/m=1\/m=2\/m=3\/m=4\/m=5\/m=6\/m=7\/m=8\/m=9\/m=10\/m=11:=zO;rcases this with rfl | rfl | rfl | rfl | rfl | rfl | rfl | rfl | rfl | rfl | rfl | rfl <;> decide
theorem ZW{x:Int}(h0:0<=x)(h1:x<=1000000)(k:Nat):0<=x*2^(11 - k)/\x*2^(11 - k)<=2048000000:=by
 have ⟨a,b⟩:=lG k;exact ⟨Int.mul_nonneg h0 zO,jF (Int.mul_le_mul h1 b zO zO) zD⟩
theorem lM(f:Nat->Int)(h:∀ j,j<12->0<=f j/\f j<=1000000)(k:Nat)(hk:k<=12):0<=shr f k/\shr f k<=2048000000*k:=by
 induction k with
 | zero=>exact ⟨by simp [shr],by simp [shr]⟩
 | succ k ih=>
  have ⟨a,b⟩:=ih zO;have ⟨c,d⟩:=h k zO;have ⟨e,g⟩:=ZW c d k;simp only [shr];omega
theorem eB(f:Nat->Int)(h:∀ j,j<12->0<=f j/\f j<=1000000)(k:Nat)(hk:k<12):wrap64 (shr f k+wrap64 (f k*2^(11 - k)))=shr f (k+1):=by
 have ⟨a,b⟩:=lM f h k zO;have ⟨c,d⟩:=h k hk;have ⟨e,g⟩:=ZW c d k;rw [xW (f k*2^(11 - k)) ⟨zO,zO⟩,xW _ ⟨zO,zO⟩];rfl
theorem EN(f:Nat->Int)(w:World)(c:∀ j,j<12->0<=f j/\f j<=1000000) :
  Calls prog 115 #[.agg (arr f)] w fun e d=>e= .returned (.bool (shr f 12==2048))/\Below w.heap.size w d:=by
 go_enter func115,ntmps115
 go_wp2_with (refine yT rfl 197 _ rfl _ rfl 199 (arr f) (0,0) _ (zJ _ _) underlying197 rfl (FU _) ?_)
 go_loop [3,8] (fun s i=>∃ k:Nat,k<=12/\i= .int .i64 k/\s= .int .i64 (shr f k)) (fun _ i=>12 - (intOf i).toNat)
 case atStart=>exact ⟨0,zH _,rfl,rfl⟩
 case round=>
  obtain ⟨k,hk,rfl,rfl⟩:=hrel;by_cases a:k<12
  ·have hi:=idx f k a;have b:=hid (eB f c k a);go_wp2
   go_round
   case rel=>exact ⟨k+1,zO,by go_num,by rw [b.out]⟩
   case measure=>simp [intOf];omega
  ·obtain rfl:k=12:=zO;go_wp2
   go_ret
   exact ⟨rfl,zB.alloc zL _⟩
def one(j:Nat):Int:=if j=1 then 1 else 0
def Gr(f:Nat->Int):Bool:=(List.range 12).all fun i=>f i==one i
theorem iL(f:Nat->Int)(i:Nat)(hi:i<12)(w:World):(part 3 (arr f) (i*prog.cellsOf 3)).run prog w= .ok (.int .i64 (f i)) w:=by
 have hc:prog.cellsOf 3=1:=zK;have:=Hz f i hi;simp [part,hc,go_sem,this]
theorem Jf(d:Nat)(f g:Nat->Int)(w:World):∀ a:List Nat,(∀ i∈a,i<12)->(Op.eqItems (d+1) 3 (prog.cellsOf 3) (arr f) (arr g) a).run prog w= .ok (a.all fun i=>f i==g i) w
 | [],_=>by simp [Op.eqItems]
 | i :: a,h=>by
  have hi:=h i zS;have c:=Jf d f g w a (fun j b=>h j (by simp [b]));simp only [Op.eqItems,Sem.run_bind,iL f i hi,iL g i hi,Result.andThen_ok,run_equalIn_int w d 3 .i64 .i64 (f i) (g i) underlying3];by_cases e:f i=g i
  ·simp [e,c]
  ·simp [e]
theorem mP(f:Nat->Int)(w:World):(Op.equalIn 10000 197 (.agg (arr f)) (.agg #[.int .i64 0, .int .i64 1, .int .i64 0, .int .i64 0, .int .i64 0, .int .i64 0, .int .i64 0, .int .i64 0, .int .i64 0, .int .i64 0, .int .i64 0, .int .i64 0])).run prog w= .ok (Gr f) w:=by
 have a:=sizeOf3;obtain ⟨i,hi⟩:∃ i,prog.info? 3=some i:=by
  cases h:prog.info? 3 with
  | none=>
    have:(prog.info? 3).isSome=true:=zK;simp [h] at this
  | some i=>exact ⟨i,rfl⟩
 have e:(#[.int .i64 0, .int .i64 1, .int .i64 0, .int .i64 0, .int .i64 0, .int .i64 0, .int .i64 0, .int .i64 0, .int .i64 0, .int .i64 0, .int .i64 0, .int .i64 0]:Array Value)=arr one:=rfl;rw [e,show (10000:Nat)=9999+1 from rfl,run_equalIn_array w 9999 _ _ underlying197 hi];exact Jf 9998 f one w (List.range 12) (fun i hi=>by simpa using hi)
theorem Iz(f:Nat->Int)(w:World) :
  Calls prog 116 #[.agg (arr f)] w fun e a=>e= .returned (.bool (Gr f))/\Below w.heap.size w a:=by
 have he:=mP f;go_enter func116,ntmps116
 go_wp2_with (refine yT rfl 197 _ rfl _ rfl 199 (arr f) (0,0) _ (zJ _ _) underlying197 rfl (FU _) ?_)
 go_ret
 exact ⟨rfl,zB.alloc zL _⟩
def fc(f:Nat->Int):Nat->Int
 | 0=>0
 | k+1=>(fc f k+f k)*2
theorem mQ(f:Nat->Int)(e:∀ j,j<12->0<=f j/\f j<=1000000)(k:Nat)(hk:k<=12):0<=fc f k/\fc f k<=2000000*(2^k - 1):=by
 induction k with
 | zero=>exact ⟨by simp [fc],by simp [fc]⟩
 | succ k ih=>
  have ⟨a,b⟩:=ih zO;have ⟨c,d⟩:=e k zO;simp only [fc];rw [jX];omega
theorem mj(k:Nat)(hk:k<=12):(2:Int)^k<=4096:=by
 have:k=0\/k=1\/k=2\/k=3\/k=4\/k=5\/k=6\/k=7\/k=8\/k=9\/k=10\/k=11\/k=12:=zO;rcases this with rfl | rfl | rfl | rfl | rfl | rfl | rfl | rfl | rfl | rfl | rfl | rfl | rfl <;> decide
theorem cH(f:Nat->Int)(c:∀ j,j<12->0<=f j/\f j<=1000000)(k:Nat)(hk:k<=12):0<=fc f k/\fc f k<=8192000000:=by
 have ⟨a,b⟩:=mQ f c k hk;have:=mj k hk;omega
def RX(f:Nat->Int)(k j:Nat):Int:=if j<=k then fc f j else 0
theorem Zw{f:Nat->Int}(h:wr.rowIs g 197 12 (fun j=> .int .i64 (RX f k j))) :
  (wr.setCell ⟨g,k+1,none⟩ (.int .i64 (fc f (k+1)))).rowIs g 197 12 (fun j=> .int .i64 (RX f (k+1) j)):=by
 refine (h.set (k+1) _).congr fun i _=>?_
 unfold RX;by_cases e:i=k+1
 ·subst e;rw [zC rfl,zC zL]
 ·rw [zA e];by_cases a:i<=k
  ·rw [zC a,zC zO]
  ·rw [zA a,zA zO]
theorem cG{f:Nat->Int}(h:wr.rowIs g 197 12 (fun j=> .int .i64 (RX f 11 j))):wr.rowIs g 197 12 (fun j=> .int .i64 (fc f j)):=
 h.congr fun i hi=>by rw [RX,zC zO]
theorem GA(f:Nat->Int)(w:World)(n:∀ j,j<12->0<=f j/\f j<=1000000) :
  Calls prog 151 #[.agg (arr f)] w fun e u=>e= .returned (.agg (arr (fc f)))/\Below w.heap.size w u:=by
 go_enter func151,ntmps151
 go_wp2
 go_loopw [4] (fun i wr=>∃ k:Nat,k<=11/\i= .int .i64 (k+1)/\wr.rowIs (w.heap.size+1+1) 197 12 (fun j=> .int .i64 (RX f k j))/\wr.rowIs w.heap.size 199 12 (fun j=> .int .i64 (f j))/\wr.rowIs (w.heap.size+1) 197 12 (fun _=> .int .i64 0)/\Below w.heap.size w wr) (fun i _=>12 - (intOf i).toNat)
 case atStart=>
  refine ⟨0,zH _,rfl,?_,?_,?_,((zB.alloc zL _).alloc zS _).alloc (by simp;omega) _⟩
  ·have:=Ha 197 ((w.alloc (.cells (arr f) 199)).alloc (.cells (arr (fun _=>0)) 197)) (fun _=>0);have h2:=this.congr (g:=fun j=> .int .i64 (RX f 0 j)) (fun i _=>by unfold RX;split <;> simp_all [fc]);simpa [arr] using h2
  ·have:=((Ha 199 w f).alloc (.cells (arr (fun _=>0)) 197)).alloc (.cells (arr (fun _=>0)) 197);simpa [arr] using this
  ·have:=(Ha 197 (w.alloc (.cells (arr f) 199)) (fun _=>0)).alloc (.cells (arr (fun _=>0)) 197);simpa [arr] using this
 case round=>
  obtain ⟨k,hk,rfl,b,h,d,c⟩:=hrel;by_cases t:k<11
  ·have s:=b.cell (i:=k) zO;have g2:=h.cell (i:=k) zO;have B:=b.cell (i:=k+1) zO;have C:=b.frozen (k+1);have l:RX f k k=fc f k:=zC zL;rw [l] at s;have ⟨y,z⟩:=cH f n k zO;have ⟨A,b4⟩:=n k zO;clear l;have R:(wr.setCell ⟨w.heap.size+1+1,k+1,none⟩ (.int .i64 ((fc f k+f k)*2))).drew.rowIs (w.heap.size+1+1) 197 12 (fun j=> .int .i64 (RX f (k+1) j)):=(Zw b).drew;have o:=(h.setOther (a:=⟨w.heap.size+1+1,k+1,none⟩) (by simp;omega) (.int .i64 ((fc f k+f k)*2))).drew;have q:=(d.setOther (a:=⟨w.heap.size+1+1,k+1,none⟩) zS (.int .i64 ((fc f k+f k)*2))).drew;have r:=(c.setCell (p:=⟨w.heap.size+1+1,k+1,none⟩) (by simp;omega) (.int .i64 ((fc f k+f k)*2))).drew;go_wp2
   go_region
   go_wp2
   go_roundw
   case rel=>exact ⟨k+1,zO,by go_num,R,o,q,r⟩
   case measure=>simp [intOf];omega
  ·obtain rfl:k=11:=zO;have h1:=TI (cG b);have h2:=TI (f:=fun _=>0) d;go_wp2_with (first | refine yT rfl 197 _ rfl _ rfl 197 _ _ _ h1 underlying197 rfl (FU _) ?_ | refine yS rfl 197 _ _ rfl _ _ rfl rfl 197 _ h2 (FU _) rfl (FZ _) ?_)
   refine zX (v:= .agg (arr (fc f))) ?_ ?_ ?_
   ·exact xH results151 _ _ _ 197 _ _ _ rfl (xK _ _ _ _ 197 _ h2) underlying197 rfl (FU _)
   ·rfl
   ·exact ⟨rfl,xN c zO _⟩
theorem Gf:(prog.info? 3).map (fun i=>(i.zero,i.size,i.bytes))=some (some (.int .i64 0),1,8):=zK
def Yi(nx:Nat->Int)(l:List Int)(i:Nat):Int:=if l.getD i 0=0 then -1 else nx (l.getD i 0).toNat+cn (l.take i) (l.getD i 0).toNat
def Wt(nx:Nat->Int)(l:List Int)(k i:Nat):Int:=if i<k then Yi nx l i else 0
theorem Uw{nx:Nat->Int}(hk:k<l.length)(h:l[k]=0):Yi nx l k= -1:=by
 rw [Yi,zC (by simp [hk,h])]
theorem TP{nx:Nat->Int}(hk:k<l.length)(h:l[k]=(n:Int))(a:0<n):Yi nx l k=nx n+cn (l.take k) n:=by
 have e:l.getD k 0=n:=by simp [hk,h]
 rw [Yi,e,zA zO];simp
theorem Yh{nx:Nat->Int}(v:Int)(hv:Yi nx l k=v)(h:wr.rowIs g 3 m (fun i=> .int .i64 (Wt nx l k i))) :
  (wr.setCell ⟨g,k,none⟩ (.int .i64 v)).rowIs g 3 m (fun i=> .int .i64 (Wt nx l (k+1) i)):=by
 refine (h.set k _).congr fun i _=>?_
 unfold Wt;by_cases e:i=k
 ·subst e;rw [zC rfl,zC zO,hv]
 ·rw [zA e];by_cases a:i<k
  ·rw [zC a,zC zO]
  ·rw [zA a,zA zO]
theorem Ol{nx:Nat->Int}(hk:k<l.length)(hx:l[k]=(n:Int))(a:0<n)(h:wr.rowIs g 197 12 (fun j=> .int .i64 (nx j+cn (l.take k) j))) :
  (wr.setCell ⟨g,n,none⟩ (.int .i64 (nx n+cn (l.take k) n+1))).rowIs g 197 12 (fun j=> .int .i64 (nx j+cn (l.take (k+1)) j)):=by
 refine (h.set n _).congr fun i _=>?_
 rw [DT hk,hx];by_cases e:i=n
 ·subst e;rw [zC rfl,zC ⟨zO,rfl⟩];congr 1;omega
 ·rw [zA e,zA zO];simp
theorem Oj{nx:Nat->Int}(hk:k<l.length)(hx:l[k]=0)(h:wr.rowIs g 197 12 (fun j=> .int .i64 (nx j+cn (l.take k) j))) :
  wr.rowIs g 197 12 (fun j=> .int .i64 (nx j+cn (l.take (k+1)) j)):=by
 refine h.congr fun i _=>?_
 rw [DT hk,hx];simp
theorem Ds(h1:Below w0.heap.size w0 w1)(h2:Below w1.heap.size w1 w2):Below w0.heap.size w0 w2:=h1.trans (h2.mono h1.size)
theorem FV(hl:l.length<=269):∀ j,j<12->0<=cn l j/\cn l j<=1000000:=fun j _=>⟨EK l j,by have:=bz l j;omega⟩
theorem PT(ad:Option Addr)(cap:Nat)(l:List Int)(w:World)(hl:l.length<=269)(hc:Ap w ad l)(D:Ae l=true) :
  Calls prog 117 #[.slice ad l.length cap] w fun e E=>∃ g,e= .returned (.slice (some ⟨g,0,none⟩) l.length l.length)/\w.heap.size<=g/\E.rowIs g 3 l.length (fun i=> .int .i64 (Yi (fc (cn l)) l i))/\Below w.heap.size w E:=by
 have G:=xZ (P:=prog) 69 3 (.int .i64 0) 8 underlying69 Gf rfl .i64 .i64 l.length zO zO;have z:=hid (FV hl);go_enter func117,ntmps117
 go_wp2_with fail
 refine (El ad cap l _ zO hc D).mono ?_;rintro e w1 ⟨rfl,r⟩;go_wp2_with fail
 refine (GA (cn l) _ z.out).mono ?_;rintro e w2 ⟨rfl,s⟩;have v:=hc.below (Ds r s) zL;have A:=hid (Ds r s);have y:=fun j (hj:j<12)=>cH _ z.out j (Nat.le_of_lt hj)
 clear r s hc;go_wp2_with (first | (refine yS rfl 197 _ _ rfl _ _ rfl rfl 197 _ (zJ _ _) (FU _) rfl (FZ _) ?_;rw [vN]))
 go_loopw [15] (fun i wr=>∃ k:Nat,k<=l.length/\i= .int .i64 k/\wr.rowIs (w2.heap.size+1) 3 l.length (fun i=> .int .i64 (Wt (fc (cn l)) l k i))/\wr.rowIs w2.heap.size 197 12 (fun j=> .int .i64 ((fc (cn l)) j+cn (l.take k) j))/\Below w2.heap.size w2 wr) (fun i _=>l.length - (intOf i).toNat)
 case atStart=>
  refine ⟨0,zH _,rfl,?_,?_,(zB.alloc zL _).alloc zS _⟩
  ·have:=jK (w2.alloc (.cells (arr (fc (cn l))) 197)) (.int .i64 0) l.length 3;have h2:=this.congr (g:=fun i=> .int .i64 (Wt (fc (cn l)) l 0 i)) (fun i _=>by rw [Wt,zA zO]);simpa using h2
  ·have:=((Ha 197 w2 (fc (cn l))).alloc (.cells (madeCells #[.int .i64 0] l.length) 3)).congr (g:=fun j=> .int .i64 ((fc (cn l)) j+cn (l.take 0) j)) (fun i _=>by simp [Iv]);exact this
 case round=>
  obtain ⟨k,hk,rfl,c,f,d⟩:=hrel;by_cases h:k<l.length
  ·obtain ⟨b,o,n,rfl,g,N,hx⟩:=(v.below d zL).LZ D h;have ⟨H,I⟩:=y n zO;have B:=EK (l.take k) n;have C:cn (l.take k) n<=1000000:=by
    have:=bz (l.take k) n;have:=jR k l;omega
   have J:=c.cell h;have g2:=c.frozen k;have L:=f.cell (i:=n) zO;have M:=f.frozen n;by_cases q:0<n
   ·have R:=Yh _ (TP (nx:=(fc (cn l))) h hx.out q) c;have F:=R.setOther (a:=⟨w2.heap.size,n,none⟩) zS (.int .i64 ((fc (cn l)) n+cn (l.take k) n+1));have t:=Ol h hx.out q (f.setOther (a:=⟨w2.heap.size+1,k,none⟩) zS (.int .i64 ((fc (cn l)) n+cn (l.take k) n)));have u:=(d.setCell (p:=⟨w2.heap.size+1,k,none⟩) zS (.int .i64 ((fc (cn l)) n+cn (l.take k) n))).setCell (p:=⟨w2.heap.size,n,none⟩) zS (.int .i64 ((fc (cn l)) n+cn (l.take k) n+1));clear R;go_wp2
    go_roundw
    case rel=>exact ⟨k+1,zO,by go_num,F,t,u⟩
    case measure=>simp [intOf];omega
   ·obtain rfl:n=0:=zO;have R:=Yh _ (Uw (nx:=(fc (cn l))) h hx.out) c;have t:=Oj h hx.out (f.setOther (a:=⟨w2.heap.size+1,k,none⟩) zS (.int .i64 (-1)));have u:=d.setCell (p:=⟨w2.heap.size+1,k,none⟩) zS (.int .i64 (-1));have g0:wr.cell? ⟨b,o+k,none⟩=some (.int .i64 0):=g;clear g;go_wp2
    go_roundw
    case rel=>exact ⟨k+1,zO,by go_num,R,t,u⟩
    case measure=>simp [intOf];omega
  ·obtain rfl:k=l.length:=zO;go_wp2
   go_ret
   exact ⟨_,rfl,by have:=A.out.size;omega,c.congr fun i hi=>by rw [Wt,zC hi],Ds A.out d⟩
def Ka(l:List Int):Bool:=shr (cn l) 12==2048 || Gr (cn l)
theorem Zo(ad:Option Addr)(n cap:Nat)(w:World)(b:269<n)(hm:n<=9223372036854775807) :
  Calls prog 83 #[.slice ad n cap] w fun e a=>e= .returned (.tuple #[.slice none 0 0, .int .i64 10])/\a=w:=by
 go_enter func83,ntmps83
 go_wp2_with fail
 go_ret2
 exact ⟨rfl,rfl⟩
theorem Ux(ad:Option Addr)(cap:Nat)(l:List Int)(w:World)(hl:l.length<=269)(hc:Ap w ad l)(b:Ae l=false) :
  Calls prog 83 #[.slice ad l.length cap] w fun e a=>e= .returned (.tuple #[.slice none 0 0, .int .i64 10])/\a=w:=by
 go_enter func83,ntmps83
 go_wp2_with (go_at_call 113;refine (IG ad cap l _ zO hc).mono ?_;rw [b];rintro e a ⟨rfl,rfl⟩)
 go_ret2
 exact ⟨rfl,rfl⟩
theorem Lf{f:Nat->Int}(h:w.heap[g]?=some (.cells (arr f) 199 (0,0))) :
  w.cell? ⟨g,0,none⟩=some (.int .i64 (f 0))/\w.cell? ⟨g,1,none⟩=some (.int .i64 (f 1))/\w.cell? ⟨g,2,none⟩=some (.int .i64 (f 2))/\w.cell? ⟨g,3,none⟩=some (.int .i64 (f 3))/\w.cell? ⟨g,4,none⟩=some (.int .i64 (f 4))/\w.cell? ⟨g,5,none⟩=some (.int .i64 (f 5))/\w.cell? ⟨g,6,none⟩=some (.int .i64 (f 6))/\w.cell? ⟨g,7,none⟩=some (.int .i64 (f 7))/\w.cell? ⟨g,8,none⟩=some (.int .i64 (f 8))/\w.cell? ⟨g,9,none⟩=some (.int .i64 (f 9))/\w.cell? ⟨g,10,none⟩=some (.int .i64 (f 10))/\w.cell? ⟨g,11,none⟩=some (.int .i64 (f 11)):=by
 have k:=fun j=>yA w g j _ _ _ h
 exact ⟨k 0,k 1,k 2,k 3,k 4,k 5,k 6,k 7,k 8,k 9,k 10,k 11⟩
theorem cW(h1:Below w0.heap.size w0 w1)(h2:Below (w1.alloc o).heap.size (w1.alloc o) w2):Below w0.heap.size w0 w2:=
 (h1.alloc h1.size o).trans (h2.mono (by have:=h1.size;simp;omega))
theorem Zq(ad:Option Addr)(cap:Nat)(l:List Int)(w:World)(hl:l.length<=269)(hc:Ap w ad l)(k:Ae l=true)(j:Ka l=true) :
  Calls prog 83 #[.slice ad l.length cap] w fun e n=>∃ g,e= .returned (.tuple #[.slice (some ⟨g,0,none⟩) l.length l.length, .int .i64 0])/\w.heap.size<=g/\n.rowIs g 3 l.length (fun i=> .int .i64 (Yi (fc (cn l)) l i))/\Below w.heap.size w n:=by
 have u:=hid (FV hl);have v:=hid hc;cases q:(shr (cn l) 12==2048)
 ·have E:Gr (cn l)=true:=by simpa [Ka,q] using j
  clear j;go_enter func83,ntmps83
  go_wp2_with (go_at_call 113;refine (IG ad cap l _ zO hc).mono ?_;rw [k];rintro e n ⟨rfl,rfl⟩)
  refine (El ad cap l _ zO hc k).mono ?_;rintro e w1 ⟨rfl,f⟩;go_wp2_with (first | (refine yS rfl 199 _ _ rfl _ _ rfl rfl 199 _ (zJ _ _) (GU _) rfl (FZ _) ?_;rw [vN]) | refine yT rfl 199 _ rfl _ rfl 199 _ _ _ (zJ _ _) underlying199 rfl (GU _) ?_)
  refine (EN (cn l) _ u.out).mono ?_;rw [q];rintro e w2 ⟨rfl,d⟩;have t:w2.heap[w1.heap.size]?=some (.cells (arr (cn l)) 199 (0,0)):=(d.block _ zS).trans (zJ _ _);obtain ⟨y,c1,c2,c3,z,A,c6,B,C,D,o,p⟩:=Lf t;go_wp2_with fail
  refine (Iz (cn l) _).mono ?_;rw [E];rintro e G ⟨rfl,r⟩;clear y c1 c2 c3 z A c6 B C D o p;have a:=Ds (cW f d) r;go_wp2_with fail
  refine (PT ad cap l _ hl (v.out.below a zL) k).mono ?_;rintro e F ⟨g,rfl,s,c,h⟩;have b:=Ds a h;go_wp2_with fail
  go_ret2
  exact ⟨_,rfl,zG a.size s,c,b⟩
 ·clear j;go_enter func83,ntmps83
  go_wp2_with (go_at_call 113;refine (IG ad cap l _ zO hc).mono ?_;rw [k];rintro e n ⟨rfl,rfl⟩)
  refine (El ad cap l _ zO hc k).mono ?_;rintro e w1 ⟨rfl,f⟩;go_wp2_with (first | (refine yS rfl 199 _ _ rfl _ _ rfl rfl 199 _ (zJ _ _) (GU _) rfl (FZ _) ?_;rw [vN]) | refine yT rfl 199 _ rfl _ rfl 199 _ _ _ (zJ _ _) underlying199 rfl (GU _) ?_)
  refine (EN (cn l) _ u.out).mono ?_;rw [q];rintro e w2 ⟨rfl,d⟩;have a:=cW f d;go_wp2_with fail
  refine (PT ad cap l _ hl (v.out.below a zL) k).mono ?_;rintro e F ⟨g,rfl,s,c,h⟩;have b:=Ds a h;go_wp2_with fail
  go_ret2
  exact ⟨_,rfl,zG a.size s,c,b⟩
theorem Zp(ad:Option Addr)(cap:Nat)(l:List Int)(w:World)(hl:l.length<=269)(hc:Ap w ad l)(k:Ae l=true)(a:Ka l=false) :
  Calls prog 83 #[.slice ad l.length cap] w fun e n=>e= .returned (.tuple #[.slice none 0 0, .int .i64 10])/\Below w.heap.size w n:=by
 have o:=hid (FV hl);have y:(shr (cn l) 12==2048)=false:=by cases h:(shr (cn l) 12==2048) <;> simp [Ka,h] at a |-
 have v:Gr (cn l)=false:=by cases h:Gr (cn l) <;> simp [Ka,h] at a |-
 clear a;go_enter func83,ntmps83
 go_wp2_with (go_at_call 113;refine (IG ad cap l _ zO hc).mono ?_;rw [k];rintro e n ⟨rfl,rfl⟩)
 refine (El ad cap l _ zO hc k).mono ?_;rintro e w1 ⟨rfl,g⟩;go_wp2_with (first | (refine yS rfl 199 _ _ rfl _ _ rfl rfl 199 _ (zJ _ _) (GU _) rfl (FZ _) ?_;rw [vN]) | refine yT rfl 199 _ rfl _ rfl 199 _ _ _ (zJ _ _) underlying199 rfl (GU _) ?_)
 refine (EN (cn l) _ o.out).mono ?_;rw [y];rintro e w2 ⟨rfl,b⟩;have j:w2.heap[w1.heap.size]?=some (.cells (arr (cn l)) 199 (0,0)):=(b.block _ zS).trans (zJ _ _);obtain ⟨p,c1,c2,c3,q,r,c6,s,t,u,d,f⟩:=Lf j;go_wp2_with fail
 refine (Iz (cn l) _).mono ?_;rw [v];rintro e z ⟨rfl,i⟩;clear p c1 c2 c3 q r c6 s t u d f;have c:=Ds (cW g b) i;go_wp2_with fail
 go_ret2
 exact ⟨rfl,c⟩
def CT(l:List Int):Bool:=decide (l.length<=269) && Ae l && Ka l
theorem Pg(ad:Option Addr)(cap:Nat)(l:List Int)(w:World)(hl:l.length<=9223372036854775807)(hc:Ap w ad l) :
  Calls prog 83 #[.slice ad l.length cap] w fun e a=>
   (CT l=true/\∃ g,e= .returned (.tuple #[.slice (some ⟨g,0,none⟩) l.length l.length, .int .i64 0])/\w.heap.size<=g/\a.rowIs g 3 l.length (fun i=> .int .i64 (Yi (fc (cn l)) l i))/\Below w.heap.size w a)\/
   (CT l=false/\e= .returned (.tuple #[.slice none 0 0, .int .i64 10])/\Below w.heap.size w a):=by
 by_cases h1:l.length<=269
 ·cases b:Ae l
  ·exact (Ux ad cap l w h1 hc b).mono fun e a ⟨he,hw⟩=>Or.inr ⟨by simp [CT,b],he,hw ▸ zF _ _⟩
  ·cases ho:Ka l
   ·exact (Zp ad cap l w h1 hc b ho).mono fun e a h=>Or.inr ⟨by simp [CT,ho],h⟩
   ·exact (Zq ad cap l w h1 hc b ho).mono fun e a h=>Or.inl ⟨by simp [CT,h1,b,ho],h⟩
 ·exact (Zo ad _ cap w zO hl).mono fun e a ⟨he,hw⟩=>Or.inr ⟨by simp [CT,h1],he,hw ▸ zF _ _⟩
theorem KX:CT []=false:=zD
theorem Jd(ad:Option Addr)(cap:Nat)(w:World) :
  Calls prog 83 #[.slice ad 0 cap] w fun e a=>e= .returned (.tuple #[.slice none 0 0, .int .i64 10])/\Below w.heap.size w a:=
 (Pg ad cap [] w zS (fun k hk=>by simp at hk)).mono fun e a h=>by
  rcases h with ⟨h,_⟩ | ⟨_,h⟩
  ·rw [KX] at h;cases h
  ·exact h
def pw(x:Int):Nat:=2^(11 - x.toNat)
def wt(l:List Int):Nat:=(l.map pw).sum
def Cc(n k j:Nat):Nat:=if k<=j then j - k else j+n - k
def sumTo(f g:Nat->Int):Nat->Int
 | 0=>0
 | k+1=>sumTo f g k+f k*g k
def sumOf(g:Nat->Int)(l:List Int):Int:=(l.map fun x=>if 0<x then g x.toNat else 0).sum
theorem Sh(f:Nat->Int)(k:Nat):shr f k=sumTo f (fun j=>2^(11 - j)) k:=by
 induction k with
 | zero=>rfl
 | succ k ih=>simp [shr,sumTo,ih]
theorem TQ(x:Int)(l:List Int)(j:Nat):cn (x :: l) j=(if 0<x/\x=j then 1 else 0)+cn l j:=by
 unfold cn;by_cases h:0<x/\x=(j:Int)
 ·have:(decide (0<x) && x==(j:Int))=true:=by simp [h.2];omega
  rw [zC h,AY,this];simp;omega
 ·have:(decide (0<x) && x==(j:Int))=false:=by
   rw [kU];intro a;simp at a;exact h ⟨a.1,a.2⟩
  rw [zA h,AY,this];simp
theorem Qq(g:Nat->Int)(k:Nat):sumTo (cn []) g k=0:=by
 induction k with
 | zero=>rfl
 | succ k ih=>simp [sumTo,ih,Iv]
theorem YR(x:Int)(l:List Int)(g:Nat->Int)(k:Nat):sumTo (cn (x :: l)) g k=(if 0<x/\x.toNat<k then g x.toNat else 0)+sumTo (cn l) g k:=by
 induction k with
 | zero=>simp [sumTo]
 | succ k ih=>
  simp only [sumTo,ih,TQ];by_cases h:0<x/\x=(k:Int)
  ·have e:x.toNat=k:=zO;rw [zA zO,zC h,zC zO,e,vB];omega
  ·rw [zA h];by_cases h2:0<x/\x.toNat<k
   ·rw [zC h2,zC zO];simp;omega
   ·rw [zA h2,zA zO];simp
theorem Mc(g:Nat->Int)(l:List Int)(b:Ae l=true):sumTo (cn l) g 12=sumOf g l:=by
 induction l with
 | nil=>simp [Qq,sumOf]
 | cons x l ih=>
  simp [Ae,De] at b;have a:Ae l=true:=by simp [Ae,De];exact b.2
  rw [YR,ih a];simp only [sumOf,kP,kN];by_cases h:0<x
  ·rw [zC h,zC ⟨h,zO⟩]
  ·rw [zA h,zA zO]
theorem Nb(l:List Int)(a:Ae l=true):shr (cn l) 12=sumOf (fun j=>2^(11 - j)) l:=by rw [Sh,Mc _ _ a]
theorem EV(l:List Int):Ae l=true↔∀ x∈l,0<=x/\x<=11:=by simp [Ae,De]
theorem UI(g:Nat->Int)(l m:List Int):sumOf g (l++m)=sumOf g l+sumOf g m:=by simp [sumOf]
theorem NG(f:Nat->Int):Gr f=true↔∀ j,j<12->f j=one j:=by simp [Gr]
theorem aN{f:Nat->Int}(h:Gr f=true)(g:Nat->Int):sumTo f g 12=g 1:=by
 have k:=(NG f).1 h;simp [sumTo,k 0,k 1,k 2,k 3,k 4,k 5,k 6,k 7,k 8,k 9,k 10,k 11,one]
theorem Vf(a:YtbcjmakpempkiaaGreatDoor.Ae l=true)(h:Gr (cn l)=true)(g:Nat->Int):sumOf g l=g 1:=by rw [<- Mc g l a,aN h g]
def Ct(l:List Int):List Int:=(List.range l.length).map (Yi (fc (cn l)) l)
theorem EL(l:List Int):(Ct l).length=l.length:=by simp [Ct]
theorem TS(l:List Int)(i:Nat)(h:i<l.length):(Ct l).getD i 0=Yi (fc (cn l)) l i:=by simp [Ct,h]
theorem XE(f:Nat->Int)(k:Nat)(hk:k<=11):fc f k*2^(11 - k)=shr f k:=by
 induction k with
 | zero=>simp [fc,shr]
 | succ k ih=>
  have e:(2:Int)^(11 - k)=2*2^(11 - (k+1)):=by
   rw [show 11 - k=(11 - (k+1))+1 from by omega,jX];omega
  have a:=ih zO;simp only [fc,shr];rw [<- a,e,vI,vB]
theorem mv(f:Nat->Int)(c:∀ j,0<=f j){a b:Nat}(h:a<=b):shr f a<=shr f b:=by
 induction b with
 | zero=>
   have:a=0:=zO;subst this;exact kT _
 | succ b ih=>
  by_cases e:a=b+1
  ·subst e;exact kT _
  ·have:=ih zO;have h1:0<=f b*2^(11 - b):=Int.mul_nonneg (c b) (BF (xJ zD));simp only [shr];omega
theorem fD(l:List Int)(j:Nat){a b:Nat}(h:a<=b):cn (l.take a) j<=cn (l.take b) j:=by
 induction b with
 | zero=>
   have:a=0:=zO;subst this;exact kT _
 | succ b ih=>
  by_cases e:a=b+1
  ·subst e;exact kT _
  ·have:=ih zO;by_cases c:b<l.length
   ·rw [DT c];split <;> omega
   ·rw [xU (i:=b+1) zO];rw [xU (i:=b) zO] at this;exact this
theorem iE(hi:i<l.length)(c:0<n)(h:l[i]=(n:Int)){b:Nat}(a:i<b):cn (l.take i) n<cn (l.take b) n:=by
 have h1:=fD l n (show i+1<=b from a);rw [DT hi,zC ⟨zO,h⟩] at h1;omega
theorem fC(hi:i<l.length)(a:0<n)(h:l[i]=(n:Int)):cn (l.take i) n+1<=cn l n:=by
 have:=iE hi a h hi;rw [vG] at this;omega
theorem nth(l:List Int)(n:Nat)(q:Int)(h0:0<=q)(h1:q<cn l n):∃ i,∃ h:i<l.length,l[i]=(n:Int)/\cn (l.take i) n=q:=by
 have a:∀ k,k<=l.length->q<cn (l.take k) n->∃ i,∃ h:i<l.length,l[i]=(n:Int)/\cn (l.take i) n=q:=by
  intro k;induction k with
  | zero=>intro _ h;simp [Iv] at h;omega
  | succ k ih=>
   intro hk h;rw [DT zO] at h;by_cases e:0<l[k]/\l[k]=(n:Int)
   ·rw [zC e] at h;by_cases b:q<cn (l.take k) n
    ·exact ih zO b
    ·exact ⟨k,zO,e.2,zO⟩
   ·rw [zA e] at h;exact ih zO zO
 exact a l.length zL (by rw [vG];exact h1)
def start(l:List Int)(i n:Nat):Int:=shr (cn l) n+cn (l.take i) n*2^(11 - n)
theorem Wx(hi:i<l.length)(b:0<n)(a:n<=11)(h:l[i]=(n:Int)):Yi (fc (cn l)) l i*2^(11 - n)=start l i n:=by
 rw [TP hi h b,vB,XE _ _ a];rfl
theorem Ot(m:Nat)(h:m<=11):0<2^m/\2^m<=2048:=⟨kB zD,yP (n:=2) zD h⟩
def gw(j:Nat):Int:=((2^(11 - j):Nat):Int)
theorem QB:(fun j=>(2:Int)^(11 - j))=gw:=by funext j;simp [gw]
theorem VW(j:Nat):0<=gw j/\gw j<=2048:=by
 have:=Ot (11 - j) zO;unfold gw;omega
theorem KN(n:Nat)(w:World)(g:n<=11) :
  Calls prog 178 #[.int .i64 n] w fun e f=>e= .returned (.int .i64 (gw n))/\w=f:=by
 go_enter func178,ntmps178
 go_wp2
 go_loop [3,4] (fun s i=>∃ m x:Nat,n+m<=11/\x<=2048/\i= .int .i64 (n+m)/\s= .int .i64 x/\x=2^m) (fun _ i=>11 - (intOf i).toNat)
 case atStart=>exact ⟨0,1,zO,zO,zS,rfl,rfl⟩
 case round=>
  obtain ⟨m,x,hm,hx,rfl,rfl,a⟩:=hrel;have b:=hid a;clear a;by_cases d:n+m<11
  ·go_wp2
   go_round
   case rel=>
    refine ⟨m+1,2*x,zO,?_,by go_num,by go_num,?_⟩
    ·rw [b.out];have:=(Ot (m+1) zO).2;rw [yN] at this;omega
    ·rw [b.out,yN];omega
   case measure=>simp [intOf];omega
  ·have e:m=11 - n:=zO;have c:Hid ((x:Int)=gw n):=by show (x:Int)=_;rw [b.out,e];rfl
   go_wp2
   go_ret
   exact ⟨by rw [<- c.out];rfl,rfl⟩
theorem JT(g:Nat->Int)(hk:k<l.length):sumOf g (l.take (k+1))=sumOf g (l.take k)+if 0<l[k] then g l[k].toNat else 0:=by
 rw [vA hk,UI];simp [sumOf]
theorem Mb(g:Nat->Int)(M:Int)(a:∀ j,0<=g j/\g j<=M)(b:0<=M)(l:List Int):0<=sumOf g l/\sumOf g l<=M*l.length:=by
 induction l with
 | nil=>simp [sumOf]
 | cons x l ih=>
  have:=a x.toNat;simp only [sumOf,kP,kN,yG] at *;rw [Int.natCast_add,Int.mul_add];split <;> simp <;> omega
theorem Na(ad:Option Addr)(cap:Nat)(l:List Int)(w:World)(hl:l.length<=269)(hc:Ap w ad l)(q:Ae l=true) :
  Calls prog 152 #[.slice ad l.length cap] w fun e h=>e= .returned (.int .i64 (sumOf gw l))/\w=h:=by
 go_enter func152,ntmps152
 go_wp2_with fail
 go_loop [3,4] (fun s i=>∃ k:Nat,k<=l.length/\i= .int .i64 k/\s= .int .i64 (sumOf gw (l.take k))) (fun _ i=>l.length - (intOf i).toNat)
 case atStart=>exact ⟨0,zH _,rfl,rfl⟩
 case round=>
  obtain ⟨k,hk,rfl,rfl⟩:=hrel;by_cases d:k<l.length
  ·obtain ⟨b,o,n,rfl,g,p,hx⟩:=hc.LZ q d;have hs:=Mb gw 2048 VW zD (l.take k);have j:=jR k l;have c:=JT gw d;rw [hx.out] at c;by_cases f:0<n
   ·have a:Hid (sumOf gw (l.take (k+1))=sumOf gw (l.take k)+gw n):=by
     show _=_;rw [c,zC zO];rfl
    have hp:=VW n;clear c;go_wp2_with (go_at_call 178;refine (KN n _ p).mono ?_;rintro e h ⟨rfl,rfl⟩)
    go_round
    case rel=>exact ⟨k+1,zO,by go_num,by rw [a.out]⟩
    case measure=>simp [intOf];omega
   ·obtain rfl:n=0:=zO;have g0:w.cell? ⟨b,o+k,none⟩=some (.int .i64 0):=g;have a:Hid (sumOf gw (l.take (k+1))=sumOf gw (l.take k)):=by
     show _=_;rw [c,zA zO];simp
    clear c g;go_wp2_with fail
    go_round
    case rel=>exact ⟨k+1,zO,by go_num,by rw [a.out]⟩
    case measure=>simp [intOf];omega
  ·go_wp2
   go_ret
   exact ⟨by rw [xU zO];rfl,rfl⟩
theorem KF(ad:Option Addr)(cap:Nat)(l:List Int)(w:World)(hl:l.length<=269)(hc:Ap w ad l) :
  Calls prog 153 #[.slice ad l.length cap] w fun e j=>e= .returned (.int .i64 (sumOf (fun _=>1) l))/\w=j:=by
 go_enter func153,ntmps153
 go_wp2_with fail
 go_loop [3,4] (fun s i=>∃ k:Nat,k<=l.length/\i= .int .i64 k/\s= .int .i64 (sumOf (fun _=>1) (l.take k))) (fun _ i=>l.length - (intOf i).toNat)
 case atStart=>exact ⟨0,zH _,rfl,rfl⟩
 case round=>
  obtain ⟨k,hk,rfl,rfl⟩:=hrel;by_cases f:k<l.length
  ·obtain ⟨b,o,x,rfl,g,hx⟩:=hc.at f;have hs:=Mb (fun _=>1) 1 (fun _=>zD) zD (l.take k);have h:=jR k l;have d:=JT (fun _=>1) f;rw [hx.out] at d;by_cases a:0<x
   ·have c:Hid (sumOf (fun _=>1) (l.take (k+1))=sumOf (fun _=>1) (l.take k)+1):=by
     show _=_;rw [d,zC a]
    clear d;go_wp2_with fail
    go_round
    case rel=>exact ⟨k+1,zO,by go_num,by rw [c.out]⟩
    case measure=>simp [intOf];omega
   ·have c:Hid (sumOf (fun _=>1) (l.take (k+1))=sumOf (fun _=>1) (l.take k)):=by
     show _=_;rw [d,zA a];simp
    clear d;go_wp2_with fail
    go_round
    case rel=>exact ⟨k+1,zO,by go_num,by rw [c.out]⟩
    case measure=>simp [intOf];omega
  ·go_wp2
   go_ret
   exact ⟨by rw [xU zO];rfl,rfl⟩
theorem FI(ad:Option Addr)(cap:Nat)(l:List Int)(w:World)(hl:l.length<=269)(hc:Ap w ad l)(b:Ae l=true) :
  Calls prog 118 #[.slice ad l.length cap] w fun e a=>e= .returned (.bool (sumOf gw l==2048))/\w=a:=by
 go_enter func118,ntmps118
 go_wp2_with (go_at_call 152;refine (Na ad cap l _ hl hc b).mono ?_;rintro e a ⟨rfl,rfl⟩)
 go_ret
 exact ⟨rfl,rfl⟩
def single(l:List Int):Bool:=sumOf (fun _=>1) l==1 && sumOf gw l==1024
theorem Hs(ad:Option Addr)(cap:Nat)(l:List Int)(w:World)(hl:l.length<=269)(hc:Ap w ad l)(b:Ae l=true) :
  Calls prog 119 #[.slice ad l.length cap] w fun e a=>e= .returned (.bool (single l))/\w=a:=by
 cases h1:(sumOf (fun _=>1) l==1)
 ·go_enter func119,ntmps119
  go_wp2_with (first | (go_at_call 153;refine (KF ad cap l _ hl hc).mono ?_;rintro e a ⟨rfl,rfl⟩) | (go_at_call 152;refine (Na ad cap l _ hl hc b).mono ?_;rintro e a ⟨rfl,rfl⟩))
  go_ret
  exact ⟨by simp [single,h1],rfl⟩
 ·go_enter func119,ntmps119
  go_wp2_with (first | (go_at_call 153;refine (KF ad cap l _ hl hc).mono ?_;rintro e a ⟨rfl,rfl⟩) | (go_at_call 152;refine (Na ad cap l _ hl hc b).mono ?_;rintro e a ⟨rfl,rfl⟩))
  go_ret
  exact ⟨by simp [single,h1],rfl⟩
def ahd(l:List Int)(s:Nat):Nat->Int
 | 0=>0
 | k+1=>ahd l s k+if 0<l.getD k 0/\(l.getD k 0<l.getD s 0\/(l.getD k 0=l.getD s 0/\k<s)) then gw (l.getD k 0).toNat else 0
theorem iX(l:List Int)(s k:Nat):0<=ahd l s k/\ahd l s k<=2048*k:=by
 induction k with
 | zero=>simp [ahd]
 | succ k ih=>have:=VW (l.getD k 0).toNat;simp only [ahd];split <;> omega
theorem Yg(hk:k<l.length)(hs:s<l.length)(c:l[k]=(n:Int))(hm:l[s]=(m:Int))(h0:0<n)(h:n<m\/(n=m/\k<s)):ahd l s (k+1)=ahd l s k+gw n:=by
 have a:l.getD k 0=n:=by simp [hk,c]
 have b:l.getD s 0=m:=by simp [hs,hm]
 simp only [ahd];rw [a,b,zC zO];simp
theorem TG(hk:k<l.length)(hs:s<l.length)(c:l[k]=(n:Int))(hm:l[s]=(m:Int))(h:n=0\/m<n\/(n=m/\s<=k)):ahd l s (k+1)=ahd l s k:=by
 have a:l.getD k 0=n:=by simp [hk,c]
 have b:l.getD s 0=m:=by simp [hs,hm]
 simp only [ahd];rw [a,b,zA zO];simp
theorem cB(ad:Option Addr)(cap:Nat)(l:List Int)(s m:Nat)(w:World)(hl:l.length<=269)(hc:Ap w ad l)(B:Ae l=true)(hs:s<l.length)(hm:l[s]=(m:Int)) :
  Calls prog 154 #[.slice ad l.length cap, .int .i64 s] w fun e z=>e= .returned (.int .i64 (ahd l s l.length / gw m))/\∃ q,z=w.drewN q:=by
 obtain ⟨b,o,c,rfl,g2,r,p⟩:=hc.LZ B hs;obtain rfl:c=m:=by have:=p.out;omega
 have g:=hid hm;clear hm p;go_enter func154,ntmps154
 go_wp2_with fail
 go_loopw [5,6] (fun t i wr=>∃ k q:Nat,k<=l.length/\i= .int .i64 k/\t= .int .i64 (ahd l s k)/\wr=w.drewN q) (fun _ i _=>l.length - (intOf i).toNat)
 case atStart=>exact ⟨0,0,zH _,rfl,rfl,rfl⟩
 case round=>
  obtain ⟨k,q,hk,rfl,rfl,rfl⟩:=hrel;have F:=iX l s k;by_cases a:k<l.length
  ·obtain ⟨D,G,n,A,j,f,hx⟩:=hc.LZ B a;simp only [xP,xX,and_true] at A;obtain ⟨rfl,rfl⟩:=A;have hp:=VW n;rcases (show (n<c)\/(n=c/\k<s)\/(n=c/\s<=k)\/c<n from by omega) with h | ⟨rfl,h⟩ | ⟨rfl,h⟩ | h
   ·have t1:(n:Int)<c:=zO;by_cases h0:0<n
    ·have d:=hid (Yg a hs hx.out g.out h0 (Or.inl h));go_wp2_with fail
     go_quiet (fail)
     go_wp2_with (go_at_call 178;refine (KN n _ f).mono ?_;rintro e z ⟨rfl,rfl⟩)
     go_roundw
     case rel=>exact ⟨k+1,_,zO,by go_num,by rw [d.out],rfl⟩
     case measure=>simp [intOf];omega
    ·obtain rfl:n=0:=zO;have d:=hid (TG a hs hx.out g.out (Or.inl rfl));have g0:w.cell? ⟨b,o+k,none⟩=some (.int .i64 0):=j;have t2:(0:Int)<c:=zO;clear j;go_wp2_with fail
     go_quiet (fail)
     go_wp2_with fail
     go_roundw
     case rel=>exact ⟨k+1,_,zO,by go_num,by rw [d.out],rfl⟩
     case measure=>simp [intOf];omega
   ·have t1:(k:Int)<s:=zO;by_cases h0:0<n
    ·have d:=hid (Yg a hs hx.out g.out h0 (Or.inr ⟨rfl,h⟩));go_wp2_with fail
     go_quiet (fail)
     go_wp2_with (go_at_call 178;refine (KN n _ f).mono ?_;rintro e z ⟨rfl,rfl⟩)
     go_roundw
     case rel=>exact ⟨k+1,_,zO,by go_num,by rw [d.out],rfl⟩
     case measure=>simp [intOf];omega
    ·obtain rfl:n=0:=zO;have d:=hid (TG a hs hx.out g.out (Or.inl rfl));have g0:w.cell? ⟨b,o+k,none⟩=some (.int .i64 0):=j;have E:w.cell? ⟨b,o+s,none⟩=some (.int .i64 0):=g2;clear j;go_wp2_with fail
     go_quiet (fail)
     go_wp2_with fail
     go_roundw
     case rel=>exact ⟨k+1,_,zO,by go_num,by rw [d.out],rfl⟩
     case measure=>simp [intOf];omega
   ·have t1:decide ((k:Int)<s)=false:=by simp;omega
    have d:=hid (TG a hs hx.out g.out (Or.inr (Or.inr ⟨rfl,h⟩)));go_wp2_with fail
    go_quiet (fail)
    go_wp2_with fail
    all_goals
     go_roundw
     case rel=>exact ⟨k+1,_,zO,by go_num,by rw [d.out],rfl⟩
     case measure=>simp [intOf];omega
   ·have d:=hid (TG a hs hx.out g.out (Or.inr (Or.inl h)));obtain ⟨x,u⟩:∃ x:Int,(n:Int)=x:=⟨_,rfl⟩
    obtain ⟨y,v⟩:∃ y:Int,(c:Int)=y:=⟨_,rfl⟩
    rw [u] at j;rw [v] at g2;have t1:decide (x<y)=false:=by simp;omega
    have t2:(x==y)=false:=by simp;omega
    have t3:0<x:=zO;clear h hp u v;go_wp2_with fail
    go_quiet (fail)
    go_wp2_with fail
    all_goals
     go_roundw
     case rel=>exact ⟨k+1,_,zO,by go_num,by rw [d.out],rfl⟩
     case measure=>simp [intOf];omega
  ·obtain rfl:k=l.length:=zO;have hp:=VW c;have C:1<=gw c:=by have:=Ot (11 - c) zO;unfold gw;omega
   go_wp2_with (go_at_call 178;refine (KN c _ r).mono ?_;rintro e z ⟨rfl,rfl⟩)
   go_ret
   exact ⟨rfl,_,rfl⟩
theorem YS(l:List Int)(x:Int)(g:Nat->Int)(k:Nat):sumTo (cn (l++[x])) g k=sumTo (cn l) g k+(if 0<x/\x.toNat<k then g x.toNat else 0):=by
 induction k with
 | zero=>simp [sumTo]
 | succ k ih=>
  simp only [sumTo,ih,Yk];by_cases h:0<x/\x=(k:Int)
  ·have e:x.toNat=k:=zO;rw [zA zO,zC h,zC zO,e,vB];omega
  ·rw [zA h];by_cases h2:0<x/\x.toNat<k
   ·rw [zC h2,zC zO];simp;omega
   ·rw [zA h2,zA zO];simp
theorem YE(f:Nat->Int)(k:Nat):shr f k=sumTo f gw k:=by rw [Sh,QB]
theorem ZZ(o:Ae l=true)(hs:s<l.length)(hm:l[s]=(m:Int))(k:Nat)(hk:k<=l.length) :
  ahd l s k=shr (cn (l.take k)) m+(if 0<m then cn (l.take (min k s)) m*gw m else 0):=by
 induction k with
 | zero=>simp [ahd,YE,Qq,Iv]
 | succ k ih=>
  have b:k<l.length:=zO;obtain ⟨n,f,e⟩:=Gw o b;have g:l.getD k 0=n:=by simp [b,e]
  have h:l.getD s 0=m:=by simp [hs,hm]
  simp only [ahd];rw [ih zO,g,h,YE,YE,vA b,YS,e];have i:(n:Int).toNat=n:=zS;rw [i];by_cases c:0<m
  ·rw [zC c,zC c];by_cases j:k<s
   ·have a:min (k+1) s=min k s+1:=zO;have d:min k s=k:=zO;rw [a,d,DT b,e];by_cases c1:0<n/\n<m
    ·rw [zC zO,zC zO,zA zO];simp;omega
    ·by_cases c2:0<n/\n=m
     ·rw [zC zO,zA zO,zC zO,c2.2,vB];omega
     ·rw [zA zO,zA zO,zA zO];simp
   ·have a:min (k+1) s=min k s:=zO;rw [a];by_cases c1:0<n/\n<m
    ·rw [zC zO,zC zO];omega
    ·rw [zA zO,zA zO];omega
  ·have:m=0:=zO;subst this;rw [zA c,zA c,zA zO,zA zO]
theorem cZ(m:Nat):gw m=2^(11 - m):=by simp [gw]
theorem iw(m:Nat):0<gw m:=by have:=Ot (11 - m) zO;unfold gw;omega
theorem dm(c:Ae l=true)(hs:s<l.length)(hm:l[s]=(m:Int))(a:0<m):ahd l s l.length / gw m=Yi (fc (cn l)) l s:=by
 have b:m<=11:=by obtain ⟨n,h1,h2⟩:=Gw c hs;omega
 have h:=ZZ c hs hm l.length zL;rw [vG,zC a,show min l.length s=s by omega] at h;have h2:=Wx hs a b hm;unfold start at h2;rw [h,cZ,<- h2,Int.mul_ediv_cancel];have:=iw m;rw [cZ] at this;omega
def rv(l:List Int)(i:Nat):Int:=if 0<l.getD i 0 then ahd l i l.length / gw (l.getD i 0).toNat else -1
theorem iN(c:Ae l=true)(hi:i<l.length):rv l i=Yi (fc (cn l)) l i:=by
 obtain ⟨n,b,a⟩:=Gw c hi;have d:l.getD i 0=n:=by simp [hi,a]
 unfold rv;rw [d];by_cases h0:0<n
 ·rw [zC zO];have:=dm c hi a h0;simpa using this
 ·have:n=0:=zO;subst this;rw [zA zO,Uw hi (by simpa using a)]
theorem Pf(l:List Int)(j:Nat)(a:0<j):cn l j=sumOf (fun i=>if i=j then 1 else 0) l:=by
 induction l with
 | nil=>rfl
 | cons x l ih=>
  rw [TQ,ih];simp only [sumOf,kP,kN];by_cases h:0<x
  ·rw [zC h];by_cases h2:x=(j:Int)
   ·rw [zC ⟨h,h2⟩,zC zO]
   ·rw [zA zO,zA zO]
  ·rw [zA h,zA zO]
theorem OY(l:List Int):cn l 0=0:=by
 unfold cn;have:l.filter (fun x=>decide (0<x) && x==((0:Nat):Int))=[]:=by
  rw [List.filter_eq_nil_iff];intro x _;simp;omega
 rw [this];rfl
theorem LK(l:List Int)(h:sumOf (fun _=>1) l=0)(g:Nat->Int):sumOf g l=0:=by
 induction l with
 | nil=>rfl
 | cons x l ih=>
  have a:=Mb (fun _=>1) 1 (fun _=>zD) zD l;simp only [sumOf,kP,kN] at *;by_cases hx:0<x
  ·rw [zC hx] at h;omega
  ·rw [zA hx] at h |-;rw [ih zO];rfl
theorem YQ(l:List Int)(h:sumOf (fun _=>1) l=1):∃ n:Nat,∀ g:Nat->Int,sumOf g l=g n:=by
 induction l with
 | nil=>simp [sumOf] at h
 | cons x l ih=>
  have hc:∀ g,sumOf g (x :: l)=(if 0<x then g x.toNat else 0)+sumOf g l:=fun g=>by simp [sumOf]
  rw [hc] at h;by_cases hx:0<x
  ·rw [zC hx] at h;have h0:=LK l zO;exact ⟨x.toNat,fun g=>by rw [hc,zC hx,h0];omega⟩
  ·rw [zA hx] at h;obtain ⟨n,a⟩:=ih zO;exact ⟨n,fun g=>by rw [hc,zA hx,a];omega⟩
theorem fT(h:gw n=1024):n=1:=by
 apply yB;intro a;rcases jN n 1 with h1 | h1
 ·have:n=0:=zO;subst this;revert h;decide
 ·have:11 - n<=9:=zO;have:=yP (n:=2) zD this;unfold gw at h;omega
theorem JI(f:Ae l=true):single l=Gr (cn l):=by
 cases h:Gr (cn l)
 ·rw [kU];intro hs;simp only [single,Bool.and_eq_true,beq_iff_eq] at hs;obtain ⟨n,d⟩:=YQ l hs.1;have h1:=fT (by rw [<- d gw];exact hs.2);subst h1;rw [kU] at h;apply h;rw [NG];intro j g;rcases jA j with e | e
  ·subst e;rw [OY];rfl
  ·rw [Pf l j e,d];unfold one;by_cases c:j=1
   ·subst c;rfl
   ·rw [zA zO,zA c]
 ·have a:=Vf f h (fun _=>1);have b:=Vf f h gw;simp [single,a,b];decide
theorem an(a:Ae l=true):(sumOf gw l==2048 || single l)=Ka l:=by
 rw [Ka,JI a,Nb l a,QB]
def Al(l:List Int):List Value:=l.map (Value.int .i64)
def FR(l:List Int)(k:Nat):List Int:=(List.range k).map (rv l)
theorem Qh(l:List Int)(k:Nat):Al (FR l (k+1))=Al (FR l k)++[.int .i64 (rv l k)]:=by simp [Al,FR,List.range_succ]
theorem FP(l:List Int)(k:Nat):(FR l k).length=k:=by simp [FR]
theorem lJ(hk:k<l.length)(h:l[k]=(n:Int))(h0:0<n):rv l k=ahd l k l.length / gw n:=by
 have a:l.getD k 0=n:=by simp [hk,h]
 unfold rv;rw [a,zC zO];simp
theorem gj(hk:k<l.length)(h:l[k]=0):rv l k= -1:=by
 have a:l.getD k 0=0:=by simp [hk,h]
 unfold rv;rw [a];simp
theorem Vt{q:Nat}{e:TypeId}(a:Below w.heap.size w wr)(c:wr.ownsRow w.heap.size e sz v n xs)(b:((wr.drewN q).alloc o).grownBy w1 v.ownBlock):Below w.heap.size w w1:=by
 have h1:Below w.heap.size w (wr.drewN q):=⟨a.os,a.tape,a.output,a.size,a.block⟩
 refine (h1.alloc h1.size o).grown b ?_ (fun k hk=>(c.lt k hk).1);have:=a.size;simp;omega
theorem LR(ad:Option Addr)(cap:Nat)(l:List Int)(w:World)(hl:l.length<=269)(hc:Ap w ad l)(z:Ae l=true) :
  Calls prog 120 #[.slice ad l.length cap] w fun e u=>∃ v,e= .returned v/\u.ownsRow w.heap.size 3 1 v l.length (Al (FR l l.length))/\Below w.heap.size w u:=by
 obtain ⟨i0,hi,p,r,s⟩:=yM Gf;go_enter func120,ntmps120
 go_wp2_with fail
 go_loopw [3,4] (fun v i wr=>∃ k:Nat,k<=l.length/\i= .int .i64 k/\wr.ownsRow w.heap.size 3 1 v k (Al (FR l k))/\Below w.heap.size w wr) (fun _ i _=>l.length - (intOf i).toNat)
 case atStart=>exact ⟨0,zH _,rfl,yU _ _ _ _,zF _ _⟩
 case round=>
  obtain ⟨k,hk,rfl,c,f⟩:=hrel;by_cases h:k<l.length
  ·have j:=hc.below f zL;obtain ⟨b,o,n,rfl,g,y,hx⟩:=j.LZ z h;by_cases h0:0<n
   ·have t:=hid (lJ h hx.out h0);have A:=hid j;clear j;go_upto_region 8 with (go_at_call 154;refine (cB _ cap l k n _ hl A.out z h hx.out).mono ?_;rintro e u ⟨rfl,q,rfl⟩;rw [<- t.out])
    go_wp2_with (first | (at_builtin;refine wpList_append_own _ rfl _ _ 69 rfl w.heap.size 3 i0 (.int .i64 0) 1 8 underlying69 hi p r s rfl zD _ _ _ rfl (World.ownsRow.alloc (w:=wr.drewN _) c _) ⟨wr.heap.size,0,none⟩ 1 1 [.int .i64 (rv l k)] rfl rfl (yX _ _ _) (by simp [Value.oneCell']) (by unfold maxLen;omega) zO (by have:=f.size;simp;omega) ?_) | fail)
    intro B w1 d a _;have R:=Vt f c a;rw [<- Qh] at d;clear a c;go_wp2_with fail
    go_roundw
    case rel=>exact ⟨k+1,zO,by go_num,d,R⟩
    case measure=>simp [intOf];omega
   ·obtain rfl:n=0:=zO;have g0:wr.cell? ⟨b,o+k,none⟩=some (.int .i64 0):=g;have t:=hid (gj h hx.out);clear g;go_wp2_with (first | (at_builtin;refine wpList_append_own _ rfl _ _ 69 rfl w.heap.size 3 i0 (.int .i64 0) 1 8 underlying69 hi p r s rfl zD _ _ _ rfl (World.ownsRow.alloc c _) ⟨wr.heap.size,0,none⟩ 1 1 [.int .i64 (-1)] rfl rfl (yX _ _ _) (by simp [Value.oneCell']) (by unfold maxLen;omega) zO (by have:=f.size;simp;omega) ?_) | fail)
    intro B w1 d a _;have R:=Vt (q:=0) f c a;rw [<- t.out,<- Qh] at d;clear a c;go_wp2_with fail
    go_roundw
    case rel=>exact ⟨k+1,zO,by go_num,d,R⟩
    case measure=>simp [intOf];omega
  ·obtain rfl:k=l.length:=zO;go_wp2
   go_ret
   exact ⟨_,rfl,c,f⟩
theorem Tv(ad:Option Addr)(n cap:Nat)(w:World)(b:269<n)(hm:n<=9223372036854775807) :
  Calls prog 84 #[.slice ad n cap] w fun e a=>e= .returned (.tuple #[.slice none 0 0, .int .i64 10])/\w=a:=by
 go_enter func84,ntmps84
 go_wp2_with fail
 go_ret2
 exact ⟨rfl,rfl⟩
theorem IW(ad:Option Addr)(cap:Nat)(l:List Int)(w:World)(hl:l.length<=269)(hc:Ap w ad l) :
  Calls prog 84 #[.slice ad l.length cap] w fun e d=>
   (CT l=true/\∃ v,e= .returned (.tuple #[v, .int .i64 0])/\d.ownsRow w.heap.size 3 1 v l.length (Al (FR l l.length))/\Below w.heap.size w d)\/
   (CT l=false/\e= .returned (.tuple #[.slice none 0 0, .int .i64 10])/\Below w.heap.size w d):=by
 go_enter func84,ntmps84
 go_wp2_with fail
 go_loop [4] (fun i=>∃ k:Nat,k<=l.length/\i= .int .i64 k/\Ae (l.take k)=true) (fun i=>l.length - (intOf i).toNat)
 case atStart=>exact ⟨0,zH _,rfl,by simp [Ae]⟩
 case round=>
  obtain ⟨k,hk,rfl,a⟩:=hrel;have p:=hid a;clear a;by_cases c:k<l.length
  ·obtain ⟨b,o,x,rfl,g,hx⟩:=hc.at c;by_cases h0:0<=x
   ·by_cases h1:x<=11
    ·go_wp2_with fail
     go_round
     case rel=>exact ⟨k+1,zO,by go_num,IJ c p.out (by rw [hx.out];simp [De];omega)⟩
     case measure=>simp [intOf];omega
    ·have h:Hid (CT l=false):=by
      show _=_;simp [CT,IH c (show De l[k]=false by rw [hx.out];simp [De];omega)]
     go_wp2_with fail
     go_ret2
     exact Or.inr ⟨h.out,rfl,zF _ _⟩
   ·have h:Hid (CT l=false):=by
     show _=_;simp [CT,IH c (show De l[k]=false by rw [hx.out];simp [De];omega)]
    go_wp2_with fail
    go_ret2
    exact Or.inr ⟨h.out,rfl,zF _ _⟩
  ·have a:=p.out;rw [xU zO] at a;have j:=hid ((an a).symm);have f:Hid (CT l=Ka l):=by show _=_;simp [CT,hl,a]
   cases h1:(sumOf gw l==2048)
   ·cases h2:single l
    ·go_wp2_with (first | (go_at_call 118;refine (FI ad cap l _ hl hc a).mono ?_;rw [h1];rintro e d ⟨rfl,rfl⟩) | (go_at_call 119;refine (Hs ad cap l _ hl hc a).mono ?_;rw [h2];rintro e d ⟨rfl,rfl⟩))
     go_ret2
     exact Or.inr ⟨by rw [f.out,j.out,h1,h2];rfl,rfl,zF _ _⟩
    ·go_wp2_with (first | (go_at_call 118;refine (FI ad cap l _ hl hc a).mono ?_;rw [h1];rintro e d ⟨rfl,rfl⟩) | (go_at_call 119;refine (Hs ad cap l _ hl hc a).mono ?_;rw [h2];rintro e d ⟨rfl,rfl⟩))
     refine (LR ad cap l _ hl hc a).mono ?_;rintro e w2 ⟨v,rfl,hv,n⟩;go_wp2_with fail
     go_ret2
     exact Or.inl ⟨by rw [f.out,j.out,h1,h2];rfl,v,rfl,hv,n⟩
   ·cases h2:single l
    all_goals
     go_wp2_with (first | (go_at_call 118;refine (FI ad cap l _ hl hc a).mono ?_;rw [h1];rintro e d ⟨rfl,rfl⟩) | (go_at_call 119;refine (Hs ad cap l _ hl hc a).mono ?_;rw [h2];rintro e d ⟨rfl,rfl⟩))
     refine (LR ad cap l _ hl hc a).mono ?_;rintro e w2 ⟨v,rfl,hv,n⟩;go_wp2_with fail
     go_ret2
     exact Or.inl ⟨by rw [f.out,j.out,h1];rfl,v,rfl,hv,n⟩
theorem FM(n:Int)(w:World):Calls prog 86 #[.int .i64 n] w fun e a=>e= .returned (.int .i64 n)/\w=a:=by
 go_enter func86,ntmps86
 go_wp2
 go_ret
 exact ⟨rfl,rfl⟩
theorem NY(ad d:Option Addr)(cap a:Nat)(l:List Int)(w:World)(hl:l.length<=9223372036854775807)(hc:Ap w ad l)(hd:Ap w d l) :
  Calls prog 62 #[.slice ad l.length cap, .slice d l.length a] w fun e g=>e= .returned (.bool true)/\∃ q,g=w.drewN q:=by
 go_enter func62,ntmps62
 go_wp2
 go_loopw [5] (fun i wr=>∃ k q:Nat,k<=l.length/\i= .int .i64 k/\wr=w.drewN q) (fun i _=>l.length - (intOf i).toNat)
 case atStart=>exact ⟨0,0,zH _,rfl,rfl⟩
 case round=>
  obtain ⟨k,q,hk,rfl,rfl⟩:=hrel;by_cases c:k<l.length
  ·obtain ⟨b,o,x,rfl,j,hx⟩:=hc.at c;obtain ⟨h,n,y,rfl,g2,f⟩:=hd.at c;obtain rfl:x=y:=by rw [<- hx.out,<- f.out]
   go_wp2
   go_quiet (fail)
   go_wp2
   go_roundw
   case rel=>exact ⟨k+1,_,zO,by go_num,rfl⟩
   case measure=>simp [intOf];omega
  ·go_wp2
   go_ret
   exact ⟨rfl,q,rfl⟩
theorem all_true(ad:Option Addr)(cap n:Nat)(m:Int)(w:World)(f:n<=9223372036854775807)(hc:Ap w ad (List.replicate n m)) :
  Calls prog 63 #[.slice ad n cap, .int .i64 m] w fun e d=>e= .returned (.bool true)/\w=d:=by
 have c:Hid (∀ k,k<n->∃ b o,ad=some ⟨b,o,none⟩/\w.cell? ⟨b,o+k,none⟩=some (.int .i64 m)):=by
  intro k hk;obtain ⟨b,o,e,_,h⟩:=hc k (by simpa using hk);refine ⟨b,o,e,?_⟩;rw [h];simp [hk]
 clear hc;go_enter func63,ntmps63
 go_wp2
 go_loop [5] (fun i=>∃ k:Nat,k<=n/\i= .int .i64 k) (fun i=>n - (intOf i).toNat)
 case atStart=>exact ⟨0,zH _,rfl⟩
 case round=>
  obtain ⟨k,hk,rfl⟩:=hrel;by_cases a:k<n
  ·obtain ⟨b,o,rfl,g⟩:=c.out k a;go_wp2
   go_round
   case rel=>exact ⟨k+1,zO,by go_num⟩
   case measure=>simp [intOf];omega
  ·go_wp2
   go_ret
   exact ⟨rfl,rfl⟩
theorem OZ(ad:Option Addr)(n c:Nat)(w:World):(binOp .eql 69 (.slice ad n c) (.slice none 0 0)).run prog w= .ok (.bool ad.isNone) w:=by
 rw [Lib.run_eql_slice_nil w 69 3 ad n c 0 0 underlying69]
theorem dF(w:World) :
  Calls prog 82 #[.slice none 0 0] w fun e a=>e= .returned (.slice none 0 0)/\w=a:=by
 have h:=OZ none 0 0;simp only [AH] at h;go_enter func82,ntmps82
 go_wp2
 go_ret
 exact ⟨rfl,rfl⟩
def Gp(l:List Int)(i:Nat):Int:=if i<l.length then l.getD i 0 else 77
def Kx(l:List Int)(k i:Nat):Int:=if i<l.length then l.getD i 0 else if i<l.length+k then 77 else 0
theorem mT(l:List Int):(Al l).length=l.length.min (l.length+8):=by simp [Al]
theorem mU{b o:Nat}(hc:Ap w (some ⟨b,o,none⟩) l)(f:Obj):∀ (j:Nat) (v:Value),(Al l)[j]?=some v->(w.alloc f).cell? ((⟨b,o,none⟩:Addr).add j)=some v:=by
 intro j v hv;have g:j<l.length:=by
  rcases jN j l.length with d | d
  ·exact d
  ·simp [Al,d] at hv
 obtain ⟨i,k,e,c,h⟩:=hc j g;simp only [xP,xX,and_true] at e;rw [<- e.1,<- e.2] at h;rw [<- e.1] at c;have a:(⟨b,o,none⟩:Addr).add j=⟨b,o+j,none⟩:=by unfold Addr.add;split <;> simp_all
 rw [a];have:(w.alloc f).cell? ⟨b,o+j,none⟩=w.cell? ⟨b,o+j,none⟩:=yV (yK w f b c);rw [this,h];simpa [Al,g] using hv
theorem mV(l:List Int):0+(Al l).length<=(madeCells #[Value.int .i64 0] (l.length+8)).size:=by rw [vL];simp [Al]
theorem Yz(l:List Int):∀ v∈Al l,v.oneCell'=true:=by
 intro u a;obtain ⟨x,_,rfl⟩:=vT.1 a;rfl
theorem mW(l:List Int)(w:World):(w.alloc (.cells (Al l++(madeCells #[Value.int .i64 0] (l.length+8)).toList.drop (Al l).length).toArray 3)).rowIs w.heap.size 3 (l.length+8) (fun i=> .int .i64 (Kx l 0 i)):=by
 have e:(madeCells #[Value.int .i64 0] (l.length+8)).toList.drop (Al l).length=List.replicate 8 (Value.int .i64 0):=by
  rw [toList_madeCells_one,BW];simp [Al]
 rw [e];refine ⟨_,zJ _ _,by simp [Al],fun i hi=>?_⟩;rw [BR,kQ];unfold Kx;dsimp only
 by_cases h:i<l.length
 ·rw [zC (by simpa [Al] using h),zC h];simp [Al,h]
 ·rw [zA (by simpa [Al] using h),zA h,zA zO,vW,zC (by simp [Al];omega)]
theorem mX(h:wr.rowIs g 3 (l.length+8) (fun i=> .int .i64 (Kx l k i))):(wr.setCell ⟨g,l.length+k,none⟩ (.int .i64 77)).rowIs g 3 (l.length+8) (fun i=> .int .i64 (Kx l (k+1) i)):=by
 refine (h.set (l.length+k) _).congr fun i _=>?_
 unfold Kx;by_cases e:i=l.length+k
 ·rw [zC e,zA zO,zC zO]
 ·rw [zA e];by_cases a:i<l.length
  ·rw [zC a,zC a]
  ·rw [zA a,zA a];by_cases b:i<l.length+k
   ·rw [zC b,zC zO]
   ·rw [zA b,zA zO]
theorem SH(b o cap:Nat)(l:List Int)(w:World)(hl:l.length<=1000000000)(hc:Ap w (some ⟨b,o,none⟩) l) :
  Calls prog 82 #[.slice (some ⟨b,o,none⟩) l.length cap] w fun e j=>e= .returned (.slice (some ⟨w.heap.size,0,none⟩) l.length (l.length+8))/\j.rowIs w.heap.size 3 (l.length+8) (fun i=> .int .i64 (Gp l i))/\Below w.heap.size w j:=by
 have h:=OZ (some ⟨b,o,none⟩) l.length cap;simp only [AG] at h;have d:=xZ (P:=prog) 69 3 (.int .i64 0) 8 underlying69 Gf rfl .i64 .i64 (l.length+8) zO zO;have f:((l.length+8:Nat):Int)=(l.length:Int)+8:=zO;rw [f] at d;clear f;go_enter func82,ntmps82
 go_upto_region 5 with fail
 go_wp2_with (first | (refine wpList_copy_own rfl (.tmp 13) (.tmp 14) 69 69 rfl 3 underlying69 zK w.heap.size 0 (l.length+8) (l.length+8) ⟨b,o,none⟩ l.length cap rfl rfl (madeCells #[.int .i64 0] (l.length+8)) 3 (zJ _ _) (Al l) (mT l) (mU hc _) (mV l) (Yz l) ?_;rw [vN]))
 go_loopw [5] (fun i wr=>∃ k:Nat,k<=8/\i= .int .i64 (l.length+k)/\wr.rowIs w.heap.size 3 (l.length+8) (fun i=> .int .i64 (Kx l k i))/\Below w.heap.size w wr) (fun i _=>l.length+8 - (intOf i).toNat)
 case atStart=>exact ⟨0,zO,zS,mW l w,zB.alloc zL _⟩
 case round=>
  obtain ⟨k,hk,rfl,a,c⟩:=hrel;by_cases q:k<8
  ·have r:=a.cell (i:=l.length+k) zO;have g2:=a.frozen (l.length+k);have R:=mX a;have n:=c.setCell (p:=⟨w.heap.size,l.length+k,none⟩) zS (.int .i64 77);clear d;go_wp2_with fail
   go_roundw
   case rel=>exact ⟨k+1,zO,by go_num,R,n⟩
   case measure=>simp [intOf];omega
  ·obtain rfl:k=8:=zO;have R:=a.congr (g:=fun i=> .int .i64 (Gp l i)) (fun i hi=>by unfold Kx Gp;split <;> simp_all);clear d a;go_wp2
   go_ret
   exact ⟨rfl,R,c⟩
def OI(w:World)(B:Nat)(v:Value)(l:List Int):Prop:=w.ownsRow B 3 1 v l.length (Al l)
theorem MC(l:List Int):(Al l).length=l.length:=by simp [Al]
theorem OI.nil(w:World)(B:Nat):OI w B (.slice none 0 0) []:=yU _ _ _ _
theorem OI.cells(h:OI w B v l):∃ ad cap,v= .slice ad l.length cap/\Ap w ad l:=by
 rcases h.2 with ⟨hv,h0⟩ | ⟨g,cap,cur,hv,i,e,f,c,d,a⟩
 ·exact ⟨none,0,by rw [hv,h0],fun k hk=>zO⟩
 ·refine ⟨some ⟨g,0,none⟩,cap,hv,fun k hk=>⟨g,0,rfl,(yQ.1 e).1,?_⟩⟩;have b:w.ownsRow B 3 1 (.slice (some ⟨g,0,none⟩) l.length cap) l.length (Al l):=by rw [<- hv];exact h
  rw [yJ,xO b k zO];simp [Al,hk]
theorem OI.Tm(a:B<=g)(d:l.length=n)(hm:n<=maxLen)(h:w.rowIs g 3 n (fun i=> .int .i64 (l.getD i 0))):OI w B (.slice (some ⟨g,0,none⟩) l.length n) l:=by
 obtain ⟨c,b,hs,hc⟩:=h;subst d;refine ⟨by simp [Al],Or.inr ⟨g,l.length,c,rfl,a,b,zE _,hm,zO,?_⟩⟩;apply List.ext_getElem?;intro i;by_cases hi:i<l.length
 ·have:=hc i hi;simp [Al,hi] at *;exact this
 ·rw [AU (by simp;omega),AU (by simp [Al];omega)]
structure Kp(R:Nat->Prop)(ρ:Nat->Nat)(w w':World):Prop where
 size:w.heap.size<=w'.heap.size
 block:∀ k,k<w.heap.size->¬ R (ρ k)->w'.heap[k]?=w.heap[k]?
theorem Kp.refl(R:Nat->Prop)(ρ:Nat->Nat)(w:World):Kp R ρ w w:=⟨zE _,fun _ _ _=>rfl⟩
theorem Kp.trans{R:Nat->Prop}(h:Kp R ρ a b)(k:Kp R ρ b c):Kp R ρ a c:=⟨zG h.size k.size,fun i hi d=>(k.block i (zM hi h.size) d).trans (h.block i hi d)⟩
theorem Kp.mono{R R':Nat->Prop}(h:Kp R ρ a b)(c:∀ x,R x->R' x):Kp R' ρ a b:=⟨h.size,fun i hi d=>h.block i hi (fun x=>d (c _ x))⟩
theorem Kp.Bk{R:Nat->Prop}(h:Below a.heap.size a b):Kp R ρ a b:=⟨h.size,fun i hi _=>h.block i hi⟩
theorem Kp.Dm{R:Nat->Prop}(a:World)(p:Addr)(v:Value)(b:R (ρ p.block)):Kp R ρ a (a.setCell p v):=⟨by simp [World.setCell],fun i _ c=>zZ _ _ _ _ (fun e=>c (e ▸ b))⟩
theorem Kp.QS{R:Nat->Prop}{row:Option Nat}(h:a.grownBy b row)(c:∀ g,row=some g->R (ρ g)):Kp R ρ a b:=⟨h.size,fun i hi d=>h.block i hi (fun e=>d (c i e.symm))⟩
theorem Kp.congr{R:Nat->Prop}(h:Kp R ρ a b)(hρ:∀ k,k<a.heap.size->¬ R (ρ' k)->¬ R (ρ k)):Kp R ρ' a b:=⟨h.size,fun i hi c=>h.block i hi (hρ i hi c)⟩
theorem As{R:Nat->Prop}{e:TypeId}(h:w.ownsRow B e sz v n xs)(hk:Kp R ρ w w')(c:∀ g,v.ownBlock=some g->¬ R (ρ g)):w'.ownsRow B e sz v n xs:=by
 refine ⟨h.1,?_⟩;rcases h.2 with hn | ⟨g,cap,cur,rfl,b,a,rest⟩
 ·exact .inl hn
 ·refine .inr ⟨g,cap,cur,rfl,b,?_,rest⟩;rw [hk.block g (yQ.1 a).1 (c g rfl)];exact a
theorem ER{R:Nat->Prop}{t:TypeId}{f:Nat->Value}(h:w.rowIs g t n f)(hk:Kp R ρ w w')(a:¬ R (ρ g)):w'.rowIs g t n f:=h.of_block (hk.block g h.lt a)
theorem Jw(h:w.heap[k]?=some o):k<w.heap.size:=(yQ.1 h).1
theorem Nd{R:Nat->Prop}(h:w.heap[k]?=some o)(hk:Kp R ρ w w')(a:¬ R (ρ k)):w'.heap[k]?=some o:=(hk.block k (Jw h) a).trans h
structure Aj where
 vcs:Value
 GQ:Value
 vl:Value
 lens:List Int
 CX:Nat
 vw:Value
 waits:List (Value×List Int)
 vr:Value
 CO:List Value
 vb:Value
 Ay:List (Int×List Value)
 still:List (Nat×Obj)
 DZ:Value
 Ec:Value
def mH(s s':Aj):Prop:=s'.still=s.still/\s'.Ec=s.Ec/\s'.DZ=s.DZ
def fld(s:Aj):Nat->Value
 | 0=>s.vcs
 | 1=>s.GQ
 | 2=>s.vl
 | 3=>s.DZ
 | 4=> .int .i64 s.CX
 | 5=>s.vw
 | 6=>s.vr
 | 7=>s.vb
 | _=>s.Ec
def CQ(b:Int×List Value):List Value:= .int .i64 b.1 :: b.2
def tight(v:Value):Prop:=v= .slice none 0 0\/∃ g n,v= .slice (some ⟨g,0,none⟩) n n
structure Inv(B gW d:Nat)(ρ:Nat->Nat)(s:Aj)(w:World):Prop where
 gB:B<=gW
 hB:B<=w.heap.size
 row:w.rowIs gW 75 9 (fld s)
 len:OI w B s.vl s.lens
 PA:w.ownsRow B 69 1 s.vw s.waits.length (s.waits.map (·.1))
 RL:w.ownsRow B 69 1 s.vr s.CO.length s.CO
 OJ:w.ownsRow B 143 5 s.vb s.Ay.length (s.Ay.flatMap CQ)
 Gv:s.CO.length=s.waits.length
 wt:∀ i,(h:i<s.waits.length)->d<=i->OI w B s.waits[i].1 s.waits[i].2/\tight s.waits[i].1
 wr:∀ i,(h:i<s.CO.length)->(h':i<s.waits.length)->OI w B s.CO[i] s.waits[i].2
 bk:∀ b∈s.Ay,b.2.length=4/\∀ v∈b.2,∃ n,OI w B v (List.replicate n b.1)
 rW:ρ gW=5
 rl:∀ g,s.vl.ownBlock=some g->ρ g=1
 Ke:∀ g,s.vw.ownBlock=some g->ρ g=2
 rr:∀ g,s.vr.ownBlock=some g->ρ g=3
 rb:∀ g,s.vb.ownBlock=some g->ρ g=4
 OD:∀ i,(h:i<s.waits.length)->d<=i->∀ g,s.waits[i].1.ownBlock=some g->ρ g=10+i
 OO:∀ v∈s.CO,∀ g,v.ownBlock=some g->ρ g=0
 NV:∀ b∈s.Ay,∀ v∈b.2,∀ g,v.ownBlock=some g->ρ g=0
 Vp:s.CX<=1000000000
 Rh:s.lens.length<=100000000
 UY:s.vl= .slice none 0 0\/0<s.lens.length
 UQ:∀ i,(h:i<s.waits.length)->s.waits[i].2.length<=269
 UZ:∀ x∈s.still,w.heap[x.1]?=some x.2
 Qe:∀ x∈s.still,ρ x.1=9
theorem Inv.kp{s:Aj}(h:Inv B gW d ρ s w)(hk:Kp (fun _=>False) ρ w w'):Inv B gW d ρ s w' where
 gB:=h.gB
 hB:=zG h.hB hk.size
 row:=ER h.row hk (fun x=>x)
 len:=As h.len hk (fun _ _ x=>x)
 PA:=As h.PA hk (fun _ _ x=>x)
 RL:=As h.RL hk (fun _ _ x=>x)
 OJ:=As h.OJ hk (fun _ _ x=>x)
 Gv:=h.Gv
 wt:=fun i hi hd=>⟨As (h.wt i hi hd).1 hk (fun _ _ x=>x),(h.wt i hi hd).2⟩
 wr:=fun i hi a=>As (h.wr i hi a) hk (fun _ _ x=>x)
 bk:=fun b c=>⟨(h.bk b c).1,fun v hv=>by obtain ⟨n,e⟩:=(h.bk b c).2 v hv;exact ⟨n,As e hk (fun _ _ x=>x)⟩⟩
 rW:=h.rW
 rl:=h.rl
 Ke:=h.Ke
 rr:=h.rr
 rb:=h.rb
 OD:=h.OD
 OO:=h.OO
 NV:=h.NV
 Vp:=h.Vp
 Rh:=h.Rh
 UY:=h.UY
 UQ:=h.UQ
 UZ:=fun x hx=>Nd (h.UZ x hx) hk (fun x=>x)
 Qe:=h.Qe
theorem Inv.below{s:Aj}(h:Inv B gW d ρ s w)(a:Below w.heap.size w w'):Inv B gW d ρ s w':=h.kp (Kp.Bk a)
theorem Inv.drewN{s:Aj}(h:Inv B gW d ρ s w)(q:Nat):Inv B gW d ρ s (w.drewN q):=h.kp ⟨zE _,fun _ _ _=>rfl⟩
def sxy(f:Nat->Int):Nat->Int×Int
 | 0=>(1,0)
 | k+1=>(((sxy f k).1+f k)%65521,((sxy f k).2+((sxy f k).1+f k)%65521)%65521)
theorem YT(f:Nat->Int)(k:Nat):0<=(sxy f k).1/\(sxy f k).1<=65520/\0<=(sxy f k).2/\(sxy f k).2<=65520:=by
 induction k with
 | zero=>simp [sxy]
 | succ k ih=>simp only [sxy];omega
def bytesOf(s:ByteArray)(k:Nat):Int:=((s.data.toList.getD k 0).toNat:Int)
theorem Pa(s:ByteArray)(k:Nat):0<=bytesOf s k/\bytesOf s k<=255:=by
 have:=(s.data.toList.getD k 0).toNat_lt;unfold bytesOf;omega
theorem Kn(s:ByteArray)(k:Nat)(h:k<s.size):((s[k]).toNat:Int)=bytesOf s k:=by
 unfold bytesOf;have:s.data.toList.getD k 0=s[k]:=by
  have a:k<s.data.toList.length:=by simpa using h
  rw [yF,xR a];rfl
 rw [this]
def nI(s:ByteArray):Int:=65536*(sxy (bytesOf s) s.size).2+(sxy (bytesOf s) s.size).1
theorem Yv(cs:Array Value)(h:cs.size=2):(prog.info? 119).map (·.size)=some cs.size:=by rw [h];kernel_rfl
theorem Ox{f:Nat->Value}(h:w.rowIs g T 2 f):w.heap[g]?=some (.cells #[f 0,f 1] T):=by
 obtain ⟨c,hc,a,hv⟩:=h;rw [hc];have h0:=hv 0 zO;have h1:=hv 1 zO;have:c=#[f 0,f 1]:=by
  apply Array.ext
  ·simpa using a
  ·intro i h2 h3;have:i=0\/i=1:=by simp at h3;omega
   rcases this with rfl | rfl
   ·rw [vY h2] at h0;simpa using h0
   ·rw [vY h2] at h1;simpa using h1
 rw [this]
theorem Lj(w:World):Calls prog 110 #[] w fun e a=>e= .returned (.agg #[.int .i64 1, .int .i64 0])/\Below w.heap.size w a:=by
 go_enter func110,ntmps110
 go_wp2
 refine zX (v:= .agg #[.int .i64 1, .int .i64 0]) ?_ rfl ?_
 ·exact xH results110 _ _ _ 119 _ _ _ rfl (zJ _ _) underlying119 rfl (Yv _ rfl)
 ·exact ⟨rfl,zB.alloc zL _⟩
theorem Kf(x y:Int)(w:World)(hx:0<=x/\x<=65520)(b:0<=y/\y<=65520) :
  Calls prog 112 #[.agg #[.int .i64 x, .int .i64 y]] w fun e a=>e= .returned (.int .i64 (65536*y+x))/\Below w.heap.size w a:=by
 go_enter func112,ntmps112
 go_wp2
 go_ret
 exact ⟨rfl,zB.alloc zL _⟩
theorem Qo(g o:Nat)(x y b:Int)(w:World)(hx:0<=x/\x<=65520)(i:0<=y/\y<=65520)(h:0<=b/\b<=255)
  (c:w.cell? ⟨g,o,none⟩=some (.int .i64 x)) (d:w.cell? ⟨g,o+1,none⟩=some (.int .i64 y)) (fx:w.frozen? ⟨g,o,none⟩=false) (f:w.frozen? ⟨g,o+1,none⟩=false) :
  Calls prog 111 #[.pointer (some ⟨g,o,none⟩), .int .u8 b] w fun e a=>e= .returned (.tuple #[])/\
   ∃ m,a=((w.drewN m).setCell ⟨g,o,none⟩ (.int .i64 ((x+b)%65521))).setCell ⟨g,o+1,none⟩ (.int .i64 ((y+(x+b)%65521)%65521)):=by
 go_enter func111,ntmps111
 go_wp2
 go_region
 all_goals
  go_end0
  refine ⟨rfl,1,?_⟩;first | rfl | (simp;rfl)
theorem gu(s:ByteArray)(w:World)(hs:s.size<=maxLen) :
  Calls prog 80 #[.string s] w fun e D=>e= .returned (.int .i64 (nI s))/\Below w.heap.size w D:=by
 unfold maxLen at hs;go_enter func80,ntmps80
 go_wp2_with fail
 refine (Lj w).mono ?_;rintro e w1 ⟨rfl,j⟩;have o:=hid j;clear j;go_wp2_with fail
 obtain ⟨g,p⟩:=qe w1.heap.size;have u:Hid (w.heap.size<=g):=by rw [p];exact o.out.size
 have v:Hid ((w1.alloc (.cells #[.int .i64 1, .int .i64 0] 119)).rowIs g 119 2 (fun i=>if i=0 then .int .i64 (sxy (bytesOf s) 0).1 else .int .i64 (sxy (bytesOf s) 0).2)):=by
  rw [p];refine yL w1 _ _ _ (fun i hi=>?_);have:i=0\/i=1:=by simp at hi;omega
  rcases this with rfl | rfl <;> rfl
 have t:Hid (Below w.heap.size w (w1.alloc (.cells #[.int .i64 1, .int .i64 0] 119))):=o.out.alloc o.out.size _;simp only [<- p];clear p o;go_loopw [8] (fun i wr=>∃ k:Nat,k<=s.size/\i= .int .i64 k/\wr.rowIs g 119 2 (fun i=>if i=0 then .int .i64 (sxy (bytesOf s) k).1 else .int .i64 (sxy (bytesOf s) k).2)/\Below w.heap.size w wr) (fun i _=>s.size - (intOf i).toNat)
 case atStart=>exact ⟨0,zH _,rfl,v.out,t.out⟩
 case round=>
  obtain ⟨k,hk,rfl,a,d⟩:=hrel;have c:=YT (bytesOf s) k;have A:=a.cell (i:=0) zO;have c1:=a.cell (i:=1) zO;have B:=a.frozen 0;have C:=a.frozen 1;simp only [zC,Nat.one_ne_zero,if_false] at A c1;have f:Hid _:=a;have b:Hid _:=d;clear a d v t;by_cases r:k<s.size
  ·have y:=hid (Kn s k r);have h:=Pa s k;go_wp2_with fail
   refine (Qo g 0 (sxy (bytesOf s) k).1 (sxy (bytesOf s) k).2 ((s[k]).toNat:Int) wr ⟨c.1,c.2.1⟩ ⟨c.2.2.1,c.2.2.2⟩ (by rw [y.out];exact h) A c1 B C).mono ?_;rintro e w2 ⟨rfl,m,n⟩;have z:Hid (w2.rowIs g 119 2 (fun i=>if i=0 then .int .i64 (sxy (bytesOf s) (k+1)).1 else .int .i64 (sxy (bytesOf s) (k+1)).2)/\Below w.heap.size w w2):=by
    show _/\_;rw [n,y.out];refine ⟨?_,((show Below w.heap.size w (wr.drewN m) from ⟨b.out.os,b.out.tape,b.out.output,b.out.size,b.out.block⟩).setCell (by exact u.out) _).setCell (by exact u.out) _⟩;refine ((((show (wr.drewN m).rowIs g 119 2 _ from f.out)).set 0 _).set 1 _).congr (fun i hi=>?_);have:i=0\/i=1:=zO;rcases this with rfl | rfl <;> simp [sxy]
   clear n;go_wp2_with fail
   go_roundw
   case rel=>exact ⟨k+1,zO,by go_num,z.out.1,z.out.2⟩
   case measure=>simp [intOf];omega
  ·obtain rfl:k=s.size:=zO;have h1:wr.heap[g]?=some (.cells #[.int .i64 (sxy (bytesOf s) s.size).1, .int .i64 (sxy (bytesOf s) s.size).2] 119):=Ox f.out;go_wp2_with (first | refine yT rfl 119 _ rfl _ rfl 119 _ _ _ h1 underlying119 rfl (Yv _ rfl) ?_)
   refine (Kf (sxy (bytesOf s) s.size).1 (sxy (bytesOf s) s.size).2 wr ⟨c.1,c.2.1⟩ ⟨c.2.2.1,c.2.2.2⟩).mono ?_;rintro e w2 ⟨rfl,l⟩;have q:=hid (b.out.trans (l.mono b.out.size));clear l;go_wp2
   go_ret
   exact ⟨rfl,q.out⟩
theorem Xu(b n cap:Nat)(f:Nat->Int)(w:World)(d:n<=maxLen)(c:∀ k,0<=f k/\f k<=255)(hc:∀ k,k<n->w.cell? ⟨b,k,none⟩=some (.int .u8 (f k))) :
  Calls prog 81 #[.slice (some ⟨b,0,none⟩) n cap] w fun e h=>e= .returned (.int .i64 (65536*(sxy f n).2+(sxy f n).1))/\w=h:=by
 unfold maxLen at d;go_enter func81,ntmps81
 go_wp2
 go_loop [3,4,5] (fun x y i=>∃ k:Nat,k<=n/\i= .int .i64 k/\x= .int .i64 (sxy f k).1/\y= .int .i64 (sxy f k).2) (fun _ _ i=>n - (intOf i).toNat)
 case atStart=>exact ⟨0,zH _,rfl,rfl,rfl⟩
 case round=>
  obtain ⟨k,hk,rfl,rfl,rfl⟩:=hrel;have j:=YT f k;have h1:=c k;by_cases a:k<n
  ·have g:=hc k a;go_wp2
   go_round
   case rel=>exact ⟨k+1,zO,by go_num,rfl,rfl⟩
   case measure=>simp [intOf];omega
  ·obtain rfl:k=n:=zO;go_wp2
   go_ret
   exact ⟨rfl,rfl⟩
def setρ(ρ:Nat->Nat)(g x:Nat):Nat->Nat:=fun k=>if k=g then x else ρ k
theorem setρ_at(ρ:Nat->Nat)(g x:Nat):setρ ρ g x g=x:=zC rfl
theorem setρ_ne(h:k≠g):setρ ρ g x k=ρ k:=zA h
theorem Bj{e:TypeId}(h:w.ownsRow B e sz v n xs)(a:v.ownBlock=some g):g<w.heap.size:=(h.lt g a).2
theorem Inv.Hx{s:Aj}(h:Inv B gW d ρ s w)(hρ:∀ k,k<w.heap.size->(ρ k<=5\/ρ k=9\/10+d<=ρ k)->ρ' k=ρ k):Inv B gW d ρ' s w:=
 { h with
  rW:=by rw [hρ gW h.row.lt (by rw [h.rW];omega)];exact h.rW
  rl:=fun g a=>by have:=h.rl g a;rw [hρ g (Bj h.len a) zO];exact this
  Ke:=fun g a=>by have:=h.Ke g a;rw [hρ g (Bj h.PA a) zO];exact this
  rr:=fun g a=>by have:=h.rr g a;rw [hρ g (Bj h.RL a) zO];exact this
  rb:=fun g a=>by have:=h.rb g a;rw [hρ g (Bj h.OJ a) zO];exact this
  OD:=fun i hi hd g a=>by have:=h.OD i hi hd g a;rw [hρ g (Bj (h.wt i hi hd).1 a) zO];exact this
  OO:=fun v hv g a=>by
   have:=h.OO v hv g a;obtain ⟨i,hi,rfl⟩:=AT hv;rw [hρ g (Bj (h.wr i hi (by have:=h.Gv;omega)) a) zO];exact this
  NV:=fun b c v hv g a=>by
   have:=h.NV b c v hv g a;obtain ⟨n,e⟩:=(h.bk b c).2 v hv;rw [hρ g (Bj e a) zO];exact this
  Qe:=fun x hx=>by have:=h.Qe x hx;rw [hρ x.1 (Jw (h.UZ x hx)) zO];exact this }
theorem Inv.fresh{s:Aj}(h:Inv B gW d ρ s w)(a:w.heap.size<=g):Inv B gW d (setρ ρ g x) s w:=
 h.Hx fun k hk _=>setρ_ne zO
theorem Inv.free{s:Aj}(h:Inv B gW d ρ s w)(a:5 < ρ g/\ρ g≠9/\ρ g<10+d):Inv B gW d (setρ ρ g x) s w:=
 h.Hx fun k _ hk=>setρ_ne (fun e=>by subst e;omega)
theorem Inv.marked{d':Nat}{s:Aj}{R:Nat->Prop}(h:Inv B gW d ρ s w)(hk:Kp R ρ w w')(e:∀ r,R r->5<=r/\r≠9/\r<10+d')(hd:d<=d')(f:w'.rowIs gW 75 9 (fld { s with CX:=m }))(hm:m<=1000000000):Inv B gW d' ρ { s with CX:=m } w' where
 gB:=h.gB
 hB:=zG h.hB hk.size
 row:=f
 len:=As h.len hk (fun g c a=>by have:=h.rl g c;have:=e _ a;omega)
 PA:=As h.PA hk (fun g c a=>by have:=h.Ke g c;have:=e _ a;omega)
 RL:=As h.RL hk (fun g c a=>by have:=h.rr g c;have:=e _ a;omega)
 OJ:=As h.OJ hk (fun g c a=>by have:=h.rb g c;have:=e _ a;omega)
 Gv:=h.Gv
 wt:=fun i hi k=>⟨As (h.wt i hi zO).1 hk (fun g c a=>by have:=h.OD i hi zO g c;have:=e _ a;omega),(h.wt i hi zO).2⟩
 wr:=fun i hi l=>As (h.wr i hi l) hk (fun g c a=>by have:=h.OO _ (yD hi) g c;have:=e _ a;omega)
 bk:=fun b j=>⟨(h.bk b j).1,fun v hv=>by
  obtain ⟨n,o⟩:=(h.bk b j).2 v hv;exact ⟨n,As o hk (fun g c a=>by have:=h.NV b j v hv g c;have:=e _ a;omega)⟩⟩
 rW:=h.rW
 rl:=h.rl
 Ke:=h.Ke
 rr:=h.rr
 rb:=h.rb
 OD:=fun i hi k=>h.OD i hi zO
 OO:=h.OO
 NV:=h.NV
 Vp:=hm
 Rh:=h.Rh
 UY:=h.UY
 UQ:=h.UQ
 UZ:=fun x hx=>Nd (h.UZ x hx) hk (fun a=>by have:=h.Qe x hx;have:=e _ a;omega)
 Qe:=h.Qe
theorem Ra(s:Aj)(v:Value)(a:List (Int×List Value))(i:Nat)(hi:i<9):(if i=7 then v else fld s i)=fld { s with vb:=v,Ay:=a } i:=by
 have:i=0\/i=1\/i=2\/i=3\/i=4\/i=5\/i=6\/i=7\/i=8:=zO;rcases this with rfl | rfl | rfl | rfl | rfl | rfl | rfl | rfl | rfl <;> simp [fld]
theorem Inv.Yf{s:Aj}{gg cap:Nat}{b:Int×List Value}(h:Inv B gW d ρ s w)
  (j:(w.alloc o).drew.grownBy w1 s.vb.ownBlock) (y:w1.ownsRow B 143 5 (.slice (some ⟨gg,0,none⟩) (s.Ay.length+1) cap) (s.Ay.length+1) (s.Ay.flatMap CQ++CQ b))
  (q:s.vb.ownBlock=some gg\/gg=w.heap.size+1)
  (z:b.2.length=4) (t:∀ v∈b.2,∃ n,OI w B v (List.replicate n b.1)) (tρ:∀ v∈b.2,∀ g,v.ownBlock=some g->ρ g=0) :
  Inv B gW d (setρ ρ gg 4) { s with vb:= .slice (some ⟨gg,0,none⟩) (s.Ay.length+1) cap,Ay:=s.Ay++[b] } (w1.setCell ⟨gW,7,none⟩ (.slice (some ⟨gg,0,none⟩) (s.Ay.length+1) cap))/\
   Kp (fun r=>r=4\/r=5) ρ w (w1.setCell ⟨gW,7,none⟩ (.slice (some ⟨gg,0,none⟩) (s.Ay.length+1) cap))/\
   Below B w (w1.setCell ⟨gW,7,none⟩ (.slice (some ⟨gg,0,none⟩) (s.Ay.length+1) cap)):=by
 have C:Kp (fun r=>r=4) ρ w w1:=by
  have a:Kp (fun r=>r=4) ρ w (w.alloc o).drew:=Kp.Bk ((zB.alloc zL o).drew);exact a.trans (Kp.QS j (fun g c=>h.rb g c))
 have k2:Kp (fun r=>r=4\/r=5) ρ w (w1.setCell ⟨gW,7,none⟩ (.slice (some ⟨gg,0,none⟩) (s.Ay.length+1) cap)):=
  (C.mono (fun _ x=>Or.inl x)).trans (Kp.Dm w1 _ _ (Or.inr h.rW))
 have E:gg≠gW:=by
  rcases q with e | e
  ·intro D;have:=h.rb gg e;rw [D,h.rW] at this;omega
  ·have:=h.row.lt;omega
 have hρ:∀ k,k<w.heap.size->setρ ρ gg 4 k=ρ k:=fun k hk=>by
  by_cases e:k=gg
  ·subst e;rcases q with e | e
   ·rw [setρ_at,h.rb _ e]
   ·omega
  ·exact setρ_ne e
 have f:=h.Hx (ρ':=setρ ρ gg 4) (fun k hk _=>hρ k hk);have l:Kp (fun r=>r=4\/r=5) (setρ ρ gg 4) w (w1.setCell ⟨gW,7,none⟩ (.slice (some ⟨gg,0,none⟩) (s.Ay.length+1) cap)):=k2.congr (fun k hk=>by rw [hρ k hk];exact fun x=>x);refine ⟨?_,k2,?_⟩
 ·exact {
   gB:=h.gB
   hB:=zG h.hB l.size
   row:=((ER h.row C (by rw [h.rW];omega)).set 7 _).congr (fun i hi=>Ra s _ _ i hi)
   len:=As f.len l (fun g c p=>by have:=f.rl g c;omega)
   PA:=As f.PA l (fun g c p=>by have:=f.Ke g c;omega)
   RL:=As f.RL l (fun g c p=>by have:=f.rr g c;omega)
   OJ:=by
    have e:({ s with vb:= .slice (some ⟨gg,0,none⟩) (s.Ay.length+1) cap,Ay:=s.Ay++[b] }:Aj).Ay.flatMap CQ=s.Ay.flatMap CQ++CQ b:=zS;rw [e];simp only [zI,yG,xA,yJ];exact As (R:=fun k=>k=gW) (ρ:=fun k=>k) y ⟨by simp [World.setCell],fun k _ hk=>zZ _ _ _ _ hk⟩ (fun g c=>by simp [Value.ownBlock] at c;omega)
   Gv:=h.Gv
   wt:=fun i hi hd=>⟨As (f.wt i hi hd).1 l (fun g c p=>by have:=f.OD i hi hd g c;omega),(f.wt i hi hd).2⟩
   wr:=fun i hi A=>As (f.wr i hi A) l (fun g c p=>by have:=f.OO _ (yD hi) g c;omega)
   bk:=fun x hx=>by
    rcases yW.1 hx with hx | hx
    ·exact ⟨(f.bk x hx).1,fun v hv=>by
      obtain ⟨n,u⟩:=(f.bk x hx).2 v hv;exact ⟨n,As u l (fun g c p=>by have:=f.NV x hx v hv g c;omega)⟩⟩
    ·simp only [yY] at hx;subst hx;exact ⟨z,fun v hv=>by
      obtain ⟨n,u⟩:=t v hv;exact ⟨n,As u k2 (fun g c p=>by have:=tρ v hv g c;omega)⟩⟩
   rW:=f.rW
   rl:=f.rl
   Ke:=f.Ke
   rr:=f.rr
   rb:=fun g c=>by simp [Value.ownBlock] at c;subst c;exact setρ_at _ _ _
   OD:=f.OD
   OO:=f.OO
   NV:=fun x hx v hv g c=>by
    rcases yW.1 hx with hx | hx
    ·exact f.NV x hx v hv g c
    ·simp only [yY] at hx;subst hx;obtain ⟨n,u⟩:=t v hv;rw [hρ g (Bj u c)];exact tρ v hv g c
   Vp:=h.Vp
   Rh:=h.Rh
   UY:=h.UY
   UQ:=h.UQ
   UZ:=fun x hx=>Nd (f.UZ x hx) l (fun p=>by have:=f.Qe x hx;omega)
   Qe:=f.Qe }
 ·have a:=(zB.alloc h.hB o).drew;refine (a.grown j (by have:=h.hB;simp;omega) (fun g c=>(h.OJ.lt g c).1)).setCell h.gB _
def Bm(s:ByteArray)(k:Nat):Nat:=(s.data.toList.getD k 0).toNat
theorem Ex(s:ByteArray)(k:Nat):Bm s k<256:=(s.data.toList.getD k 0).toNat_lt
theorem Ut(s:ByteArray)(k:Nat)(h:k<s.size):(s[k]).toNat=Bm s k:=by
 have:=Kn s k h;unfold bytesOf at this;unfold Bm;omega
structure Tr where
 out:List Nat
 Br:List Nat
 Aw:Nat
 Aa:List Nat
 err:Nat
 CZ:Bool
 s:ByteArray
 cur:Nat
 left:Nat
 CY:Nat
 head:Nat
 many:Nat
 Ai:Nat
namespace Tr
def ended(t:Tr):Bool:=t.err !=0 || t.CZ
def fail(t:Tr)(e:Nat):Tr:=if t.ended then t else { t with err:=e }
def Ad(t:Tr):Nat×Tr:=
 if t.ended then (0,t) else if t.s.size<=t.Aw then (0,{ t with CZ:=true }) else (Bm t.s t.Aw,{ t with Aw:=t.Aw+1 })
def load(t:Tr):Tr:=if t.left=0 then { t.Ad.2 with cur:=t.Ad.1,left:=8 } else t
def bit(t:Tr):Nat×Tr:=(t.load.cur%2,{ t.load with cur:=t.load.cur / 2,left:=t.load.left - 1 })
def number(t:Tr):Nat->Nat×Tr
 | 0=>(0,t)
 | k+1=>((t.number k).1+(t.number k).2.bit.1*2^k,(t.number k).2.bit.2)
def skip(t:Tr):Tr:={ (if 0<t.left/\t.cur≠0 then t.fail 8 else t) with left:=0 }
def put(t:Tr)(b:Nat):Tr:=if t.ended then t else { t with out:=t.out++[b],Br:=t.Br++[t.Aw] }
end Tr
structure CF where
 l:List Int
 many:Int
 one:Bool
def Ax(l:List Int):CF:=⟨l,sumOf (fun _=>1) l,single l⟩
def Du:CF:=⟨[],0,false⟩
def findFrom(l:List Int)(n c:Int):Nat->Nat->Int
 | 0,_=> -1
 | r+1,i=>if l.getD i 0=n/\rv l i=c then i else findFrom l n c r (i+1)
def find(S:CF)(n c:Int):Int:=findFrom S.l n c S.l.length 0
namespace Tr
def sym(S:CF):Nat->Nat->Nat->Tr->Int×Tr
 | 0,_,_,t=>(-1,t)
 | r+1,n,c,t=>
  if t.bit.2.ended then (-1,t.bit.2)
  else if 0<=find S n (2*c+t.bit.1:Nat) then (find S n (2*c+t.bit.1:Nat),t.bit.2)
  else if S.one then (-1,t.bit.2)
  else sym S r (n+1) (2*c+t.bit.1) t.bit.2
def symbol(t:Tr)(S:CF):Int×Tr:=sym S 11 1 0 t
def bytes:Nat->Tr->Tr
 | 0,t=>t
 | n+1,t=>if t.ended then t else bytes n (t.Ad.2.put t.Ad.1)
def Cp(t:Tr):Nat×Tr:=
 let a:=t.skip.Ad
 let b:=a.2.Ad
 let c:=b.2.Ad
 let d:=c.2.Ad
 (a.1+256*b.1,if c.1+256*d.1=65535 - (a.1+256*b.1) then d.2 else d.2.fail 9)
def plain(t:Tr):Tr:=bytes t.Cp.1 t.Cp.2
def mu(t:Tr):Nat:=if t.ended then 0 else 1+8*(t.s.size - t.Aw)+t.left
def Bu(t:Tr)(k:Int)(l:List Int):Int×Nat×Tr:=
 if k=12 then
  (if l.length=0 then 0 else l.getD (l.length - 1) 0,3+(t.number 2).1,if l.length=0 then (t.number 2).2.fail 10 else (t.number 2).2)
 else if k=13 then (0,3+(t.number 3).1,(t.number 3).2)
 else if k=14 then (0,11+(t.number 6).1,(t.number 6).2)
 else (k,1,t)
def Et(H:CF)(n:Nat)(l:List Int)(t:Tr):List Int×Tr:=
 let h:=Bu (t.symbol H).2 (t.symbol H).1 l
 let t1:=if n<l.length+h.2.1 then h.2.2.fail 10 else h.2.2
 (if t1.ended then l else l++List.replicate h.2.1 h.1,t1)
def row(H:CF)(n:Nat)(l:List Int)(t:Tr):List Int×Tr:=
 if l.length<n/\t.ended=false then
  if _h:(Et H n l t).2.mu<t.mu then row H n (Et H n l t).1 (Et H n l t).2 else (l,t)
 else (l,t)
 termination_by t.mu
def order:List Nat:=[13,14,12,0,7,8,6,9,5,10,4,11,3,2,1]
def helps:Nat->Nat->List Int->Tr->List Int×Tr
 | 0,_,l,t=>(l,t)
 | r+1,i,l,t=>if t.ended then (l,t) else helps r (i+1) (l.set (order.getD i 0) (t.number 3).1) (t.number 3).2
def CP(t:Tr):Nat×Nat×Nat×Tr:=
 let a:=t.number 4
 let t1:=if 12<a.1 then a.2.fail 10 else a.2
 let b:=t1.number 4
 let c:=b.2.number 4
 (a.1,b.1,c.1,if 11<c.1 then c.2.fail 10 else c.2)
def DW(t:Tr):List Int×Tr:=
 let h:=helps (4+t.CP.2.2.1) 0 (List.replicate 15 0) t.CP.2.2.2
 (h.1,if sumOf gw h.1=2048 then h.2 else h.2.fail 10)
def ownRow(t:Tr):List Int×Tr:=row (Ax t.DW.1) (257+t.CP.1+1+t.CP.2.1) [] t.DW.2
def own(t:Tr):CF×CF×Tr:=
 if t.DW.2.ended then (Du,Du,t.DW.2)
 else if t.ownRow.2.ended then (Du,Du,t.ownRow.2)
 else
  let a:=t.ownRow.1.take (257+t.CP.1)
  let b:=t.ownRow.1.drop (257+t.CP.1)
  (Ax a,Ax b,if a.getD 256 0=0\/sumOf gw a≠2048\/(sumOf gw b≠2048/\single b=false/\0<sumOf (fun _=>1) b) then t.ownRow.2.fail 10 else t.ownRow.2)
def Bi:List Int:=List.replicate 243 8++List.replicate 26 9
def Bw:List Int:=List.replicate 16 4
def Ar(base k:Nat):Nat:=if k<4 then base+k else base+(2+k%2)*2^((k - 2) / 2)
def Ag(k:Nat):Nat:=if k<4 then 0 else (k - 2) / 2
def DC(far:Nat):Nat->Tr->Tr
 | 0,t=>t
 | n+1,t=>if t.ended then t else DC far n (t.put (t.out.getD (t.out.length - far) 0))
def Dh(t:Tr)(b:CF)(k:Nat):Tr:=
 let m:=t.number (Ag k)
 let t1:=if b.many=0 then m.2.fail 11 else m.2
 let d:=t1.symbol b
 if d.1<0 then d.2.fail 11
 else
  let f:=d.2.number (Ag d.1.toNat)
  let far:=Ar 1 d.1.toNat+f.1
  DC far (Ar 3 k+m.1) (if f.2.out.length - f.2.CY<far then f.2.fail 11 else f.2)
def Bd(t:Tr)(a b:CF):Tr:=
 if (t.symbol a).1<256 then (t.symbol a).2.put ((t.symbol a).1%256).toNat else (t.symbol a).2.Dh b ((t.symbol a).1 - 257).toNat
def content(a b:CF)(t:Tr):Tr:=
 if t.ended then t
 else if (t.symbol a).2.ended=true\/(t.symbol a).1=256 then (t.symbol a).2
 else if _h:(t.Bd a b).mu<t.mu then content a b (t.Bd a b) else t
 termination_by t.mu
def block(kind:Nat)(t:Tr):Tr:=
 if kind=0 then t.plain
 else if kind=1 then content (Ax Bi) (Ax Bw) t
 else if kind=2 then content t.own.1 t.own.2.1 t.own.2.2
 else t.fail 7
def Bz(t:Tr):Tr:=
 if t.ended then t
 else if (t.bit.2.number 2).2.ended then (t.bit.2.number 2).2
 else if t.bit.1≠0 then (if (block (t.bit.2.number 2).1 (t.bit.2.number 2).2).ended then block (t.bit.2.number 2).1 (t.bit.2.number 2).2 else (block (t.bit.2.number 2).1 (t.bit.2.number 2).2).skip)
 else if _h:(block (t.bit.2.number 2).1 (t.bit.2.number 2).2).mu<t.mu then Bz (block (t.bit.2.number 2).1 (t.bit.2.number 2).2)
 else t
 termination_by t.mu
def blocks(t:Tr):Tr:=Bz { t with CY:=t.out.length,left:=0 }
end Tr
theorem Yp:∀ (bs:List (Int×List Value)) (_:∀ b∈bs,b.2.length=4) (i:Nat) (h:i<bs.length) (j:Nat),j<5->(bs.flatMap CQ)[i*5+j]?=(CQ bs[i])[j]?
 | b :: bs,hb,0,_,j,hj=>by
  have:(CQ b).length=5:=by simp [CQ,hb b zS]
  simp only [xL,zR,Nat.zero_mul,yJ];rw [kE zO]
 | b :: bs,hb,i+1,h,j,hj=>by
  have h5:(CQ b).length=5:=by simp [CQ,hb b zS]
  have a:=Yp bs (fun x hx=>hb x (by simp [hx])) i (by simpa using h) j hj;simp only [xL,zP];rw [AV zO,h5,show (i+1)*5+j - 5=i*5+j by omega];exact a
theorem OI.le_max(h:OI w B v l):l.length<=maxLen:=by
 rcases h.2 with ⟨_,h0⟩ | ⟨g,cap,cur,hv,c,d,b,a,_⟩
 ·rw [h0];exact zH _
 ·exact zG b a
theorem Inv.book{s:Aj}(h:Inv B gW d ρ s w)(hi:i<s.Ay.length) :
  ∃ (g cap:Nat) (m:Int) (k a2 a3 a4:Option Addr) (n1 c e f c1 c2 c3 n:Nat),s.vb= .slice (some ⟨g,0,none⟩) s.Ay.length cap/\g<w.heap.size/\
   w.cell? ⟨g,i*5,none⟩=some (.int .i64 m)/\w.cell? ⟨g,i*5+1,none⟩=some (.slice k n1 c1)/\w.cell? ⟨g,i*5+2,none⟩=some (.slice a2 c c2)/\w.cell? ⟨g,i*5+3,none⟩=some (.slice a3 e c3)/\w.cell? ⟨g,i*5+4,none⟩=some (.slice a4 f n)/\
   Ap w k (List.replicate n1 m)/\Ap w a2 (List.replicate c m)/\Ap w a3 (List.replicate e m)/\Ap w a4 (List.replicate f m)/\n1<=maxLen/\c<=maxLen/\e<=maxLen/\f<=maxLen:=by
 obtain ⟨g,cap,hv,hB,p⟩:=h.OJ.form zO;have l:=h.OJ;rw [hv] at l;have h4:=fun b l=>(h.bk b l).1
 have hc:∀ j,j<5->w.cell? ⟨g,i*5+j,none⟩=(CQ s.Ay[i])[j]?:=fun j C=>by
  rw [xO l (i*5+j) zO,Yp s.Ay h4 i hi j C]
 have hm:=yD hi;rcases o:s.Ay[i] with ⟨m,E⟩
 rw [o] at hm hc;have hl:=h4 _ hm;have a:=(h.bk _ hm).2;match E,hl with
 | [v1,v2,v3,v4],_=>
  obtain ⟨n1,v⟩:=a v1 zS;obtain ⟨c,y⟩:=a v2 zS;obtain ⟨e,z⟩:=a v3 zS;obtain ⟨f,A⟩:=a v4 zS;obtain ⟨k,c1,q,D⟩:=v.cells;obtain ⟨a2,c2,r,k2⟩:=y.cells;obtain ⟨a3,c3,t,k3⟩:=z.cells;obtain ⟨a4,n,u,k4⟩:=A.cells;simp only [yZ] at q r t u;refine ⟨g,cap,m,k,a2,a3,a4,n1,c,e,f,c1,c2,c3,n,hv,p,?_,?_,?_,?_,?_,D,k2,k3,k4,by simpa using v.le_max,by simpa using y.le_max,by simpa using z.le_max,by simpa using A.le_max⟩
  ·have:=hc 0 zO;simpa [CQ] using this
  ·have:=hc 1 zO;simpa [CQ,q] using this
  ·have:=hc 2 zO;simpa [CQ,r] using this
  ·have:=hc 3 zO;simpa [CQ,t] using this
  ·have:=hc 4 zO;simpa [CQ,u] using this
namespace Tr
theorem KG(t:Tr):t.ended=false↔t.err=0/\t.CZ=false:=by
 unfold ended;cases t.CZ <;> simp
theorem Ef{t:Tr}(h:t.ended=true):t.mu=0:=by simp [mu,h]
theorem Ch{t:Tr}(h:t.ended=false):t.mu=1+8*(t.s.size - t.Aw)+t.left:=by simp [mu,h]
theorem IT{t:Tr}(h:t.ended=false):0<t.mu:=by rw [Ch h];omega
theorem EZ{t:Tr}(h:t.ended=true)(e:Nat):t.fail e=t:=by simp [fail,h]
theorem GR{t:Tr}(h:t.ended=false)(e:Nat):t.fail e={ t with err:=e }:=by simp [fail,h]
theorem Cz(t:Tr)(he:e≠0):(t.fail e).ended=true:=by
 cases h:t.ended
 ·rw [GR h];simp [ended,he]
 ·rw [EZ h,h]
theorem Oi(t:Tr)(he:e≠0):(t.fail e).mu=0:=Ef (Cz t he)
theorem Fq{t:Tr}(h:t.ended=true):t.Ad=(0,t):=by simp [Ad,h]
theorem Eb{t:Tr}(h:t.ended=false)(hs:t.s.size<=t.Aw):t.Ad=(0,{ t with CZ:=true }):=by simp [Ad,h,hs]
theorem FB{t:Tr}(h:t.ended=false)(hs:t.Aw<t.s.size):t.Ad=(Bm t.s t.Aw,{ t with Aw:=t.Aw+1 }):=by
 simp [Ad,h];omega
theorem FO{t:Tr}(h:t.ended=true)(b:Nat):t.put b=t:=by simp [put,h]
theorem CG{t:Tr}(h:t.ended=false)(b:Nat):t.put b={ t with out:=t.out++[b],Br:=t.Br++[t.Aw] }:=by simp [put,h]
theorem Mw(t:Tr)(b:Nat):(t.put b).ended=t.ended:=by
 cases h:t.ended
 ·rw [CG h];simpa [ended] using h
 ·rw [FO h,h]
theorem NM(t:Tr)(b:Nat):(t.put b).mu=t.mu:=by
 cases h:t.ended
 ·rw [Ch h,Ch (by rw [Mw,h])];rw [CG h]
 ·rw [FO h]
theorem DB{t:Tr}(h:t.left=0):t.load={ t.Ad.2 with cur:=t.Ad.1,left:=8 }:=by simp [load,h]
theorem Ib{t:Tr}(h:0<t.left):t.load=t:=by simp only [load];rw [zA zO]
structure Da(t t':Tr):Prop where
 out:t'.out=t.out
 Br:t'.Br=t.Br
 Aa:t'.Aa=t.Aa
 s:t'.s=t.s
 CY:t'.CY=t.CY
 Ai:t'.Ai=t.Ai
 mu:t'.mu<=t.mu
 ended:t.ended=true->t'.ended=true
theorem Da.refl(t:Tr):Da t t:=⟨rfl,rfl,rfl,rfl,rfl,rfl,zE _,fun h=>h⟩
theorem Da.trans{a b c:Tr}(h:Da a b)(k:Da b c):Da a c:=⟨k.out.trans h.out,k.Br.trans h.Br,k.Aa.trans h.Aa,k.s.trans h.s,k.CY.trans h.CY,k.Ai.trans h.Ai,zG k.mu h.mu,fun x=>k.ended (h.ended x)⟩
theorem Da.Gh{a b:Tr}(h:Da a b)(c:b.ended=false):a.ended=false:=by
 cases e:a.ended
 ·rfl
 ·rw [h.ended e] at c;cases c
theorem CK(t:Tr)(he:e≠0):Da t (t.fail e):=by
 cases h:t.ended
 ·have h2:=Cz t he;refine ⟨?_,?_,?_,?_,?_,?_,by rw [Oi t he];omega,fun _=>h2⟩ <;> rw [GR h]
 ·rw [EZ h];exact Da.refl t
theorem CS(t:Tr):Da t t.Ad.2:=by
 cases h:t.ended
 ·by_cases hs:t.s.size<=t.Aw
  ·rw [Eb h hs];exact ⟨rfl,rfl,rfl,rfl,rfl,rfl,by rw [Ef (by simp [Tr.ended])];omega,fun _=>by simp [Tr.ended]⟩
  ·rw [FB h zO];have a:({ t with Aw:=t.Aw+1 }:Tr).ended=false:=by simpa [Tr.ended] using h
   exact ⟨rfl,rfl,rfl,rfl,rfl,rfl,by rw [Ch h,Ch a];simp only;omega,fun x=>by rw [h] at x;cases x⟩
 ·rw [Fq h];exact Da.refl t
theorem MI{t:Tr}(h:t.Ad.2.ended=false):t.Ad.2.mu+8=t.mu:=by
 have a:=(CS t).Gh h;by_cases hs:t.s.size<=t.Aw
 ·rw [Eb a hs] at h;simp [Tr.ended] at h
 ·rw [Ch h,Ch a,FB a zO];simp only;omega
theorem Fb(t:Tr):Da t t.bit.2:=by
 have b:t.bit.2.ended=t.load.ended:=rfl;by_cases hl:t.left=0
 ·have a:t.load.ended=t.Ad.2.ended:=by rw [DB hl];rfl
  have f:=CS t;refine ⟨?_,?_,?_,?_,?_,?_,?_,fun h=>by rw [b,a];exact f.ended h⟩
  ·show t.load.out=_;rw [DB hl];exact f.out
  ·show t.load.Br=_;rw [DB hl];exact f.Br
  ·show t.load.Aa=_;rw [DB hl];exact f.Aa
  ·show t.load.s=_;rw [DB hl];exact f.s
  ·show t.load.CY=_;rw [DB hl];exact f.CY
  ·show t.load.Ai=_;rw [DB hl];exact f.Ai
  ·cases h:t.Ad.2.ended
   ·have:=MI h;have e:=f.Gh h;have d:=Ch h;have c:t.bit.2.mu=1+8*(t.Ad.2.s.size - t.Ad.2.Aw)+7:=by
     rw [Ch (by rw [b,a,h])];show 1+8*(t.load.s.size - t.load.Aw)+(t.load.left - 1)=_;rw [DB hl];rfl
    omega
   ·rw [Ef (by rw [b,a,h])];omega
 ·have a:t.load=t:=Ib zO;refine ⟨?_,?_,?_,?_,?_,?_,?_,fun h=>by rw [b,a];exact h⟩
  ·show t.load.out=_;rw [a]
  ·show t.load.Br=_;rw [a]
  ·show t.load.Aa=_;rw [a]
  ·show t.load.s=_;rw [a]
  ·show t.load.CY=_;rw [a]
  ·show t.load.Ai=_;rw [a]
  ·cases h:t.ended
   ·rw [Ch h,Ch (by rw [b,a,h])];show 1+8*(t.load.s.size - t.load.Aw)+(t.load.left - 1)<=_;rw [a];omega
   ·rw [Ef (by rw [b,a,h])];omega
theorem dT{t:Tr}(h:t.ended=false):t.bit.2.mu<t.mu:=by
 have b:t.bit.2.ended=t.load.ended:=rfl;cases a:t.bit.2.ended
 ·by_cases hl:t.left=0
  ·have c:t.load.ended=t.Ad.2.ended:=by rw [DB hl];rfl
   have ho:t.Ad.2.ended=false:=by rw [<- c,<- b,a]
   have:=MI ho;have f:=Ch ho;have d:t.bit.2.mu=1+8*(t.Ad.2.s.size - t.Ad.2.Aw)+7:=by
    rw [Ch a];show 1+8*(t.load.s.size - t.load.Aw)+(t.load.left - 1)=_;rw [DB hl];rfl
   have e:t.Ad.2.left=0:=by
    by_cases hs:t.s.size<=t.Aw
    ·rw [Eb h hs];exact hl
    ·rw [FB h zO];exact hl
   omega
  ·rw [Ch h,Ch a];show 1+8*(t.load.s.size - t.load.Aw)+(t.load.left - 1)<_;rw [Ib zO];omega
 ·rw [Ef a];exact IT h
theorem Bb(t:Tr)(k:Nat):Da t (t.number k).2:=by
 induction k with
 | zero=>exact Da.refl t
 | succ k ih=>exact ih.trans (Fb _)
theorem Lt(t:Tr):Da t t.skip:=by
 unfold skip;split
 ·have f:=CK t (e:=8) zD;exact ⟨f.out,f.Br,f.Aa,f.s,f.CY,f.Ai,by rw [Ef (t:={ t.fail 8 with left:=0 }) (Cz t (e:=8) zD)];omega,fun h=>f.ended h⟩
 ·refine ⟨rfl,rfl,rfl,rfl,rfl,rfl,?_,fun h=>h⟩;cases h:t.ended
  ·have a:({ t with left:=0 }:Tr).ended=false:=h;rw [Ch h,Ch a];simp only;omega
  ·have a:({ t with left:=0 }:Tr).ended=true:=h;rw [Ef a];omega
theorem Yr(S:CF)(r:Nat):∀ (n c:Nat) (t:Tr),Da t (sym S r n c t).2:=by
 induction r with
 | zero=>intro n c t;exact Da.refl t
 | succ r ih=>
  intro n c t;unfold sym;split
  ·exact Fb t
  ·split
   ·exact Fb t
   ·split
    ·exact Fb t
    ·exact (Fb t).trans (ih _ _ _)
theorem Dj(t:Tr)(S:CF):Da t (t.symbol S).2:=Yr S 11 1 0 t
theorem NN{t:Tr}(S:CF)(h:t.ended=false):(t.symbol S).2.mu<t.mu:=by
 have a:=dT h;unfold symbol sym;split
 ·exact a
 ·split
  ·exact a
  ·split
   ·exact a
   ·exact vR (Yr S 10 _ _ _).mu a
theorem VA(l:List Int)(n c:Int)(r:Nat):∀ i,findFrom l n c r i<(i+r:Nat):=by
 induction r with
 | zero=>intro i;simp [findFrom];omega
 | succ r ih=>
  intro i;unfold findFrom;split
  ·omega
  ·have:=ih (i+1);omega
theorem Yo(S:CF)(n c:Int):find S n c<S.l.length:=by
 have:=VA S.l n c S.l.length 0;unfold find;omega
theorem lr(S:CF)(r:Nat):∀ (n c:Nat) (t:Tr),(sym S r n c t).1<S.l.length/\ -1<=(sym S r n c t).1:=by
 induction r with
 | zero=>intro n c t;simp [sym];omega
 | succ r ih=>
  intro n c t;unfold sym;split
  ·exact ⟨by show (-1:Int)<_;omega,by show (-1:Int)<= -1;omega⟩
  ·split
   ·exact ⟨Yo S _ _,by show -1<=find S _ _;omega⟩
   ·split
    ·exact ⟨by show (-1:Int)<_;omega,by show (-1:Int)<= -1;omega⟩
    ·exact ih _ _ _
theorem Iq(t:Tr)(S:CF):(t.symbol S).1<S.l.length/\ -1<=(t.symbol S).1:=lr S 11 1 0 t
def cost(t:Tr):Nat:=t.out.length+66*t.mu
theorem Da.cost{a b:Tr}(h:Da a b):b.cost<=a.cost:=by unfold Tr.cost;rw [h.out];have:=h.mu;omega
theorem Dy(t:Tr)(k:Nat):(t.number k).1<2^k:=by
 induction k with
 | zero=>simp [number]
 | succ k ih=>
  simp only [number];have h1:(t.number k).2.bit.1<=1:=by show _%2<=1;omega
  rw [yN];have h2:(t.number k).2.bit.1*2^k<=1*2^k:=Nat.mul_le_mul_right _ h1;omega
end Tr
namespace Tr
structure Ao(t:Tr):Prop where
 left:t.left<=8
 cur:t.cur<256
 Aw:t.Aw<=t.s.size
 CY:t.CY<=t.out.length
 Br:t.Br.length=t.out.length
 err:t.err<=18
theorem Ao.fail{t:Tr}(h:Ao t)(he:e<=18):Ao (t.fail e):=by
 cases hd:t.ended
 ·rw [GR hd];exact ⟨h.left,h.cur,h.Aw,h.CY,h.Br,he⟩
 ·rw [EZ hd];exact h
theorem Dl(t:Tr):t.Ad.1<256:=by
 unfold Ad;split
 ·simp
 ·split
  ·simp
  ·exact Ex _ _
theorem Ao.Ad{t:Tr}(h:Ao t):Ao t.Ad.2:=by
 cases hd:t.ended
 ·by_cases hs:t.s.size<=t.Aw
  ·rw [Eb hd hs];exact ⟨h.left,h.cur,h.Aw,h.CY,h.Br,h.err⟩
  ·rw [FB hd zO];exact ⟨h.left,h.cur,by show t.Aw+1<=t.s.size;omega,h.CY,h.Br,h.err⟩
 ·rw [Fq hd];exact h
theorem Ao.load{t:Tr}(h:Ao t):Ao t.load:=by
 by_cases hl:t.left=0
 ·rw [DB hl];have f:=h.Ad;exact ⟨by show 8<=8;omega,Dl t,f.Aw,f.CY,f.Br,f.err⟩
 ·rw [Ib zO];exact h
theorem Ao.bit{t:Tr}(h:Ao t):Ao t.bit.2:=by
 have f:=h.load;exact ⟨by show t.load.left - 1<=8;have:=f.left;omega,by show t.load.cur / 2<256;have:=f.cur;omega,f.Aw,f.CY,f.Br,f.err⟩
theorem Ao.number{t:Tr}(h:Ao t)(k:Nat):Ao (t.number k).2:=by
 induction k with
 | zero=>exact h
 | succ k ih=>exact ih.bit
theorem Ao.skip{t:Tr}(h:Ao t):Ao t.skip:=by
 unfold Tr.skip;split
 ·have f:=h.fail (e:=8) zD;exact ⟨zH _,f.cur,f.Aw,f.CY,f.Br,f.err⟩
 ·exact ⟨zH _,h.cur,h.Aw,h.CY,h.Br,h.err⟩
theorem Ao.put{t:Tr}(h:Ao t)(b:Nat):Ao (t.put b):=by
 cases hd:t.ended
 ·rw [CG hd];exact ⟨h.left,h.cur,h.Aw,by show t.CY<=(t.out++[b]).length;have:=h.CY;simp;omega,by show (t.Br++[t.Aw]).length=(t.out++[b]).length;simp [h.Br],h.err⟩
 ·rw [FO hd];exact h
theorem Ao.sym(S:CF)(r:Nat):∀ (n c:Nat) (t:Tr),Ao t->Ao (Tr.sym S r n c t).2:=by
 induction r with
 | zero=>intro n c t h;exact h
 | succ r ih=>
  intro n c t h;unfold Tr.sym;split
  ·exact h.bit
  ·split
   ·exact h.bit
   ·split
    ·exact h.bit
    ·exact ih _ _ _ h.bit
theorem Ao.symbol{t:Tr}(h:Ao t)(S:CF):Ao (t.symbol S).2:=Ao.sym S 11 1 0 t h
structure Df(t t':Tr):Prop where
 Aa:t'.Aa=t.Aa
 s:t'.s=t.s
 CY:t'.CY=t.CY
 Ai:t'.Ai=t.Ai
 mu:t'.mu<=t.mu
 cost:t'.cost<=t.cost
 ended:t.ended=true->t'.ended=true
theorem Df.refl(t:Tr):Df t t:=⟨rfl,rfl,rfl,rfl,zE _,zE _,fun h=>h⟩
theorem Df.trans{a b c:Tr}(h:Df a b)(k:Df b c):Df a c:=⟨k.Aa.trans h.Aa,k.s.trans h.s,k.CY.trans h.CY,k.Ai.trans h.Ai,zG k.mu h.mu,zG k.cost h.cost,fun x=>k.ended (h.ended x)⟩
theorem Da.run{a b:Tr}(h:Da a b):Df a b:=⟨h.Aa,h.s,h.CY,h.Ai,h.mu,h.cost,h.ended⟩
theorem Ou(t:Tr)(b:Nat):(t.put b).out.length<=t.out.length+1:=by
 cases hd:t.ended
 ·rw [CG hd];simp
 ·rw [FO hd];omega
theorem Ts(t:Tr)(b:Nat):(t.put b).Aa=t.Aa/\(t.put b).s=t.s/\(t.put b).CY=t.CY/\(t.put b).Ai=t.Ai:=by
 cases hd:t.ended
 ·rw [CG hd];exact ⟨rfl,rfl,rfl,rfl⟩
 ·rw [FO hd];exact ⟨rfl,rfl,rfl,rfl⟩
theorem Qg(t:Tr):Df t (t.Ad.2.put t.Ad.1):=by
 have f:=CS t;obtain ⟨a,b,c,d⟩:=Ts t.Ad.2 t.Ad.1;refine ⟨a.trans f.Aa,b.trans f.s,c.trans f.CY,d.trans f.Ai,by rw [NM];exact f.mu,?_,fun h=>by rw [Mw];exact f.ended h⟩;unfold Tr.cost;rw [NM];cases h:t.Ad.2.ended
 ·have:=MI h;have:=Ou t.Ad.2 t.Ad.1;rw [f.out] at this;omega
 ·rw [FO h,f.out,Ef h];omega
theorem ar(n:Nat):∀ t:Tr,Df t (bytes n t):=by
 induction n with
 | zero=>intro t;exact Df.refl t
 | succ n ih=>
  intro t;unfold bytes;split
  ·exact Df.refl t
  ·exact (Qg t).trans (ih _)
theorem Ao.bytes(n:Nat):∀ t:Tr,Ao t->Ao (Tr.bytes n t):=by
 induction n with
 | zero=>intro t h;exact h
 | succ n ih=>
  intro t h;unfold Tr.bytes;split
  ·exact h
  ·exact ih _ (h.Ad.put _)
theorem IP(t:Tr):Da t t.Cp.2:=by
 have f:=(Lt t).trans ((CS t.skip).trans ((CS _).trans ((CS _).trans (CS _))));unfold Cp;simp only;split
 ·exact f
 ·exact f.trans (CK _ zD)
theorem Ao.Cp{t:Tr}(h:Ao t):Ao t.Cp.2:=by
 have f:=h.skip.Ad.Ad.Ad.Ad;unfold Tr.Cp;simp only;split
 ·exact f
 ·exact f.fail zD
theorem av(t:Tr):Df t t.plain:=(IP t).run.trans (ar _ _)
theorem Ao.plain{t:Tr}(h:Ao t):Ao t.plain:=Ao.bytes _ _ h.Cp
theorem Je{far:Nat}(n:Nat){t:Tr}(h:t.ended=true):DC far n t=t:=by
 cases n with
 | zero=>rfl
 | succ n=>unfold DC;rw [zC h]
theorem Uy(a n:Nat):∀ t:Tr,(DC a n t).Aa=t.Aa/\(DC a n t).s=t.s/\(DC a n t).CY=t.CY/\(DC a n t).Ai=t.Ai/\(DC a n t).mu=t.mu/\(DC a n t).ended=t.ended/\(DC a n t).out.length<=t.out.length+n:=by
 induction n with
 | zero=>intro t;exact ⟨rfl,rfl,rfl,rfl,rfl,rfl,zE _⟩
 | succ n ih=>
  intro t;unfold DC;split
  ·exact ⟨rfl,rfl,rfl,rfl,rfl,rfl,zO⟩
  ·obtain ⟨b,a2,a3,a4,a5,c,h⟩:=ih (t.put (t.out.getD (t.out.length - a) 0));obtain ⟨d,e,f,g⟩:=Ts t (t.out.getD (t.out.length - a) 0);have:=Ou t (t.out.getD (t.out.length - a) 0);exact ⟨b.trans d,a2.trans e,a3.trans f,a4.trans g,a5.trans (NM _ _),c.trans (Mw _ _),zO⟩
theorem Ao.DC(a n:Nat):∀ t:Tr,Ao t->Ao (Tr.DC a n t):=by
 induction n with
 | zero=>intro t h;exact h
 | succ n ih=>
  intro t h;unfold Tr.DC;split
  ·exact h
  ·exact ih _ (h.put _)
theorem Uz(hk:k<=11)(hm:m<2^Ag k):Ar 3 k+m<=66:=by
 have:k=0\/k=1\/k=2\/k=3\/k=4\/k=5\/k=6\/k=7\/k=8\/k=9\/k=10\/k=11:=zO;rcases this with rfl | rfl | rfl | rfl | rfl | rfl | rfl | rfl | rfl | rfl | rfl | rfl <;> simp [Ag,Ar] at * <;> omega
structure bR(t t':Tr):Prop where
 Aa:t'.Aa=t.Aa
 s:t'.s=t.s
 CY:t'.CY=t.CY
 Ai:t'.Ai=t.Ai
 mu:t'.mu<=t.mu
 len:t'.out.length<=t.out.length+66
 same:t'.ended=true->t'.out.length=t.out.length\/t.ended=false
 ended:t.ended=true->t'.ended=true/\t'.out=t.out
theorem Da.copied{a b:Tr}(h:Da a b):bR a b:=⟨h.Aa,h.s,h.CY,h.Ai,h.mu,by rw [h.out];omega,fun _=>Or.inl (by rw [h.out]),fun x=>⟨h.ended x,h.out⟩⟩
theorem RT(t:Tr)(b:CF)(k:Nat)(hk:k<=11):bR t (t.Dh b k):=by
 unfold Dh;simp only;have c:=Bb t (Ag k);have l:Da t (if b.many=0 then (t.number (Ag k)).2.fail 11 else (t.number (Ag k)).2):=by
  split
  ·exact c.trans (CK _ zD)
  ·exact c
 generalize n:(if b.many=0 then (t.number (Ag k)).2.fail 11 else (t.number (Ag k)).2)=t1 at *;have d:=l.trans (Dj t1 b);split
 ·exact (d.trans (CK _ zD)).copied
 ·have e:=d.trans (Bb (t1.symbol b).2 (Ag (t1.symbol b).1.toNat));generalize o:(t1.symbol b).2.number (Ag (t1.symbol b).1.toNat)=f at *;have a:Da t (if f.2.out.length - f.2.CY<Ar 1 (t1.symbol b).1.toNat+f.1 then f.2.fail 11 else f.2):=by
   split
   ·exact e.trans (CK _ zD)
   ·exact e
  generalize (if f.2.out.length - f.2.CY<Ar 1 (t1.symbol b).1.toNat+f.1 then f.2.fail 11 else f.2)=t5 at *;have p:=Uz hk (Dy t (Ag k));obtain ⟨g,a2,a3,a4,a5,i,j⟩:=Uy (Ar 1 (t1.symbol b).1.toNat+f.1) (Ar 3 k+(t.number (Ag k)).1) t5;refine ⟨g.trans a.Aa,a2.trans a.s,a3.trans a.CY,a4.trans a.Ai,by rw [a5];exact a.mu,by rw [a.out] at j;omega,fun h=>?_,fun h=>?_⟩
  ·rw [i] at h;left
   rw [Je _ h,a.out]
  ·have h5:=a.ended h;rw [Je _ h5];exact ⟨h5,a.out⟩
theorem Ao.Dh{t:Tr}(h:Ao t)(b:CF)(k:Nat):Ao (t.Dh b k):=by
 unfold Tr.Dh;simp only;have a:=h.number (Ag k);have e:Ao (if b.many=0 then (t.number (Ag k)).2.fail 11 else (t.number (Ag k)).2):=by
  split
  ·exact a.fail zD
  ·exact a
 generalize g:(if b.many=0 then (t.number (Ag k)).2.fail 11 else (t.number (Ag k)).2)=t1 at *;have c:=e.symbol b;split
 ·exact c.fail zD
 ·have d:=c.number (Ag (t1.symbol b).1.toNat);generalize i:(t1.symbol b).2.number (Ag (t1.symbol b).1.toNat)=f at *;split
  ·exact Ao.DC _ _ _ (d.fail zD)
  ·exact Ao.DC _ _ _ d
theorem Fc{t:Tr}{a b:CF}(k:a.l.length<=269)(d:t.ended=false):Df t (t.Bd a b)/\(t.Bd a b).mu<t.mu:=by
 have f:=Dj t a;have hm:=NN a d;have hl:=(Iq t a).1;unfold Bd;split
 ·obtain ⟨e,g,i,j⟩:=Ts (t.symbol a).2 ((t.symbol a).1%256).toNat;have:=Ou (t.symbol a).2 ((t.symbol a).1%256).toNat;rw [f.out] at this;refine ⟨⟨e.trans f.Aa,g.trans f.s,i.trans f.CY,j.trans f.Ai,by rw [NM];exact f.mu,?_,fun h=>by rw [d] at h;cases h⟩,by rw [NM];exact hm⟩;unfold Tr.cost;rw [NM];omega
 ·have c:=RT (t.symbol a).2 b ((t.symbol a).1 - 257).toNat zO;have h1:=c.mu;have h2:=c.len;rw [f.out] at h2;refine ⟨⟨c.Aa.trans f.Aa,c.s.trans f.s,c.CY.trans f.CY,c.Ai.trans f.Ai,zO,?_,fun h=>by rw [d] at h;cases h⟩,zO⟩;unfold Tr.cost;omega
theorem Ao.Bd{t:Tr}(h:Ao t)(a b:CF):Ao (t.Bd a b):=by
 unfold Tr.Bd;split
 ·exact (h.symbol a).put _
 ·exact (h.symbol a).Dh _ _
theorem Hi{a b:CF}{t:Tr}(c:a.l.length<=269)(h1:t.ended=false)(h2:(t.symbol a).2.ended=false)(h3:(t.symbol a).1≠256):content a b t=content a b (t.Bd a b):=by
 rw [content,zA (by rw [h1];simp),zA (by rw [h2];simp [h3]),kH (Fc c h1).2]
theorem Fz{a b:CF}{t:Tr}(h1:t.ended=false)(h:(t.symbol a).2.ended=true\/(t.symbol a).1=256):content a b t=(t.symbol a).2:=by
 rw [content,zA (by rw [h1];simp),zC h]
theorem Eh{a b:CF}{t:Tr}(h1:t.ended=true):content a b t=t:=by
 rw [content,zC h1]
theorem OC{a b:CF}(c:a.l.length<=269):∀ (n:Nat) (t:Tr),t.mu<=n->Df t (content a b t)/\(Ao t->Ao (content a b t)):=by
 intro n;induction n with
 | zero=>
  intro t d;have:t.ended=true:=by
   cases h:t.ended
   ·have:=IT h;omega
   ·rfl
  rw [Eh this];exact ⟨Df.refl t,fun h=>h⟩
 | succ n ih=>
  intro t d;cases h1:t.ended
  ·by_cases h2:(t.symbol a).2.ended=true\/(t.symbol a).1=256
   ·rw [Fz h1 h2];exact ⟨(Dj t a).run,fun h=>h.symbol a⟩
   ·have h3:(t.symbol a).2.ended=false:=by
     cases h:(t.symbol a).2.ended
     ·rfl
     ·exact absurd (Or.inl h) h2
    rw [Hi c h1 h3 (fun e=>h2 (Or.inr e))];have r:=Fc (b:=b) c h1;have k:=ih (t.Bd a b) zO;exact ⟨r.1.trans k.1,fun h=>k.2 (h.Bd a b)⟩
  ·rw [Eh h1];exact ⟨Df.refl t,fun h=>h⟩
end Tr
def bI(t:Tr)(vo va vs:Value):Nat->Value
 | 0=>vo
 | 1=>va
 | 2=> .int .i64 t.Aw
 | 3=>vs
 | 4=> .int .i64 t.err
 | 5=> .bool t.CZ
 | 6=> .string t.s
 | 7=> .int .i64 t.cur
 | 8=> .int .i64 t.left
 | 9=> .int .i64 t.CY
 | 10=> .int .i64 t.head
 | 11=> .int .i64 t.many
 | _=> .int .i64 t.Ai
def EJ(l:List Nat):List Value:=l.map fun (n:Nat)=> .int .u8 n
def GD(l:List Nat):List Value:=l.map fun (n:Nat)=> .int .i64 n
theorem Ep{P:Nat->Prop}(h0:P 0)(h1:P 1)(h2:P 2)(h3:P 3)(h4:P 4)(h5:P 5)(h6:P 6)(d:P 7)(e:P 8)(f:P 9)(a:P 10)(b:P 11)(c:P 12)(i:Nat)(hi:i<13):P i:=by
 have:i=0\/i=1\/i=2\/i=3\/i=4\/i=5\/i=6\/i=7\/i=8\/i=9\/i=10\/i=11\/i=12:=zO;rcases this with rfl | rfl | rfl | rfl | rfl | rfl | rfl | rfl | rfl | rfl | rfl | rfl | rfl <;> assumption
structure Ft(B p:Nat)(vo va vs:Value)(t:Tr)(w:World):Prop where
 pB:B<=p
 hB:B<=w.heap.size
 row:w.rowIs p 235 13 (bI t vo va vs)
 out:w.ownsRow B 5 1 vo t.out.length (EJ t.out)
 Br:w.ownsRow B 3 1 va t.Br.length (GD t.Br)
 Ua:w.ownsRow B 3 1 vs t.Aa.length (GD t.Aa)
 po:vo.ownBlock≠some p
 pa:va.ownBlock≠some p
 ps:vs.ownBlock≠some p
 oa:∀ g,vo.ownBlock=some g->va.ownBlock≠some g
 os:∀ g,vo.ownBlock=some g->vs.ownBlock≠some g
 sa:∀ g,va.ownBlock=some g->vs.ownBlock≠some g
def Dv(p:Nat)(w w':World):Prop:=Kp (fun k=>k=p) (fun k=>k) w w'
theorem Dv.refl(p:Nat)(w:World):Dv p w w:=Kp.refl _ _ _
theorem Dv.trans(h:Dv p a b)(k:Dv p b c):Dv p a c:=Kp.trans h k
theorem Dv.set(p:Nat)(w:World)(i:Nat)(v:Value):Dv p w (w.setCell ⟨p,i,none⟩ v):=Kp.Dm w _ _ rfl
theorem Dv.Bk(h:Below w.heap.size w w'):Dv p w w':=Kp.Bk h
theorem Hp{e:TypeId}(h:w.ownsRow B e sz v n xs)(hk:Dv p w w')(hp:v.ownBlock≠some p):w'.ownsRow B e sz v n xs:=
 As h hk (fun g a e=>hp (by rw [a,e]))
theorem Ft.nu{t t':Tr}(h:Ft B p vo va vs t w)(hk:Dv p w w')(ho:t'.out=t.out)(a:t'.Br=t.Br)(hs:t'.Aa=t.Aa)(b:w'.rowIs p 235 13 (bI t' vo va vs)):Ft B p vo va vs t' w' where
 pB:=h.pB
 hB:=zG h.hB hk.size
 row:=b
 out:=by rw [ho];exact Hp h.out hk h.po
 Br:=by rw [a];exact Hp h.Br hk h.pa
 Ua:=by rw [hs];exact Hp h.Ua hk h.ps
 po:=h.po
 pa:=h.pa
 ps:=h.ps
 oa:=h.oa
 os:=h.os
 sa:=h.sa
structure Kept(B p:Nat)(vo va vs:Value)(t':Tr)(w w':World):Prop where
 inv:Ft B p vo va vs t' w'
 kp:Dv p w w'
 bel:Below B w w'
theorem Kept.refl{t:Tr}(h:Ft B p vo va vs t w):Kept B p vo va vs t w w:=⟨h,Dv.refl _ _,zF _ _⟩
theorem Kept.trans{t1 t2:Tr}(h:Kept B p vo va vs t1 a b)(k:Kept B p vo va vs t2 b c):Kept B p vo va vs t2 a c:=⟨k.inv,h.kp.trans k.kp,h.bel.trans k.bel⟩
theorem Kept.set{t1 t2:Tr}(h:Kept B p vo va vs t1 a b)(i:Nat)(v:Value)(ho:t2.out=t1.out)(c:t2.Br=t1.Br)(hs:t2.Aa=t1.Aa)(d:∀ j,j<13->(if j=i then v else bI t1 vo va vs j)=bI t2 vo va vs j):Kept B p vo va vs t2 a (b.setCell ⟨p,i,none⟩ v):=⟨h.inv.nu (Dv.set p b i v) ho c hs ((h.inv.row.set i v).congr d),h.kp.trans (Dv.set p b i v),h.bel.setCell h.inv.pB v⟩
theorem Kept.drewN{t:Tr}(h:Kept B p vo va vs t a b)(q:Nat):Kept B p vo va vs t a (b.drewN q):=by
 have k:Dv p b (b.drewN q):=⟨zE _,fun _ _ _=>rfl⟩
 exact ⟨h.inv.nu k rfl rfl rfl h.inv.row,h.kp.trans k,⟨h.bel.os,h.bel.tape,h.bel.output,h.bel.size,h.bel.block⟩⟩
theorem Bc{t:Tr}(w:World)(h:Ft B p vo va vs t w) :
  Calls prog 182 #[.pointer (some ⟨p,0,none⟩)] w fun e d=>e= .returned (.bool t.ended)/\w=d:=by
 have b:w.cell? ⟨p,4,none⟩=some (.int .i64 t.err):=h.row.cell (i:=4) zO;have f:w.cell? ⟨p,5,none⟩=some (.bool t.CZ):=h.row.cell (i:=5) zO;clear h;by_cases he:t.err=0
 ·have a:t.ended=t.CZ:=by simp [Tr.ended,he]
  rw [he] at b;rw [a];go_enter func182,ntmps182
  go_wp2
  go_ret
  exact ⟨rfl,rfl⟩
 ·have a:t.ended=true:=by simp [Tr.ended,he]
  rw [a];have c:((t.err:Int)==0)=false:=by simp;omega
  go_enter func182,ntmps182
  go_wp2
  go_ret
  exact ⟨rfl,rfl⟩
theorem Dn{t:Tr}(e:Nat)(w:World)(h:Ft B p vo va vs t w) :
  Calls prog 183 #[.pointer (some ⟨p,0,none⟩), .int .i64 e] w fun x b=>x= .returned (.tuple #[])/\Kept B p vo va vs (t.fail e) w b:=by
 have a:=hid h;have d:=h.row.frozen 4;have c:w.cell? ⟨p,4,none⟩=some (.int .i64 t.err):=h.row.cell (i:=4) zO;clear h;cases hd:t.ended
 ·rw [Tr.GR hd];have K:Hid (Kept B p vo va vs { t with err:=e } w (w.setCell ⟨p,4,none⟩ (.int .i64 e))):=(Kept.refl a.out).set 4 _ rfl rfl rfl (fun j f=>by revert j;exact Ep rfl rfl rfl rfl rfl rfl rfl rfl rfl rfl rfl rfl rfl);go_enter func183,ntmps183
  go_wp2_with (go_at_call 182;refine (Bc _ a.out).mono ?_;rw [hd];rintro e b ⟨rfl,rfl⟩)
  go_end0
  exact ⟨rfl,K.out⟩
 ·rw [Tr.EZ hd];go_enter func183,ntmps183
  go_wp2_with (go_at_call 182;refine (Bc _ a.out).mono ?_;rw [hd];rintro e b ⟨rfl,rfl⟩)
  go_end0
  exact ⟨rfl,Kept.refl a.out⟩
theorem Ft.drewN{t:Tr}(h:Ft B p vo va vs t w)(q:Nat):Ft B p vo va vs t (w.drewN q):=((Kept.refl h).drewN q).inv
theorem Mk{t:Tr}(h:Kept B p vo va vs t a b):Kept B p vo va vs { t with CZ:=true } a (b.setCell ⟨p,5,none⟩ (.bool true)):=
 h.set 5 _ rfl rfl rfl (fun j c=>by revert j;exact Ep rfl rfl rfl rfl rfl rfl rfl rfl rfl rfl rfl rfl rfl)
theorem UU{t:Tr}(h:Kept B p vo va vs t a b)(n:Nat):Kept B p vo va vs { t with Aw:=n } a (b.setCell ⟨p,2,none⟩ (.int .i64 n)):=
 h.set 2 _ rfl rfl rfl (fun j c=>by revert j;exact Ep rfl rfl rfl rfl rfl rfl rfl rfl rfl rfl rfl rfl rfl)
theorem Ya{t:Tr}(h:Kept B p vo va vs t a b)(n:Nat):Kept B p vo va vs { t with cur:=n } a (b.setCell ⟨p,7,none⟩ (.int .i64 n)):=
 h.set 7 _ rfl rfl rfl (fun j c=>by revert j;exact Ep rfl rfl rfl rfl rfl rfl rfl rfl rfl rfl rfl rfl rfl)
theorem JK{t:Tr}(h:Kept B p vo va vs t a b)(n:Nat):Kept B p vo va vs { t with left:=n } a (b.setCell ⟨p,8,none⟩ (.int .i64 n)):=
 h.set 8 _ rfl rfl rfl (fun j c=>by revert j;exact Ep rfl rfl rfl rfl rfl rfl rfl rfl rfl rfl rfl rfl rfl)
theorem Gc{t:Tr}(w:World)(h:Ft B p vo va vs t w)(hs:t.s.size<=maxLen) :
  Calls prog 205 #[.pointer (some ⟨p,0,none⟩)] w fun x c=>x= .returned (.int .i64 t.Ad.1)/\Kept B p vo va vs t.Ad.2 w c:=by
 unfold maxLen at hs;have a:=hid h;have c2:w.cell? ⟨p,2,none⟩=some (.int .i64 t.Aw):=h.row.cell (i:=2) zO;have c6:w.cell? ⟨p,6,none⟩=some (.string t.s):=h.row.cell (i:=6) zO;have l:=h.row.frozen 2;have n:=h.row.frozen 5;have k:w.cell? ⟨p,5,none⟩=some (.bool t.CZ):=h.row.cell (i:=5) zO;clear h;cases hd:t.ended
 ·by_cases j:t.s.size<=t.Aw
  ·rw [Tr.Eb hd j];have K:Hid (∀ q,Kept B p vo va vs { t with CZ:=true } w ((w.drewN q).setCell ⟨p,5,none⟩ (.bool true))):=fun q=>Mk ((Kept.refl a.out).drewN q)
   go_enter func205,ntmps205
   go_wp2_with (go_at_call 182;refine (Bc _ a.out).mono ?_;rw [hd];rintro e c ⟨rfl,rfl⟩)
   go_quiet (fail)
   go_wp2
   go_ret
   exact ⟨rfl,K.out _⟩
  ·have b:t.Aw<t.s.size:=zO;rw [Tr.FB hd b];have K:Hid (∀ q d,Kept B p vo va vs { t with Aw:=t.Aw+1 } w (((w.drewN q).setCell ⟨p,2,none⟩ (.int .i64 ((t.Aw+1:Nat):Int))).drewN d)):=fun q d=>(UU ((Kept.refl a.out).drewN q) _).drewN d
   have f:=hid (Ut t.s t.Aw b);have g:((t.s[t.Aw]).toNat:Int)<=255:=by rw [f.out];have:=Ex t.s t.Aw;omega
   go_enter func205,ntmps205
   go_wp2_with (go_at_call 182;refine (Bc _ a.out).mono ?_;rw [hd];rintro e c ⟨rfl,rfl⟩)
   go_quiet (fail)
   go_wp2
   go_quiet (fail)
   go_wp2
   go_ret
   exact ⟨by rw [<- f.out];rfl,K.out _ _⟩
 ·rw [Tr.Fq hd];go_enter func205,ntmps205
  go_wp2_with (go_at_call 182;refine (Bc _ a.out).mono ?_;rw [hd];rintro e c ⟨rfl,rfl⟩)
  go_ret
  exact ⟨rfl,Kept.refl a.out⟩
theorem eV{t:Tr}(w:World)(h:Ft B p vo va vs t w)(d:t.Ao)(hs:t.s.size<=maxLen) :
  Calls prog 197 #[.pointer (some ⟨p,0,none⟩)] w fun x r=>x= .returned (.int .i64 t.bit.1)/\Kept B p vo va vs t.bit.2 w r:=by
 have u:Hid t.Ao:=d;have l:=hid hs;have g:=hid h;have j:w.cell? ⟨p,8,none⟩=some (.int .i64 t.left):=h.row.cell (i:=8) zO;have q:=d.left;by_cases hl:t.left=0
 ·have o:w.cell? ⟨p,8,none⟩=some (.int .i64 0):=by rw [j,hl];rfl
  clear j h d hs;have a:t.load={ t.Ad.2 with cur:=t.Ad.1,left:=8 }:=Tr.DB hl;have ho:=Tr.Dl t;have K:Hid (∀ w1,Kept B p vo va vs t.Ad.2 w w1->Kept B p vo va vs t.bit.2 w ((((w1.setCell ⟨p,7,none⟩ (.int .i64 t.Ad.1)).setCell ⟨p,8,none⟩ (.int .i64 8)).setCell ⟨p,7,none⟩ (.int .i64 ((t.Ad.1:Int) / 2))).setCell ⟨p,8,none⟩ (.int .i64 7))):=by
   intro w1 h1;have k:=JK (Ya (JK (Ya h1 t.Ad.1) 8) (t.Ad.1 / 2)) 7;rw [show ((t.Ad.1 / 2:Nat):Int)=(t.Ad.1:Int) / 2 by omega] at k;have e:t.bit.2={ t.Ad.2 with cur:=t.Ad.1 / 2,left:=7 }:=by
    show ({ t.load with cur:=t.load.cur / 2,left:=t.load.left - 1 }:Tr)=_;rw [a];rfl
   rw [e];exact k
  have c:t.bit.1=t.Ad.1%2:=by show t.load.cur%2=_;rw [a]
  rw [c];clear a c;go_enter func197,ntmps197
  go_wp2_with fail
  refine (Gc _ g.out l.out).mono ?_;rintro e w1 ⟨rfl,b⟩;have v:=b.inv.row.cell (i:=7) zO;have y:=b.inv.row.cell (i:=8) zO;have D:=b.inv.row.frozen 7;have E:=b.inv.row.frozen 8;have n:=hid b;clear b;go_wp2
  go_ret
  exact ⟨zS,K.out _ n.out⟩
 ·have f:0<t.left:=zO;have a:=Tr.Ib f;have z:w.cell? ⟨p,7,none⟩=some (.int .i64 t.cur):=h.row.cell (i:=7) zO;have A:=h.row.frozen 7;have C:=h.row.frozen 8;have hc:=d.cur;clear h d hs;have K:Hid (Kept B p vo va vs t.bit.2 w ((w.setCell ⟨p,7,none⟩ (.int .i64 ((t.cur:Int) / 2))).setCell ⟨p,8,none⟩ (.int .i64 ((t.left:Int) - 1)))):=by
   have k:=JK (Ya (Kept.refl g.out) (t.cur / 2)) (t.left - 1);rw [show ((t.cur / 2:Nat):Int)=(t.cur:Int) / 2 by omega,show ((t.left - 1:Nat):Int)=(t.left:Int) - 1 by omega] at k;have e:t.bit.2={ t with cur:=t.cur / 2,left:=t.left - 1 }:=by
    show ({ t.load with cur:=t.load.cur / 2,left:=t.load.left - 1 }:Tr)=_;rw [a]
   show Kept _ _ _ _ _ _ _ _;rw [e];exact k
  have c:t.bit.1=t.cur%2:=by show t.load.cur%2=_;rw [a]
  rw [c];clear a c;go_enter func197,ntmps197
  go_wp2
  go_ret
  exact ⟨zS,K.out⟩
end Go.Proofs.YtbcjmakpempkiaaGreatDoor
