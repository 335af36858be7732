import Derived.BigRegion
import Derived.Deep.MidRow
import Derived.Laws.Bits64
import Derived.Laws.BitsLemmas
import Derived.Laws.ShiftsVarLaws
import Derived.RegionTactic
import Derived.Test.YtbcjmakpempkiaaGreatDoorX02
set_option maxRecDepth 100000
set_option maxHeartbeats 8000000
set_option linter.all false
namespace Go.Proofs.YtbcjmakpempkiaaGreatDoor
open Go.RowKit
theorem jp3(n:Int)(h₀:0<=n)(h₁:n<2^64):IntKind.u64.wrap n=n:=by
 rw [IntKind.wrap_u64];have:(2:Int)^64=18446744073709551616:=by decide
 omega
theorem jc5{k:Nat}(hk:k<=63):2^k<2^64:=Nat.pow_lt_pow_right (by decide) (by omega)
theorem vxu{a j:Nat}(h:a<2^j):(a:Int)<2^j:=by exact_mod_cast h
theorem vnv(h c b:Nat)(hb:b<256)(hc:c<=56)(hh:h<2^c):bits .or .u64 (h:Int) (IntKind.u64.wrap ((b:Int)*2^c))=((h+2^c*b:Nat):Int):=by
 have h8:2^c*b<2^64:=by
  have h1:2^c*b<2^c*2^8:=Nat.mul_lt_mul_of_pos_left hb (Nat.two_pow_pos c);rw [← Nat.pow_add] at h1;exact Nat.lt_of_lt_of_le h1 (Nat.pow_le_pow_right (by decide) (by omega))
 have e:(b:Int)*2^c=((2^c*b:Nat):Int):=by rw [Nat.mul_comm];simp
 have hh2:h<2^64:=Nat.lt_of_lt_of_le hh (Nat.pow_le_pow_right (by decide) (by omega));rw [e,jp3 _ (by omega) (vxu h8),(bits_nat .u64 64 (by decide) jp3 h _ hh2 h8).2,Nat.or_comm,← Nat.two_pow_add_eq_or_of_lt hh,Nat.add_comm]
theorem kar(h k:Nat)(hk:k<=63)(hh:h<2^64):bits .and .u64 (h:Int) (IntKind.u64.wrap (IntKind.u64.wrap (2^k) - 1))=((h%2^k:Nat):Int):=by
 have e:((2:Int)^k)=((2^k:Nat):Int):=by simp
 have hp:=Nat.two_pow_pos k;have hl:=jc5 hk;have e2:((2^k:Nat):Int) - 1=((2^k - 1:Nat):Int):=by omega
 rw [e,jp3 _ (by omega) (vxu hl),e2,jp3 _ (by omega) (vxu (by omega)),(bits_nat .u64 64 (by decide) jp3 h _ hh (by omega)).1,Nat.and_two_pow_sub_one_eq_mod]
theorem vwe(h:Nat)(hh:h<2^64):bits .and .u64 (h:Int) 1=((h%2:Nat):Int):=by
 have:=bits_mask .u64 64 (by decide) jp3 1 (by decide) (h:Int) (by omega) (vxu hh);have e:((2:Int)^1 - 1)=1:=by decide
 rw [e] at this;rw [this];simp
theorem jnx(n:Nat)(h:n<2^63):wrap64 (n:Int)=(n:Int):=by
 have h2:(2:Nat)^63=9223372036854775808:=by decide
 exact IntWalk.wrap64_in _ ⟨by omega,by omega⟩
theorem z7y(g o h c b:Nat)(w:World)(hb:b<256)(hc:c<=56)(hh:h<2^c)
  (c1:w.cell? ⟨g,o,none⟩=some (.int .u64 h)) (c2:w.cell? ⟨g,o+1,none⟩=some (.int .i64 c)) (f1:w.frozen? ⟨g,o,none⟩=false) (f2:w.frozen? ⟨g,o+1,none⟩=false) :
  Calls Tryz.prog 188 #[.pointer (some ⟨g,o,none⟩), .int .u8 b] w fun x w'=>x= .returned (.tuple #[])∧∃ n,w'=((w.drewN n).setCell ⟨g,o,none⟩ (.int .u64 (h+2^c*b:Nat))).setCell ⟨g,o+1,none⟩ (.int .i64 (c+8:Nat)):=by
 go_enter Tryz.func188,Tryz.ntmps188
 go_wp2_with fail
 go_region
 all_goals
  go_wp2_with fail
  go_end0
  refine ⟨rfl,1,?_⟩;rw [vnv h c b hb hc hh];rfl
theorem zto(g o h c k:Nat)(w:World)(hk:k<=c)(hc:c<=63)(hh:h<2^c)
  (c1:w.cell? ⟨g,o,none⟩=some (.int .u64 h)) (c2:w.cell? ⟨g,o+1,none⟩=some (.int .i64 c)) (f1:w.frozen? ⟨g,o,none⟩=false) (f2:w.frozen? ⟨g,o+1,none⟩=false) :
  Calls Tryz.prog 134 #[.pointer (some ⟨g,o,none⟩), .int .i64 k] w fun x w'=>x= .returned (.int .i64 (h%2^k:Nat))∧∃ n,w'=((w.drewN n).setCell ⟨g,o,none⟩ (.int .u64 (h / 2^k:Nat))).setCell ⟨g,o+1,none⟩ (.int .i64 (c - k:Nat)):=by
 go_enter Tryz.func134,Tryz.ntmps134
 go_wp2_with fail
 go_quiet (fail)
 go_wp2_with fail
 go_ret
 have hh2:h<2^64:=Nat.lt_of_lt_of_le hh (Nat.pow_le_pow_right (by decide) (by omega));have h63:h%2^k<2^63:=Nat.lt_of_lt_of_le (Nat.mod_lt _ (Nat.two_pow_pos k)) (Nat.pow_le_pow_right (by decide) (by omega));refine ⟨?_,nq,?_⟩
 ·show Ending.returned (Value.int .i64 (wrap64 (bits BinOp.and IntKind.u64 (h:Int) (IntKind.u64.wrap (IntKind.u64.wrap (2^k) - 1)))))=_;rw [kar h k (by omega) hh2,jnx _ h63]
 ·have e1:(h:Int) / 2^k=((h / 2^k:Nat):Int):=by simp
  have e2:(c:Int) - k=((c - k:Nat):Int):=by omega
  rw [e1,e2]
theorem yci(g o h c k:Nat)(w:World)(hk:k<c)(hc:c<=63)(hh:h<2^c)
  (c1:w.cell? ⟨g,o,none⟩=some (.int .u64 h)) :
  Calls Tryz.prog 171 #[.pointer (some ⟨g,o,none⟩), .int .i64 k] w fun x w'=>x= .returned (.int .i64 (h / 2^k%2:Nat))∧∃ n,w'=w.drewN n:=by
 go_enter Tryz.func171,Tryz.ntmps171
 go_wp2_with fail
 go_ret
 have hh2:h / 2^k<2^64:=Nat.lt_of_le_of_lt (Nat.div_le_self _ _) (Nat.lt_of_lt_of_le hh (Nat.pow_le_pow_right (by decide) (by omega)));refine ⟨?_,0,rfl⟩;show Ending.returned (Value.int .i64 (wrap64 (bits BinOp.and IntKind.u64 ((h:Int) / 2^k) 1)))=_;have e1:(h:Int) / 2^k=((h / 2^k:Nat):Int):=by simp
 rw [e1,vwe _ hh2,jnx _ (by omega)]
def cfgV(fm ou ra sl me he sp:Nat):Array Value:=#[.int .i64 fm, .int .i64 ou, .int .i64 ra, .int .i64 sl, .int .i64 me, .int .i64 he, .int .i64 sp]
def talV(tk pu mb:Nat):Array Value:=#[.int .i64 tk, .int .i64 pu, .int .i64 mb]
theorem jep(tk pu mb:Nat)(w:World)(h:tk+pu<=9223372036854775807) :
  Calls Tryz.prog 58 #[.agg (talV tk pu mb)] w fun x w'=>x= .returned (.int .i64 (tk+pu:Nat))∧Below w.heap.size w w':=by
 unfold talV;go_enter Tryz.func58,Tryz.ntmps58
 go_wp2_with fail
 go_ret
 refine ⟨?_,(Below.refl _ _).alloc (Nat.le_refl _) _⟩;show Ending.returned (Value.int .i64 _)=_;simp
structure TwoB(w W:World)(g:Nat)(fm ou ra sl me he sp tk pu mb:Nat):Prop where
 t0:W.cell? ⟨g,0,none⟩=some (.int .i64 tk)
 t1:W.cell? ⟨g,1,none⟩=some (.int .i64 pu)
 t2:W.cell? ⟨g,2,none⟩=some (.int .i64 mb)
 c1:W.cell? ⟨g+1,1,none⟩=some (.int .i64 ou)
 c2:W.cell? ⟨g+1,2,none⟩=some (.int .i64 ra)
 c3:W.cell? ⟨g+1,3,none⟩=some (.int .i64 sl)
 c6:W.cell? ⟨g+1,6,none⟩=some (.int .i64 sp)
 bel:Below w.heap.size w W
 g2:g+1<W.heap.size
theorem TwoB.mk2(w:World)(fm ou ra sl me he sp tk pu mb T U:Nat):TwoB w ((w.alloc (.cells (talV tk pu mb) T)).alloc (.cells (cfgV fm ou ra sl me he sp) U)) w.heap.size fm ou ra sl me he sp tk pu mb:=by
 unfold talV cfgV;have a:∀ i,((w.alloc (.cells #[.int .i64 tk, .int .i64 pu, .int .i64 mb] T)).alloc (.cells #[.int .i64 fm, .int .i64 ou, .int .i64 ra, .int .i64 sl, .int .i64 me, .int .i64 he, .int .i64 sp] U)).cell? ⟨w.heap.size,i,none⟩=(w.alloc (.cells #[.int .i64 tk, .int .i64 pu, .int .i64 mb] T)).cell? ⟨w.heap.size,i,none⟩:=fun i=>by
  unfold World.cell?;rw [Go.heap_alloc_old _ _ (by simp)]
 refine ⟨by rw [a];simp,by rw [a];simp,by rw [a];simp,?_,?_,?_,?_,((Below.refl _ _).alloc (Nat.le_refl _) _).alloc (by simp) _,by simp⟩;all_goals
  have:=heap_alloc_new (w.alloc (.cells #[.int .i64 tk, .int .i64 pu, .int .i64 mb] T)) (.cells #[.int .i64 fm, .int .i64 ou, .int .i64 ra, .int .i64 sl, .int .i64 me, .int .i64 he, .int .i64 sp] U);simp only [World.size_alloc] at this;unfold World.cell?;rw [this];rfl
theorem TwoB.step{w W W':World}{g:Nat}{fm ou ra sl me he sp tk pu mb:Nat}(h:TwoB w W g fm ou ra sl me he sp tk pu mb)(b:Below W.heap.size W W'):TwoB w W' g fm ou ra sl me he sp tk pu mb:=by
 have l:g<W.heap.size:=by have:=h.g2;omega
 exact ⟨(b.cell l).trans h.t0,(b.cell l).trans h.t1,(b.cell l).trans h.t2,(b.cell h.g2).trans h.c1,(b.cell h.g2).trans h.c2,(b.cell h.g2).trans h.c3,(b.cell h.g2).trans h.c6,h.bel.trans (b.mono h.bel.size),Nat.lt_of_lt_of_le h.g2 b.size⟩
theorem x44(fm ou ra sl me he sp tk pu mb:Nat)(w:World)(h:tk+pu<=9223372036854775807)(hsp:sp<=9223372036854775807) :
  Calls Tryz.prog 187 #[.agg (talV tk pu mb), .agg (cfgV fm ou ra sl me he sp)] w fun x w'=>x= .returned (.int .i64 (if sp<=tk+pu then 16 else 0:Nat))∧Below w.heap.size w w':=by
 have HS:Hid (∀ w,Calls Tryz.prog 58 #[.agg (talV tk pu mb)] w fun x w'=>x= .returned (.int .i64 (tk+pu:Nat))∧Below w.heap.size w w'):=fun w=>jep tk pu mb w h
 have T0:TwoB w ((w.alloc (.cells (talV tk pu mb) 110)).alloc (.cells (cfgV fm ou ra sl me he sp) 42)) w.heap.size fm ou ra sl me he sp tk pu mb:=TwoB.mk2 w fm ou ra sl me he sp tk pu mb _ _;unfold talV cfgV at *;obtain ⟨n,hn⟩:∃ n,n=tk+pu:=⟨_,rfl⟩
 rw [← hn] at HS h ⊢;clear hn;by_cases hc:sp<=n
 ·rw [if_pos hc];have hci:(sp:Int)<=n:=by omega
  go_enter Tryz.func187,Tryz.ntmps187
  go_wp2_with fail
  have HT:Hid (TwoB w ((w.alloc (.cells #[.int .i64 tk, .int .i64 pu, .int .i64 mb] 110)).alloc (.cells #[.int .i64 fm, .int .i64 ou, .int .i64 ra, .int .i64 sl, .int .i64 me, .int .i64 he, .int .i64 sp] 42)) w.heap.size fm ou ra sl me he sp tk pu mb):=T0;clear T0;generalize ((w.alloc (.cells #[.int .i64 tk, .int .i64 pu, .int .i64 mb] 110)).alloc (.cells #[.int .i64 fm, .int .i64 ou, .int .i64 ra, .int .i64 sl, .int .i64 me, .int .i64 he, .int .i64 sp] 42))=W at *;have t0:=HT.out.t0;have t1:=HT.out.t1;have t2:=HT.out.t2;have c6:=HT.out.c6;have HB:Hid (TwoB w W w.heap.size fm ou ra sl me he sp tk pu mb):=HT.out;have hg2:=HT.out.g2;go_region_held3 (fun wv=>wv.cell? ⟨w.heap.size,0,none⟩=some (.int .i64 tk)∧wv.cell? ⟨w.heap.size,1,none⟩=some (.int .i64 pu)∧wv.cell? ⟨w.heap.size,2,none⟩=some (.int .i64 mb)∧wv.cell? ⟨w.heap.size+1,6,none⟩=some (.int .i64 sp)) (first | exact ⟨t0,t1,t2,c6⟩ | exact ⟨k0,k1,k2,k6⟩)
   (first | (go_at_call 58;refine (HS.out _).mono ?_;rintro e w3 ⟨rfl,hb3⟩;have HT3:Hid (TwoB w w3 w.heap.size fm ou ra sl me he sp tk pu mb):=TwoB.step HB.out (W':=w3) ⟨hb3.os,hb3.tape,hb3.output,hb3.size,hb3.block⟩;have k0:=HT3.out.t0;have k1:=HT3.out.t1;have k2:=HT3.out.t2;have k6:=HT3.out.c6;clear hb3))
  all_goals
   go_wp2_with fail
   go_ret
   exact ⟨rfl,HT3.out.bel⟩
 ·rw [if_neg hc];have hci:¬ (sp:Int)<=n:=by omega
  go_enter Tryz.func187,Tryz.ntmps187
  go_wp2_with fail
  have HT:Hid (TwoB w ((w.alloc (.cells #[.int .i64 tk, .int .i64 pu, .int .i64 mb] 110)).alloc (.cells #[.int .i64 fm, .int .i64 ou, .int .i64 ra, .int .i64 sl, .int .i64 me, .int .i64 he, .int .i64 sp] 42)) w.heap.size fm ou ra sl me he sp tk pu mb):=T0;clear T0;generalize ((w.alloc (.cells #[.int .i64 tk, .int .i64 pu, .int .i64 mb] 110)).alloc (.cells #[.int .i64 fm, .int .i64 ou, .int .i64 ra, .int .i64 sl, .int .i64 me, .int .i64 he, .int .i64 sp] 42))=W at *;have t0:=HT.out.t0;have t1:=HT.out.t1;have t2:=HT.out.t2;have c6:=HT.out.c6;have HB:Hid (TwoB w W w.heap.size fm ou ra sl me he sp tk pu mb):=HT.out;have hg2:=HT.out.g2;go_region_held3 (fun wv=>wv.cell? ⟨w.heap.size,0,none⟩=some (.int .i64 tk)∧wv.cell? ⟨w.heap.size,1,none⟩=some (.int .i64 pu)∧wv.cell? ⟨w.heap.size,2,none⟩=some (.int .i64 mb)∧wv.cell? ⟨w.heap.size+1,6,none⟩=some (.int .i64 sp)) (first | exact ⟨t0,t1,t2,c6⟩ | exact ⟨k0,k1,k2,k6⟩)
   (first | (go_at_call 58;refine (HS.out _).mono ?_;rintro e w3 ⟨rfl,hb3⟩;have HT3:Hid (TwoB w w3 w.heap.size fm ou ra sl me he sp tk pu mb):=TwoB.step HB.out (W':=w3) ⟨hb3.os,hb3.tape,hb3.output,hb3.size,hb3.block⟩;have k0:=HT3.out.t0;have k1:=HT3.out.t1;have k2:=HT3.out.t2;have k6:=HT3.out.c6;clear hb3))
  all_goals
   go_wp2_with fail
   go_ret
   exact ⟨rfl,HT3.out.bel⟩
theorem xxj(fm ou ra sl me he sp tk pu mb:Nat)(w:World)(h:tk+pu<=9223372036854775807)(hsp:sp<=9223372036854775807)(hra:ra*tk+sl<=9223372036854775807)(hou:ou<=9223372036854775807) :
  Calls Tryz.prog 166 #[.agg (talV tk pu mb), .agg (cfgV fm ou ra sl me he sp)] w fun x w'=>x= .returned (.int .i64 (if sp<=tk+pu then 16 else if ou<=pu then 17 else if ra*tk+sl<=pu then 18 else 0:Nat))∧Below w.heap.size w w':=by
 have HS:Hid (∀ w,Calls Tryz.prog 58 #[.agg (talV tk pu mb)] w fun x w'=>x= .returned (.int .i64 (tk+pu:Nat))∧Below w.heap.size w w'):=fun w=>jep tk pu mb w h
 have T0:TwoB w ((w.alloc (.cells (talV tk pu mb) 110)).alloc (.cells (cfgV fm ou ra sl me he sp) 42)) w.heap.size fm ou ra sl me he sp tk pu mb:=TwoB.mk2 w fm ou ra sl me he sp tk pu mb _ _;unfold talV cfgV at *;obtain ⟨n,hn⟩:∃ n,n=tk+pu:=⟨_,rfl⟩
 rw [← hn] at HS h ⊢;have hpn:pu<=n∧tk<=n:=by omega
 clear hn;obtain ⟨R,hR⟩:∃ R,R=ra*tk:=⟨_,rfl⟩
 rw [← hR] at hra ⊢;have hRi:(ra:Int)*tk=(R:Int):=by rw [hR];simp
 clear hR;by_cases hc:sp<=n
 ·rw [if_pos hc];have hci:(sp:Int)<=n:=by omega
  go_enter Tryz.func166,Tryz.ntmps166
  go_wp2_with fail
  have HT:Hid (TwoB w ((w.alloc (.cells #[.int .i64 tk, .int .i64 pu, .int .i64 mb] 110)).alloc (.cells #[.int .i64 fm, .int .i64 ou, .int .i64 ra, .int .i64 sl, .int .i64 me, .int .i64 he, .int .i64 sp] 42)) w.heap.size fm ou ra sl me he sp tk pu mb):=T0;clear T0;generalize ((w.alloc (.cells #[.int .i64 tk, .int .i64 pu, .int .i64 mb] 110)).alloc (.cells #[.int .i64 fm, .int .i64 ou, .int .i64 ra, .int .i64 sl, .int .i64 me, .int .i64 he, .int .i64 sp] 42))=W at *;have t0:=HT.out.t0;have t1:=HT.out.t1;have t2:=HT.out.t2;have c6:=HT.out.c6;have HB:Hid (TwoB w W w.heap.size fm ou ra sl me he sp tk pu mb):=HT.out;have hg2:=HT.out.g2;go_region_held3 (fun wv=>wv.cell? ⟨w.heap.size,0,none⟩=some (.int .i64 tk)∧wv.cell? ⟨w.heap.size,1,none⟩=some (.int .i64 pu)∧wv.cell? ⟨w.heap.size,2,none⟩=some (.int .i64 mb)∧wv.cell? ⟨w.heap.size+1,6,none⟩=some (.int .i64 sp)) (first | exact ⟨t0,t1,t2,c6⟩ | exact ⟨k0,k1,k2,k6⟩)
   (first | (go_at_call 58;refine (HS.out _).mono ?_;rintro e w3 ⟨rfl,hb3⟩;have HT3:Hid (TwoB w w3 w.heap.size fm ou ra sl me he sp tk pu mb):=TwoB.step HB.out (W':=w3) ⟨hb3.os,hb3.tape,hb3.output,hb3.size,hb3.block⟩;have k0:=HT3.out.t0;have k1:=HT3.out.t1;have k2:=HT3.out.t2;have k6:=HT3.out.c6;clear hb3))
  all_goals
   have k3:=HT3.out.c1;have k4:=HT3.out.c2;have k5:=HT3.out.c3;go_wp2_with fail
   go_ret
   exact ⟨rfl,HT3.out.bel⟩
 ·rw [if_neg hc];have hci:¬ (sp:Int)<=n:=by omega
  by_cases hd:ou<=pu
  ·rw [if_pos hd];have hdi:(ou:Int)<=pu:=by omega
   go_enter Tryz.func166,Tryz.ntmps166
   go_wp2_with fail
   have HT:Hid (TwoB w ((w.alloc (.cells #[.int .i64 tk, .int .i64 pu, .int .i64 mb] 110)).alloc (.cells #[.int .i64 fm, .int .i64 ou, .int .i64 ra, .int .i64 sl, .int .i64 me, .int .i64 he, .int .i64 sp] 42)) w.heap.size fm ou ra sl me he sp tk pu mb):=T0;clear T0;generalize ((w.alloc (.cells #[.int .i64 tk, .int .i64 pu, .int .i64 mb] 110)).alloc (.cells #[.int .i64 fm, .int .i64 ou, .int .i64 ra, .int .i64 sl, .int .i64 me, .int .i64 he, .int .i64 sp] 42))=W at *;have t0:=HT.out.t0;have t1:=HT.out.t1;have t2:=HT.out.t2;have c6:=HT.out.c6;have HB:Hid (TwoB w W w.heap.size fm ou ra sl me he sp tk pu mb):=HT.out;have hg2:=HT.out.g2;go_region_held3 (fun wv=>wv.cell? ⟨w.heap.size,0,none⟩=some (.int .i64 tk)∧wv.cell? ⟨w.heap.size,1,none⟩=some (.int .i64 pu)∧wv.cell? ⟨w.heap.size,2,none⟩=some (.int .i64 mb)∧wv.cell? ⟨w.heap.size+1,6,none⟩=some (.int .i64 sp)) (first | exact ⟨t0,t1,t2,c6⟩ | exact ⟨k0,k1,k2,k6⟩)
    (first | (go_at_call 58;refine (HS.out _).mono ?_;rintro e w3 ⟨rfl,hb3⟩;have HT3:Hid (TwoB w w3 w.heap.size fm ou ra sl me he sp tk pu mb):=TwoB.step HB.out (W':=w3) ⟨hb3.os,hb3.tape,hb3.output,hb3.size,hb3.block⟩;have k0:=HT3.out.t0;have k1:=HT3.out.t1;have k2:=HT3.out.t2;have k6:=HT3.out.c6;clear hb3))
   all_goals
    have k3:=HT3.out.c1;have k4:=HT3.out.c2;have k5:=HT3.out.c3;go_wp2_with fail
    go_ret
    exact ⟨rfl,HT3.out.bel⟩
  ·rw [if_neg hd];have hdi:¬ (ou:Int)<=pu:=by omega
   by_cases hf:R+sl<=pu
   ·rw [if_pos hf];have hei:(R:Int)+sl<=pu:=by omega
    go_enter Tryz.func166,Tryz.ntmps166
    go_wp2_with fail
    have HT:Hid (TwoB w ((w.alloc (.cells #[.int .i64 tk, .int .i64 pu, .int .i64 mb] 110)).alloc (.cells #[.int .i64 fm, .int .i64 ou, .int .i64 ra, .int .i64 sl, .int .i64 me, .int .i64 he, .int .i64 sp] 42)) w.heap.size fm ou ra sl me he sp tk pu mb):=T0;clear T0;generalize ((w.alloc (.cells #[.int .i64 tk, .int .i64 pu, .int .i64 mb] 110)).alloc (.cells #[.int .i64 fm, .int .i64 ou, .int .i64 ra, .int .i64 sl, .int .i64 me, .int .i64 he, .int .i64 sp] 42))=W at *;have t0:=HT.out.t0;have t1:=HT.out.t1;have t2:=HT.out.t2;have c6:=HT.out.c6;have HB:Hid (TwoB w W w.heap.size fm ou ra sl me he sp tk pu mb):=HT.out;have hg2:=HT.out.g2;go_region_held3 (fun wv=>wv.cell? ⟨w.heap.size,0,none⟩=some (.int .i64 tk)∧wv.cell? ⟨w.heap.size,1,none⟩=some (.int .i64 pu)∧wv.cell? ⟨w.heap.size,2,none⟩=some (.int .i64 mb)∧wv.cell? ⟨w.heap.size+1,6,none⟩=some (.int .i64 sp)) (first | exact ⟨t0,t1,t2,c6⟩ | exact ⟨k0,k1,k2,k6⟩)
     (first | (go_at_call 58;refine (HS.out _).mono ?_;rintro e w3 ⟨rfl,hb3⟩;have HT3:Hid (TwoB w w3 w.heap.size fm ou ra sl me he sp tk pu mb):=TwoB.step HB.out (W':=w3) ⟨hb3.os,hb3.tape,hb3.output,hb3.size,hb3.block⟩;have k0:=HT3.out.t0;have k1:=HT3.out.t1;have k2:=HT3.out.t2;have k6:=HT3.out.c6;clear hb3))
    all_goals
     have k3:=HT3.out.c1;have k4:=HT3.out.c2;have k5:=HT3.out.c3;go_wp2_with fail
     go_ret
     exact ⟨rfl,HT3.out.bel⟩
   ·rw [if_neg hf];have hei:¬ (R:Int)+sl<=pu:=by omega
    go_enter Tryz.func166,Tryz.ntmps166
    go_wp2_with fail
    have HT:Hid (TwoB w ((w.alloc (.cells #[.int .i64 tk, .int .i64 pu, .int .i64 mb] 110)).alloc (.cells #[.int .i64 fm, .int .i64 ou, .int .i64 ra, .int .i64 sl, .int .i64 me, .int .i64 he, .int .i64 sp] 42)) w.heap.size fm ou ra sl me he sp tk pu mb):=T0;clear T0;generalize ((w.alloc (.cells #[.int .i64 tk, .int .i64 pu, .int .i64 mb] 110)).alloc (.cells #[.int .i64 fm, .int .i64 ou, .int .i64 ra, .int .i64 sl, .int .i64 me, .int .i64 he, .int .i64 sp] 42))=W at *;have t0:=HT.out.t0;have t1:=HT.out.t1;have t2:=HT.out.t2;have c6:=HT.out.c6;have HB:Hid (TwoB w W w.heap.size fm ou ra sl me he sp tk pu mb):=HT.out;have hg2:=HT.out.g2;go_region_held3 (fun wv=>wv.cell? ⟨w.heap.size,0,none⟩=some (.int .i64 tk)∧wv.cell? ⟨w.heap.size,1,none⟩=some (.int .i64 pu)∧wv.cell? ⟨w.heap.size,2,none⟩=some (.int .i64 mb)∧wv.cell? ⟨w.heap.size+1,6,none⟩=some (.int .i64 sp)) (first | exact ⟨t0,t1,t2,c6⟩ | exact ⟨k0,k1,k2,k6⟩)
     (first | (go_at_call 58;refine (HS.out _).mono ?_;rintro e w3 ⟨rfl,hb3⟩;have HT3:Hid (TwoB w w3 w.heap.size fm ou ra sl me he sp tk pu mb):=TwoB.step HB.out (W':=w3) ⟨hb3.os,hb3.tape,hb3.output,hb3.size,hb3.block⟩;have k0:=HT3.out.t0;have k1:=HT3.out.t1;have k2:=HT3.out.t2;have k6:=HT3.out.c6;clear hb3))
    all_goals
     have k3:=HT3.out.c1;have k4:=HT3.out.c2;have k5:=HT3.out.c3;go_wp2_with fail
     go_ret
     exact ⟨rfl,HT3.out.bel⟩
def vtb(b k:Nat):Array Value:=#[.int .i64 (Tr.spanLeast b k), .int .i64 (Tr.spanBits k)]
theorem xtd(cs:Array Value)(h:cs.size=2):(Tryz.prog.info? 125).map (·.size)=some cs.size:=by rw [h];kernel_rfl
theorem kqk{b k:Nat}(hb:b<=3)(h4:¬ k<4)(hk:k<=15):wrap64 ((b:Int)+wrap64 ((2+(k:Int)%2)*2^((k - 2) / 2)))=(Tr.spanLeast b k:Int)∧((k:Int) - 2) / 2=(Tr.spanBits k:Int):=by
 have:k=4∨k=5∨k=6∨k=7∨k=8∨k=9∨k=10∨k=11∨k=12∨k=13∨k=14∨k=15:=by omega
 rcases this with rfl | rfl | rfl | rfl | rfl | rfl | rfl | rfl | rfl | rfl | rfl | rfl <;> (simp [Tr.spanLeast,Tr.spanBits,wrap64];try omega)
theorem jbk(b k:Nat)(w:World)(hb:b<=3)(hk:k<=15) :
  Calls Tryz.prog 210 #[.int .i64 k, .int .i64 b] w fun x w'=>x= .returned (.agg (vtb b k))∧Below w.heap.size w w':=by
 by_cases h4:k<4
 ·have e:vtb b k=#[.int .i64 ((b:Int)+k), .int .i64 0]:=by unfold vtb;rw [show Tr.spanLeast b k=b+k from if_pos h4,show Tr.spanBits k=0 from if_pos h4];simp
  rw [e];clear e;go_enter Tryz.func210,Tryz.ntmps210
  go_wp2_with fail
  refine bodyPost_ret (v:= .agg #[.int .i64 ((b:Int)+k), .int .i64 0]) ?_ rfl ?_
  ·exact results_cell_row Tryz.results210 _ _ _ 125 _ _ _ rfl (heap_alloc_new _ _) Tryz.underlying125 rfl (xtd _ rfl)
  ·exact ⟨rfl,(Below.refl _ _).alloc (Nat.le_refl _) _⟩
 ·have HN:Hid (True->vtb b k=#[.int .i64 (wrap64 ((b:Int)+wrap64 ((2+(k:Int)%2)*2^((k - 2) / 2)))), .int .i64 (((k:Int) - 2) / 2)]):=fun _=>by
   have h:=kqk hb h4 hk;unfold vtb;rw [h.1,h.2]
  go_enter Tryz.func210,Tryz.ntmps210
  go_wp2_with fail
  refine bodyPost_ret (v:= .agg #[.int .i64 (wrap64 ((b:Int)+wrap64 ((2+(k:Int)%2)*2^((k - 2) / 2)))), .int .i64 (((k:Int) - 2) / 2)]) ?_ rfl ?_
  ·exact results_cell_row Tryz.results210 _ _ _ 125 _ _ _ rfl (heap_alloc_new _ _) Tryz.underlying125 rfl (xtd _ rfl)
  ·exact ⟨by rw [HN.out trivial],(Below.refl _ _).alloc (Nat.le_refl _) _⟩
theorem x00(k:Nat)(w:World)(hk:k<=15) :
  Calls Tryz.prog 194 #[.int .i64 k] w fun x w'=>x= .returned (.agg (vtb 1 k))∧Below w.heap.size w w':=by
 have B0:Below w.heap.size w (w.alloc (.cells #[.int .i64 0, .int .i64 0] 125)):=(Below.refl _ _).alloc (Nat.le_refl _) _;have HB0:Hid (Below w.heap.size w (w.alloc (.cells #[.int .i64 0, .int .i64 0] 125))):=B0;clear B0;go_enter Tryz.func194,Tryz.ntmps194
 go_wp2_with fail
 refine (jbk 1 k _ (by omega) hk).mono ?_;rintro e w1 ⟨rfl,hb1⟩;have h1:w1.heap[w.heap.size]?=some (.cells #[.int .i64 0, .int .i64 0] 125 (0,0)):=(hb1.block _ (by simp)).trans (heap_alloc_new _ _);have HB1:Hid (Below w.heap.size w w1):=y6y HB0.out hb1;obtain ⟨cs,hcs⟩:∃ cs,cs=vtb 1 k:=⟨_,rfl⟩
 have hsz:cs.size=2:=by rw [hcs];rfl
 have hone:cs.all (·.oneCell')=true:=by rw [hcs];simp [vtb,Value.oneCell']
 rw [← hcs];have HCS:Hid (True->cs=vtb 1 k):=fun _=>hcs
 clear hcs hb1;go_wp2_with (refine wpList_store_row rfl 125 _ _ rfl w.heap.size cs rfl rfl 125 _ h1 (xtd _ hsz) hsz.symm hone ?_)
 refine bodyPost_ret (v:= .agg cs) ?_ rfl ?_
 ·exact results_cell_row Tryz.results194 _ _ _ 125 _ _ _ rfl (setRow_heap _ _ _ _ 125 _ h1) Tryz.underlying125 rfl (xtd _ hsz)
 ·exact ⟨by rw [HCS.out trivial],below_setRow HB1.out (Nat.le_refl _) _⟩
def litC(k:Nat):Array Value:=
 if k<256 then #[.int .i64 0, .int .u8 k, .int .i64 0, .int .i64 0]
 else if k=256 then #[.int .i64 1, .int .u8 0, .int .i64 0, .int .i64 0]
 else #[.int .i64 2, .int .u8 0, .int .i64 (Tr.spanLeast 3 (k - 257)), .int .i64 (Tr.spanBits (k - 257))]
def v3q(k:Nat):Array Value:=
 if k=12 then #[.int .i64 0, .bool true, .int .i64 3, .int .i64 2]
 else if k=13 then #[.int .i64 0, .bool false, .int .i64 3, .int .i64 3]
 else if k=14 then #[.int .i64 0, .bool false, .int .i64 11, .int .i64 6]
 else #[.int .i64 k, .bool false, .int .i64 1, .int .i64 0]
theorem yes(cs:Array Value)(h:cs.size=4):(Tryz.prog.info? 218).map (·.size)=some cs.size:=by rw [h];kernel_rfl
theorem yfc(cs:Array Value)(h:cs.size=4):(Tryz.prog.info? 127).map (·.size)=some cs.size:=by rw [h];kernel_rfl
theorem k82(k:Nat)(w:World)(hk:k<=268) :
  Calls Tryz.prog 192 #[.int .i64 k] w fun x w'=>x= .returned (.agg (litC k))∧Below w.heap.size w w':=by
 by_cases h1:k<256
 ·have HC:Hid (True->litC k=#[.int .i64 0, .int .u8 k, .int .i64 0, .int .i64 0]):=fun _=>by unfold litC;rw [if_pos h1]
  have hmod:(k:Int)%256=(k:Int):=by omega
  go_enter Tryz.func192,Tryz.ntmps192
  go_wp2_with fail
  refine bodyPost_ret (v:= .agg #[.int .i64 0, .int .u8 k, .int .i64 0, .int .i64 0]) ?_ rfl ?_
  ·exact results_cell_row Tryz.results192 _ _ _ 218 _ _ _ rfl (heap_alloc_new _ _) Tryz.underlying218 rfl (yes _ rfl)
  ·exact ⟨by rw [HC.out trivial],(Below.refl _ _).alloc (Nat.le_refl _) _⟩
 ·by_cases h2:k=256
  ·have HC:Hid (True->litC k=#[.int .i64 1, .int .u8 0, .int .i64 0, .int .i64 0]):=fun _=>by unfold litC;rw [if_neg h1,if_pos h2]
   have hd:((k:Int)==256)=true:=by simp;omega
   clear h2;go_enter Tryz.func192,Tryz.ntmps192
   go_wp2_with fail
   refine bodyPost_ret (v:= .agg #[.int .i64 1, .int .u8 0, .int .i64 0, .int .i64 0]) ?_ rfl ?_
   ·exact results_cell_row Tryz.results192 _ _ _ 218 _ _ _ rfl (heap_alloc_new _ _) Tryz.underlying218 rfl (yes _ rfl)
   ·exact ⟨by rw [HC.out trivial],(Below.refl _ _).alloc (Nat.le_refl _) _⟩
  ·have HC:Hid (True->litC k=#[.int .i64 2, .int .u8 0, .int .i64 (Tr.spanLeast 3 (k - 257)), .int .i64 (Tr.spanBits (k - 257))]):=fun _=>by unfold litC;rw [if_neg h1,if_neg h2]
   have hd:((k:Int)==256)=false:=by simp;omega
   obtain ⟨j,hj⟩:∃ j,j=k - 257:=⟨_,rfl⟩
   have hji:(k:Int) - 257=(j:Int):=by omega
   have hj11:j<=15:=by omega
   rw [← hj] at HC;clear hj;have HB0:Hid (Below w.heap.size w (w.alloc (.cells #[.int .i64 0, .int .u8 0, .int .i64 0, .int .i64 0] 218))):=(Below.refl _ _).alloc (Nat.le_refl _) _;go_enter Tryz.func192,Tryz.ntmps192
   go_wp2_with fail
   refine (jbk 3 j _ (by omega) hj11).mono ?_;rintro e w1 ⟨rfl,hb1⟩;have h1':w1.heap[w.heap.size]?=some (.cells #[.int .i64 0, .int .u8 0, .int .i64 0, .int .i64 0] 218 (0,0)):=(hb1.block _ (by simp)).trans (heap_alloc_new _ _);have HB1:Hid (Below w.heap.size w w1):=y6y HB0.out hb1;clear hb1;unfold vtb;have hone:(#[.int .i64 2, .int .u8 0, .int .i64 (Tr.spanLeast 3 j), .int .i64 (Tr.spanBits j)]:Array Value).all (·.oneCell')=true:=by simp [Value.oneCell']
   go_wp2_with (refine wpList_store_row rfl 218 _ _ rfl w.heap.size #[.int .i64 2, .int .u8 0, .int .i64 (Tr.spanLeast 3 j), .int .i64 (Tr.spanBits j)] rfl rfl 218 _ h1' (yes _ rfl) rfl hone ?_)
   refine bodyPost_ret (v:= .agg #[.int .i64 2, .int .u8 0, .int .i64 (Tr.spanLeast 3 j), .int .i64 (Tr.spanBits j)]) ?_ rfl ?_
   ·exact results_cell_row Tryz.results192 _ _ _ 218 _ _ _ rfl (setRow_heap _ _ _ _ 218 _ h1') Tryz.underlying218 rfl (yes _ rfl)
   ·exact ⟨by rw [HC.out trivial],below_setRow HB1.out (Nat.le_refl _) _⟩
theorem yhm(k:Nat)(w:World) :
  Calls Tryz.prog 169 #[.int .i64 k] w fun x w'=>x= .returned (.agg (v3q k))∧Below w.heap.size w w':=by
 by_cases h1:k=12
 ·have HC:Hid (True->v3q k=#[.int .i64 0, .bool true, .int .i64 3, .int .i64 2]):=fun _=>by unfold v3q;rw [if_pos h1]
  have hd:((k:Int)==12)=true:=by simp;omega
  clear h1;go_enter Tryz.func169,Tryz.ntmps169
  go_wp2_with fail
  refine bodyPost_ret (v:= .agg #[.int .i64 0, .bool true, .int .i64 3, .int .i64 2]) ?_ rfl ?_
  ·exact results_cell_row Tryz.results169 _ _ _ 127 _ _ _ rfl (heap_alloc_new _ _) Tryz.underlying127 rfl (yfc _ rfl)
  ·exact ⟨by rw [HC.out trivial],(Below.refl _ _).alloc (Nat.le_refl _) _⟩
 ·have d1:((k:Int)==12)=false:=by simp;omega
  by_cases h2:k=13
  ·have HC:Hid (True->v3q k=#[.int .i64 0, .bool false, .int .i64 3, .int .i64 3]):=fun _=>by unfold v3q;rw [if_neg h1,if_pos h2]
   have hd:((k:Int)==13)=true:=by simp;omega
   clear h1 h2;go_enter Tryz.func169,Tryz.ntmps169
   go_wp2_with fail
   refine bodyPost_ret (v:= .agg #[.int .i64 0, .bool false, .int .i64 3, .int .i64 3]) ?_ rfl ?_
   ·exact results_cell_row Tryz.results169 _ _ _ 127 _ _ _ rfl (heap_alloc_new _ _) Tryz.underlying127 rfl (yfc _ rfl)
   ·exact ⟨by rw [HC.out trivial],(Below.refl _ _).alloc (Nat.le_refl _) _⟩
  ·have d2:((k:Int)==13)=false:=by simp;omega
   by_cases h3:k=14
   ·have HC:Hid (True->v3q k=#[.int .i64 0, .bool false, .int .i64 11, .int .i64 6]):=fun _=>by unfold v3q;rw [if_neg h1,if_neg h2,if_pos h3]
    have hd:((k:Int)==14)=true:=by simp;omega
    clear h1 h2 h3;go_enter Tryz.func169,Tryz.ntmps169
    go_wp2_with fail
    refine bodyPost_ret (v:= .agg #[.int .i64 0, .bool false, .int .i64 11, .int .i64 6]) ?_ rfl ?_
    ·exact results_cell_row Tryz.results169 _ _ _ 127 _ _ _ rfl (heap_alloc_new _ _) Tryz.underlying127 rfl (yfc _ rfl)
    ·exact ⟨by rw [HC.out trivial],(Below.refl _ _).alloc (Nat.le_refl _) _⟩
   ·have HC:Hid (True->v3q k=#[.int .i64 k, .bool false, .int .i64 1, .int .i64 0]):=fun _=>by unfold v3q;rw [if_neg h1,if_neg h2,if_neg h3]
    have d3:((k:Int)==14)=false:=by simp;omega
    go_enter Tryz.func169,Tryz.ntmps169
    go_wp2_with fail
    refine bodyPost_ret (v:= .agg #[.int .i64 k, .bool false, .int .i64 1, .int .i64 0]) ?_ rfl ?_
    ·exact results_cell_row Tryz.results169 _ _ _ 127 _ _ _ rfl (heap_alloc_new _ _) Tryz.underlying127 rfl (yfc _ rfl)
    ·exact ⟨by rw [HC.out trivial],(Below.refl _ _).alloc (Nat.le_refl _) _⟩
def bfld(cnt fst bg:Nat->Int)(lg m n:Nat)(i:Nat):Value:=
 if i<12 then .int .i64 (cnt i) else if i<24 then .int .i64 (fst (i - 12)) else if i<36 then .int .i64 (bg (i - 24)) else if i=36 then .int .i64 lg else .slice (some ⟨m,0,none⟩) n n
theorem xw2(cnt fst bg:Nat->Int)(lg m n i:Nat)(h:i<12):bfld cnt fst bg lg m n i= .int .i64 (cnt i):=if_pos h
theorem ytq(cnt fst bg:Nat->Int)(lg m n i:Nat)(h:i<12):bfld cnt fst bg lg m n (12+i)= .int .i64 (fst i):=by
 unfold bfld;rw [if_neg (by omega),if_pos (by omega),show 12+i - 12=i by omega]
theorem vwk(cnt fst bg:Nat->Int)(lg m n i:Nat)(h:i<12):bfld cnt fst bg lg m n (24+i)= .int .i64 (bg i):=by
 unfold bfld;rw [if_neg (by omega),if_neg (by omega),if_pos (by omega),show 24+i - 24=i by omega]
theorem v7f{P:Program}{fn:Func}{p u:Tmp}{ty:TypeId}(h:fn.results=#[.cell p ty, .tmp u])(tmps:Array Value)(w:World)(g:Nat)(t:TypeId)(cs:Array Value)(fr:Nat×Nat)(d:TypeDesc)
  (hp:tmps.getD p undef= .pointer (some ⟨g,0,none⟩)) (hg:w.heap[g]?=some (.cells cs t fr))
  (hu:P.underlying ty=some d) (hd:(match d with | .struct _ | .array _ _=>true | _=>false)=true) (hi:(P.info? ty).map (·.size)=some cs.size) :
  (results fn tmps).run P w= .ok (.tuple #[.agg cs,tmps.getD u undef]) w:=by
 rw [results_cell_tmp h,hp];simp [asAddr,run_loadVar_row w g t ty cs fr d hg hu hd hi]
structure TabI(w:World)(ty:TypeId)(k:Nat)(p m n:Nat)(cnt fst bg:Nat->Int)(lg:Nat)(mg:Nat->List Value):Prop where
 row:w.rowIs p ty 38 (bfld cnt fst bg lg m n)
 at_:∀ j,j<n->(mg j).length=k∧w.rangeAt m (j*k) (mg j)
 pm:p<w.heap.size∧m<w.heap.size
theorem ysa{w:World}{p m n:Nat}{cnt fst bg:Nat->Int}{lg:Nat}{mg:Nat->List Value}(h:TabI w 271 2 p m n cnt fst bg lg mg) :
  Calls Tryz.prog 176 #[.pointer (some ⟨p,0,none⟩)] w fun x w'=>x= .returned (.int .i64 lg)∧w=w':=by
 have c2:w.cell? ⟨p,36,none⟩=some (.int .i64 lg):=h.row.cell (i:=36) (by omega);clear h;go_enter Tryz.func176,Tryz.ntmps176
 go_wp2_with fail
 go_ret
 exact ⟨rfl,rfl⟩
theorem x82{w:World}{p m n:Nat}{cnt fst bg:Nat->Int}{lg:Nat}{mg:Nat->List Value}(c L:Nat)(h:TabI w 271 2 p m n cnt fst bg lg mg)
  (hc:c<=1000000) (hL:L<12) (hf:0<=fst L∧fst L<=1000000) (hm:¬ (fst L<=c∧(c:Int) - fst L<cnt L)) :
  Calls Tryz.prog 177 #[.pointer (some ⟨p,0,none⟩), .int .i64 c, .int .i64 L] w fun x w'=>x= .returned (.tuple #[.agg #[.int .i64 0, .int .i64 0], .bool false])∧Below w.heap.size w w':=by
 have c1:w.cell? ⟨p,L,none⟩=some (.int .i64 (cnt L)):=by rw [h.row.cell (i:=L) (by omega),xw2 _ _ _ _ _ _ _ hL]
 have c2:w.cell? ⟨p,12+L,none⟩=some (.int .i64 (fst L)):=by rw [h.row.cell (i:=12+L) (by omega),ytq _ _ _ _ _ _ _ hL]
 have hp:=h.pm.1;clear h;obtain ⟨F,hF⟩:∃ F,F=fst L:=⟨_,rfl⟩
 obtain ⟨N,hN⟩:∃ N,N=cnt L:=⟨_,rfl⟩
 rw [← hF] at c2 hf hm;rw [← hN] at c1 hm;clear hF hN;have hL':(L:Int)<12:=by omega
 have HB:Hid (Below w.heap.size w ((w.alloc (.cells #[.int .i64 0, .int .i64 0] 125)).alloc (.cells #[.int .i64 0, .int .i64 0] 125))):=((Below.refl _ _).alloc (Nat.le_refl _) _).alloc (by simp) _;have HH:Hid (((w.alloc (.cells #[.int .i64 0, .int .i64 0] 125)).alloc (.cells #[.int .i64 0, .int .i64 0] 125)).heap[w.heap.size]?=some (.cells #[.int .i64 0, .int .i64 0] 125)):=(Go.heap_alloc_old _ _ (by simp)).trans (heap_alloc_new _ _);by_cases hlt:(c:Int) - F<0
 ·go_enter Tryz.func177,Tryz.ntmps177
  go_wp2_with fail
  refine bodyPost_ret (v7f Tryz.results177 _ _ _ _ _ _ _ rfl HH.out Tryz.underlying125 rfl (xtd _ rfl)) rfl ?_;exact ⟨rfl,HB.out⟩
 ·have hd:decide ((c:Int) - F<0)=false:=by simp;omega
  have hge:N<=(c:Int) - F:=by omega
  go_enter Tryz.func177,Tryz.ntmps177
  go_wp2_with fail
  refine bodyPost_ret (v7f Tryz.results177 _ _ _ _ _ _ _ rfl HH.out Tryz.underlying125 rfl (xtd _ rfl)) rfl ?_;exact ⟨rfl,HB.out⟩
theorem kkr{w:World}{p m n:Nat}{cnt fst bg:Nat->Int}{lg:Nat}{mg:Nat->List Value}(c L:Nat)(h:TabI w 271 2 p m n cnt fst bg lg mg)
  (hc:c<=1000000) (hL:L<12) (hf:0<=fst L∧fst L<=1000000) (hm:fst L<=c∧(c:Int) - fst L<cnt L) (j:Nat) (hj:bg L+((c:Int) - fst L)=j) (hn:j<n) (hn':n<=1000000) (v1 v2:Int) (hv:mg j=[.int .i64 v1, .int .i64 v2]) :
  Calls Tryz.prog 177 #[.pointer (some ⟨p,0,none⟩), .int .i64 c, .int .i64 L] w fun x w'=>x= .returned (.tuple #[.agg #[.int .i64 v1, .int .i64 v2], .bool true])∧Below w.heap.size w w':=by
 have c1:w.cell? ⟨p,L,none⟩=some (.int .i64 (cnt L)):=by rw [h.row.cell (i:=L) (by omega),xw2 _ _ _ _ _ _ _ hL]
 have c2:w.cell? ⟨p,12+L,none⟩=some (.int .i64 (fst L)):=by rw [h.row.cell (i:=12+L) (by omega),ytq _ _ _ _ _ _ _ hL]
 have c3:w.cell? ⟨p,24+L,none⟩=some (.int .i64 (bg L)):=by rw [h.row.cell (i:=24+L) (by omega),vwk _ _ _ _ _ _ _ hL]
 have c4:w.cell? ⟨p,37,none⟩=some (.slice (some ⟨m,0,none⟩) n n):=h.row.cell (i:=37) (by omega);have c5:w.cell? ⟨m,j*2,none⟩=some (.int .i64 v1):=(h.at_ j hn).2 0 _ (by rw [hv];rfl);have c6:w.cell? ⟨m,j*2+1,none⟩=some (.int .i64 v2):=(h.at_ j hn).2 1 _ (by rw [hv];rfl);have hp:=h.pm.1;have hm':=h.pm.2;clear h hv;obtain ⟨F,hF⟩:∃ F,F=fst L:=⟨_,rfl⟩
 obtain ⟨N,hN⟩:∃ N,N=cnt L:=⟨_,rfl⟩
 obtain ⟨b,hb⟩:∃ b,b=bg L:=⟨_,rfl⟩
 rw [← hF] at c2 hf hm hj;rw [← hN] at c1 hm;rw [← hb] at c3 hj;clear hF hN hb;have hL':(L:Int)<12:=by omega
 have hd:decide ((c:Int) - F<0)=false:=by simp;omega
 have hd2:decide (N<=(c:Int) - F)=false:=by simp;omega
 have HB:Hid (Below w.heap.size w (w.alloc (.cells #[.int .i64 v1, .int .i64 v2] 125)).drew):=((Below.refl _ _).alloc (Nat.le_refl _) _).drew;have HH:Hid ((w.alloc (.cells #[.int .i64 v1, .int .i64 v2] 125)).drew.heap[w.heap.size]?=some (.cells #[.int .i64 v1, .int .i64 v2] 125)):=heap_alloc_new _ _;have hjn:(j:Int)<n:=by omega
 go_enter Tryz.func177,Tryz.ntmps177
 go_wp2_with fail
 go_region
 go_wp2_with fail
 refine bodyPost_ret (v7f Tryz.results177 _ _ _ _ _ _ _ rfl HH.out Tryz.underlying125 rfl (xtd _ rfl)) rfl ?_;exact ⟨rfl,HB.out⟩
theorem vs7{w:World}{p m n:Nat}{cnt fst bg:Nat->Int}{lg:Nat}{mg:Nat->List Value}(h:TabI w 268 4 p m n cnt fst bg lg mg) :
  Calls Tryz.prog 174 #[.pointer (some ⟨p,0,none⟩)] w fun x w'=>x= .returned (.int .i64 lg)∧w=w':=by
 have c2:w.cell? ⟨p,36,none⟩=some (.int .i64 lg):=h.row.cell (i:=36) (by omega);clear h;go_enter Tryz.func174,Tryz.ntmps174
 go_wp2_with fail
 go_ret
 exact ⟨rfl,rfl⟩
theorem vrp{w:World}{p m n:Nat}{cnt fst bg:Nat->Int}{lg:Nat}{mg:Nat->List Value}(c L:Nat)(h:TabI w 268 4 p m n cnt fst bg lg mg)
  (hc:c<=1000000) (hL:L<12) (hf:0<=fst L∧fst L<=1000000) (hm:¬ (fst L<=c∧(c:Int) - fst L<cnt L)) :
  Calls Tryz.prog 175 #[.pointer (some ⟨p,0,none⟩), .int .i64 c, .int .i64 L] w fun x w'=>x= .returned (.tuple #[.agg #[.int .i64 0, .int .u8 0, .int .i64 0, .int .i64 0], .bool false])∧Below w.heap.size w w':=by
 have c1:w.cell? ⟨p,L,none⟩=some (.int .i64 (cnt L)):=by rw [h.row.cell (i:=L) (by omega),xw2 _ _ _ _ _ _ _ hL]
 have c2:w.cell? ⟨p,12+L,none⟩=some (.int .i64 (fst L)):=by rw [h.row.cell (i:=12+L) (by omega),ytq _ _ _ _ _ _ _ hL]
 have hp:=h.pm.1;clear h;obtain ⟨F,hF⟩:∃ F,F=fst L:=⟨_,rfl⟩
 obtain ⟨N,hN⟩:∃ N,N=cnt L:=⟨_,rfl⟩
 rw [← hF] at c2 hf hm;rw [← hN] at c1 hm;clear hF hN;have hL':(L:Int)<12:=by omega
 have HB:Hid (Below w.heap.size w ((w.alloc (.cells #[.int .i64 0, .int .u8 0, .int .i64 0, .int .i64 0] 218)).alloc (.cells #[.int .i64 0, .int .u8 0, .int .i64 0, .int .i64 0] 218))):=((Below.refl _ _).alloc (Nat.le_refl _) _).alloc (by simp) _;have HH:Hid (((w.alloc (.cells #[.int .i64 0, .int .u8 0, .int .i64 0, .int .i64 0] 218)).alloc (.cells #[.int .i64 0, .int .u8 0, .int .i64 0, .int .i64 0] 218)).heap[w.heap.size]?=some (.cells #[.int .i64 0, .int .u8 0, .int .i64 0, .int .i64 0] 218)):=(Go.heap_alloc_old _ _ (by simp)).trans (heap_alloc_new _ _);by_cases hlt:(c:Int) - F<0
 ·go_enter Tryz.func175,Tryz.ntmps175
  go_wp2_with fail
  refine bodyPost_ret (v7f Tryz.results175 _ _ _ _ _ _ _ rfl HH.out Tryz.underlying218 rfl (yes _ rfl)) rfl ?_;exact ⟨rfl,HB.out⟩
 ·have hd:decide ((c:Int) - F<0)=false:=by simp;omega
  have hge:N<=(c:Int) - F:=by omega
  go_enter Tryz.func175,Tryz.ntmps175
  go_wp2_with fail
  refine bodyPost_ret (v7f Tryz.results175 _ _ _ _ _ _ _ rfl HH.out Tryz.underlying218 rfl (yes _ rfl)) rfl ?_;exact ⟨rfl,HB.out⟩
theorem j98{w:World}{p m n:Nat}{cnt fst bg:Nat->Int}{lg:Nat}{mg:Nat->List Value}(c L:Nat)(h:TabI w 268 4 p m n cnt fst bg lg mg)
  (hc:c<=1000000) (hL:L<12) (hf:0<=fst L∧fst L<=1000000) (hm:fst L<=c∧(c:Int) - fst L<cnt L) (j:Nat) (hj:bg L+((c:Int) - fst L)=j) (hn:j<n) (hn':n<=1000000) (v1 v2 v3 v4:Int) (hv:mg j=[.int .i64 v1, .int .u8 v2, .int .i64 v3, .int .i64 v4]) :
  Calls Tryz.prog 175 #[.pointer (some ⟨p,0,none⟩), .int .i64 c, .int .i64 L] w fun x w'=>x= .returned (.tuple #[.agg #[.int .i64 v1, .int .u8 v2, .int .i64 v3, .int .i64 v4], .bool true])∧Below w.heap.size w w':=by
 have c1:w.cell? ⟨p,L,none⟩=some (.int .i64 (cnt L)):=by rw [h.row.cell (i:=L) (by omega),xw2 _ _ _ _ _ _ _ hL]
 have c2:w.cell? ⟨p,12+L,none⟩=some (.int .i64 (fst L)):=by rw [h.row.cell (i:=12+L) (by omega),ytq _ _ _ _ _ _ _ hL]
 have c3:w.cell? ⟨p,24+L,none⟩=some (.int .i64 (bg L)):=by rw [h.row.cell (i:=24+L) (by omega),vwk _ _ _ _ _ _ _ hL]
 have c4:w.cell? ⟨p,37,none⟩=some (.slice (some ⟨m,0,none⟩) n n):=h.row.cell (i:=37) (by omega);have c5:w.cell? ⟨m,j*4,none⟩=some (.int .i64 v1):=(h.at_ j hn).2 0 _ (by rw [hv];rfl);have c6:w.cell? ⟨m,j*4+1,none⟩=some (.int .u8 v2):=(h.at_ j hn).2 1 _ (by rw [hv];rfl);have c7:w.cell? ⟨m,j*4+2,none⟩=some (.int .i64 v3):=(h.at_ j hn).2 2 _ (by rw [hv];rfl);have c8:w.cell? ⟨m,j*4+3,none⟩=some (.int .i64 v4):=(h.at_ j hn).2 3 _ (by rw [hv];rfl);have hp:=h.pm.1;have hm':=h.pm.2;clear h hv;obtain ⟨F,hF⟩:∃ F,F=fst L:=⟨_,rfl⟩
 obtain ⟨N,hN⟩:∃ N,N=cnt L:=⟨_,rfl⟩
 obtain ⟨b,hb⟩:∃ b,b=bg L:=⟨_,rfl⟩
 rw [← hF] at c2 hf hm hj;rw [← hN] at c1 hm;rw [← hb] at c3 hj;clear hF hN hb;have hL':(L:Int)<12:=by omega
 have hd:decide ((c:Int) - F<0)=false:=by simp;omega
 have hd2:decide (N<=(c:Int) - F)=false:=by simp;omega
 have HB:Hid (Below w.heap.size w (w.alloc (.cells #[.int .i64 v1, .int .u8 v2, .int .i64 v3, .int .i64 v4] 218)).drew):=((Below.refl _ _).alloc (Nat.le_refl _) _).drew;have HH:Hid ((w.alloc (.cells #[.int .i64 v1, .int .u8 v2, .int .i64 v3, .int .i64 v4] 218)).drew.heap[w.heap.size]?=some (.cells #[.int .i64 v1, .int .u8 v2, .int .i64 v3, .int .i64 v4] 218)):=heap_alloc_new _ _;have hjn:(j:Int)<n:=by omega
 go_enter Tryz.func175,Tryz.ntmps175
 go_wp2_with fail
 go_region
 go_wp2_with fail
 refine bodyPost_ret (v7f Tryz.results175 _ _ _ _ _ _ _ rfl HH.out Tryz.underlying218 rfl (yes _ rfl)) rfl ?_;exact ⟨rfl,HB.out⟩
theorem kta{w:World}{p m n:Nat}{cnt fst bg:Nat->Int}{lg:Nat}{mg:Nat->List Value}(h:TabI w 265 4 p m n cnt fst bg lg mg) :
  Calls Tryz.prog 170 #[.pointer (some ⟨p,0,none⟩)] w fun x w'=>x= .returned (.int .i64 lg)∧w=w':=by
 have c2:w.cell? ⟨p,36,none⟩=some (.int .i64 lg):=h.row.cell (i:=36) (by omega);clear h;go_enter Tryz.func170,Tryz.ntmps170
 go_wp2_with fail
 go_ret
 exact ⟨rfl,rfl⟩
theorem j90{w:World}{p m n:Nat}{cnt fst bg:Nat->Int}{lg:Nat}{mg:Nat->List Value}(c L:Nat)(h:TabI w 265 4 p m n cnt fst bg lg mg)
  (hc:c<=1000000) (hL:L<12) (hf:0<=fst L∧fst L<=1000000) (hm:¬ (fst L<=c∧(c:Int) - fst L<cnt L)) :
  Calls Tryz.prog 172 #[.pointer (some ⟨p,0,none⟩), .int .i64 c, .int .i64 L] w fun x w'=>x= .returned (.tuple #[.agg #[.int .i64 0, .bool false, .int .i64 0, .int .i64 0], .bool false])∧Below w.heap.size w w':=by
 have c1:w.cell? ⟨p,L,none⟩=some (.int .i64 (cnt L)):=by rw [h.row.cell (i:=L) (by omega),xw2 _ _ _ _ _ _ _ hL]
 have c2:w.cell? ⟨p,12+L,none⟩=some (.int .i64 (fst L)):=by rw [h.row.cell (i:=12+L) (by omega),ytq _ _ _ _ _ _ _ hL]
 have hp:=h.pm.1;clear h;obtain ⟨F,hF⟩:∃ F,F=fst L:=⟨_,rfl⟩
 obtain ⟨N,hN⟩:∃ N,N=cnt L:=⟨_,rfl⟩
 rw [← hF] at c2 hf hm;rw [← hN] at c1 hm;clear hF hN;have hL':(L:Int)<12:=by omega
 have HB:Hid (Below w.heap.size w ((w.alloc (.cells #[.int .i64 0, .bool false, .int .i64 0, .int .i64 0] 127)).alloc (.cells #[.int .i64 0, .bool false, .int .i64 0, .int .i64 0] 127))):=((Below.refl _ _).alloc (Nat.le_refl _) _).alloc (by simp) _;have HH:Hid (((w.alloc (.cells #[.int .i64 0, .bool false, .int .i64 0, .int .i64 0] 127)).alloc (.cells #[.int .i64 0, .bool false, .int .i64 0, .int .i64 0] 127)).heap[w.heap.size]?=some (.cells #[.int .i64 0, .bool false, .int .i64 0, .int .i64 0] 127)):=(Go.heap_alloc_old _ _ (by simp)).trans (heap_alloc_new _ _);by_cases hlt:(c:Int) - F<0
 ·go_enter Tryz.func172,Tryz.ntmps172
  go_wp2_with fail
  refine bodyPost_ret (v7f Tryz.results172 _ _ _ _ _ _ _ rfl HH.out Tryz.underlying127 rfl (yfc _ rfl)) rfl ?_;exact ⟨rfl,HB.out⟩
 ·have hd:decide ((c:Int) - F<0)=false:=by simp;omega
  have hge:N<=(c:Int) - F:=by omega
  go_enter Tryz.func172,Tryz.ntmps172
  go_wp2_with fail
  refine bodyPost_ret (v7f Tryz.results172 _ _ _ _ _ _ _ rfl HH.out Tryz.underlying127 rfl (yfc _ rfl)) rfl ?_;exact ⟨rfl,HB.out⟩
theorem vsr{w:World}{p m n:Nat}{cnt fst bg:Nat->Int}{lg:Nat}{mg:Nat->List Value}(c L:Nat)(h:TabI w 265 4 p m n cnt fst bg lg mg)
  (hc:c<=1000000) (hL:L<12) (hf:0<=fst L∧fst L<=1000000) (hm:fst L<=c∧(c:Int) - fst L<cnt L) (j:Nat) (hj:bg L+((c:Int) - fst L)=j) (hn:j<n) (hn':n<=1000000) (v1:Int) (v2:Bool) (v3 v4:Int) (hv:mg j=[.int .i64 v1, .bool v2, .int .i64 v3, .int .i64 v4]) :
  Calls Tryz.prog 172 #[.pointer (some ⟨p,0,none⟩), .int .i64 c, .int .i64 L] w fun x w'=>x= .returned (.tuple #[.agg #[.int .i64 v1, .bool v2, .int .i64 v3, .int .i64 v4], .bool true])∧Below w.heap.size w w':=by
 have c1:w.cell? ⟨p,L,none⟩=some (.int .i64 (cnt L)):=by rw [h.row.cell (i:=L) (by omega),xw2 _ _ _ _ _ _ _ hL]
 have c2:w.cell? ⟨p,12+L,none⟩=some (.int .i64 (fst L)):=by rw [h.row.cell (i:=12+L) (by omega),ytq _ _ _ _ _ _ _ hL]
 have c3:w.cell? ⟨p,24+L,none⟩=some (.int .i64 (bg L)):=by rw [h.row.cell (i:=24+L) (by omega),vwk _ _ _ _ _ _ _ hL]
 have c4:w.cell? ⟨p,37,none⟩=some (.slice (some ⟨m,0,none⟩) n n):=h.row.cell (i:=37) (by omega);have c5:w.cell? ⟨m,j*4,none⟩=some (.int .i64 v1):=(h.at_ j hn).2 0 _ (by rw [hv];rfl);have c6:w.cell? ⟨m,j*4+1,none⟩=some (.bool v2):=(h.at_ j hn).2 1 _ (by rw [hv];rfl);have c7:w.cell? ⟨m,j*4+2,none⟩=some (.int .i64 v3):=(h.at_ j hn).2 2 _ (by rw [hv];rfl);have c8:w.cell? ⟨m,j*4+3,none⟩=some (.int .i64 v4):=(h.at_ j hn).2 3 _ (by rw [hv];rfl);have hp:=h.pm.1;have hm':=h.pm.2;clear h hv;obtain ⟨F,hF⟩:∃ F,F=fst L:=⟨_,rfl⟩
 obtain ⟨N,hN⟩:∃ N,N=cnt L:=⟨_,rfl⟩
 obtain ⟨b,hb⟩:∃ b,b=bg L:=⟨_,rfl⟩
 rw [← hF] at c2 hf hm hj;rw [← hN] at c1 hm;rw [← hb] at c3 hj;clear hF hN hb;have hL':(L:Int)<12:=by omega
 have hd:decide ((c:Int) - F<0)=false:=by simp;omega
 have hd2:decide (N<=(c:Int) - F)=false:=by simp;omega
 have HB:Hid (Below w.heap.size w (w.alloc (.cells #[.int .i64 v1, .bool v2, .int .i64 v3, .int .i64 v4] 127)).drew):=((Below.refl _ _).alloc (Nat.le_refl _) _).drew;have HH:Hid ((w.alloc (.cells #[.int .i64 v1, .bool v2, .int .i64 v3, .int .i64 v4] 127)).drew.heap[w.heap.size]?=some (.cells #[.int .i64 v1, .bool v2, .int .i64 v3, .int .i64 v4] 127)):=heap_alloc_new _ _;have hjn:(j:Int)<n:=by omega
 go_enter Tryz.func172,Tryz.ntmps172
 go_wp2_with fail
 go_region
 go_wp2_with fail
 refine bodyPost_ret (v7f Tryz.results172 _ _ _ _ _ _ _ rfl HH.out Tryz.underlying127 rfl (yfc _ rfl)) rfl ?_;exact ⟨rfl,HB.out⟩
def tab0(f g:Nat->Int):Array Value:=#[.int .i64 (f 0), .int .i64 (f 1), .int .i64 (f 2), .int .i64 (f 3), .int .i64 (f 4), .int .i64 (f 5), .int .i64 (f 6), .int .i64 (f 7), .int .i64 (f 8), .int .i64 (f 9), .int .i64 (f 10), .int .i64 (f 11),
 .int .i64 (g 0), .int .i64 (g 1), .int .i64 (g 2), .int .i64 (g 3), .int .i64 (g 4), .int .i64 (g 5), .int .i64 (g 6), .int .i64 (g 7), .int .i64 (g 8), .int .i64 (g 9), .int .i64 (g 10), .int .i64 (g 11),
 .int .i64 0, .int .i64 0, .int .i64 0, .int .i64 0, .int .i64 0, .int .i64 0, .int .i64 0, .int .i64 0, .int .i64 0, .int .i64 0, .int .i64 0, .int .i64 0, .int .i64 0, .slice none 0 0]
def bfv(cnt fst bg:Nat->Int)(lg:Nat)(v:Value)(i:Nat):Value:=
 if i<12 then .int .i64 (cnt i) else if i<24 then .int .i64 (fst (i - 12)) else if i<36 then .int .i64 (bg (i - 24)) else if i=36 then .int .i64 lg else v
def bsum(l:List Int):Nat->Int
 | 0=>0
 | k+1=>bsum l k+cn l k
def bgTo(l:List Int)(k i:Nat):Int:=if i<k then bsum l i else 0
def lgTo(l:List Int):Nat->Nat
 | 0=>0
 | k+1=>if 0<cn l k then k else lgTo l k
theorem jnz(l:List Int)(w:World)(T:TypeId):(w.alloc (.cells (tab0 (cn l) (fc (cn l))) T)).rowIs w.heap.size T 38 (bfv (cn l) (fc (cn l)) (bgTo l 0) (lgTo l 0) (.slice none 0 0)):=by
 refine World.rowIs_alloc w (tab0 (cn l) (fc (cn l))) T _ ?_;intro i hi;have hi':i<38:=hi;have:i=0∨i=1∨i=2∨i=3∨i=4∨i=5∨i=6∨i=7∨i=8∨i=9∨i=10∨i=11∨i=12∨i=13∨i=14∨i=15∨i=16∨i=17∨i=18∨i=19∨i=20∨i=21∨i=22∨i=23∨i=24∨i=25∨i=26∨i=27∨i=28∨i=29∨i=30∨i=31∨i=32∨i=33∨i=34∨i=35∨i=36∨i=37:=by omega
 rcases this with rfl | rfl | rfl | rfl | rfl | rfl | rfl | rfl | rfl | rfl | rfl | rfl | rfl | rfl | rfl | rfl | rfl | rfl | rfl | rfl | rfl | rfl | rfl | rfl | rfl | rfl | rfl | rfl | rfl | rfl | rfl | rfl | rfl | rfl | rfl | rfl | rfl | rfl <;> rfl
theorem ysr{l:List Int}(hl:l.length<=269)(k:Nat)(hk:k<=12):0<=bsum l k∧bsum l k<=1000000*k:=by
 induction k with
 | zero=>simp [bsum]
 | succ k ih=>
  have h1:=z7r hl k (by omega);have:=ih (by omega);simp only [bsum];omega
theorem jnr{w:World}{p T:Nat}{cnt fst bg:Nat->Int}{lg:Nat}{v:Value}(k:Nat)(x:Int)(hk:k<12)(h:w.rowIs p T 38 (bfv cnt fst bg lg v)) :
  (w.setCell ⟨p,24+k,none⟩ (.int .i64 x)).rowIs p T 38 (bfv cnt fst (fun i=>if i=k then x else bg i) lg v):=by
 refine (h.set (24+k) _).congr fun i _=>?_
 unfold bfv;by_cases e:i=24+k
 ·subst e;rw [if_pos rfl,if_neg (by omega),if_neg (by omega),if_pos (by omega),show 24+k - 24=k by omega];simp
 ·rw [if_neg e];by_cases e1:i<12
  ·rw [if_pos e1,if_pos e1]
  ·rw [if_neg e1,if_neg e1];by_cases e2:i<24
   ·rw [if_pos e2,if_pos e2]
   ·rw [if_neg e2,if_neg e2];by_cases e3:i<36
    ·rw [if_pos e3,if_pos e3];have:¬ (i - 24=k):=by omega
     simp [this]
    ·rw [if_neg e3,if_neg e3]
theorem zta{w:World}{p T:Nat}{cnt fst bg:Nat->Int}{lg:Nat}{v:Value}(x:Nat)(h:w.rowIs p T 38 (bfv cnt fst bg lg v)) :
  (w.setCell ⟨p,36,none⟩ (.int .i64 x)).rowIs p T 38 (bfv cnt fst bg x v):=by
 refine (h.set 36 _).congr fun i _=>?_
 unfold bfv;by_cases e:i=36
 ·subst e;rfl
 ·simp [e]
theorem jb3{w:World}{p T:Nat}{cnt fst bg:Nat->Int}{lg:Nat}{v:Value}(x:Value)(h:w.rowIs p T 38 (bfv cnt fst bg lg v)) :
  (w.setCell ⟨p,37,none⟩ x).rowIs p T 38 (bfv cnt fst bg lg x):=by
 refine (h.set 37 _).congr fun i hi=>?_
 unfold bfv;by_cases e:i=37
 ·subst e;rfl
 ·rw [if_neg e];by_cases e1:i=36
  ·subst e1;rfl
  ·have:i<36:=by omega
   simp [this]
theorem xp6(l:List Int)(k:Nat):(fun i=>if i=k then bsum l k else bgTo l k i)=bgTo l (k+1):=by
 funext i
 unfold bgTo;by_cases e:i=k
 ·subst e;rw [if_pos rfl,if_pos (by omega)]
 ·rw [if_neg e];by_cases e1:i<k
  ·rw [if_pos e1,if_pos (by omega)]
  ·rw [if_neg e1,if_neg (by omega)]
theorem y6c:(Tryz.prog.info? 125).map (fun i=>(i.zero,i.size,i.bytes))=some (some (.agg #[.int .i64 0, .int .i64 0]),2,16):=by kernel_rfl
theorem khk(n:Nat)(hn:n<=12000000)(w:World):(Instr.makeSlice 269 (.int .i64 (n:Int)) (.int .i64 (n:Int))).run Tryz.prog w= .ok (.slice (some ⟨w.heap.size,0,none⟩) n n) (w.alloc (.cells (madeCells #[.int .i64 0, .int .i64 0] (n*2)) 125)):=by
 obtain ⟨i,hi,hz⟩:=Option.map_eq_some_iff.1 y6c;simp only [Prod.mk.injEq] at hz;have hr:=run_make (P:=Tryz.prog) w 269 125 i _ Tryz.underlying269 hi hz.1 .i64 .i64 n n (by omega) (Int.le_refl _) (by rw [hz.2.2];omega) (by omega);simp only [Int.toNat_natCast,hz.2.1] at hr;exact hr
theorem xfg{w:World}{p T:Nat}{cnt fst:Nat->Int}{l:List Int}{lg:Nat}{v:Value}(h:w.rowIs p T 38 (bfv cnt fst (bgTo l 12) lg v)):w.rangeAt p 24 (arr (bsum l)).toList:=by
 intro j x hx;have hj:j<12:=by have:=(List.getElem?_eq_some_iff.1 hx).1;simpa [arr] using this
 rw [h.cell (i:=24+j) (by omega)];have e:(arr (bsum l))[j]?=some x:=by simpa using hx
 rw [zge _ _ hj] at e;rw [← Option.some.inj e];unfold bfv bgTo;rw [if_neg (by omega),if_neg (by omega),if_pos (by omega),show 24+j - 24=j by omega,if_pos hj]
theorem tab_build(f g:Nat->Int)(w:World):(Instr.build 271 #[(0, .agg (arr f)),(1, .agg (arr g))]).run Tryz.prog w= .ok (.agg (tab0 f g)) w:=by kernel_rfl
theorem tab_box(f g:Nat->Int)(w:World):(Instr.box 271 (.agg (tab0 f g))).run Tryz.prog w= .ok (.pointer (some ⟨w.heap.size,0,none⟩)) (w.alloc (.cells (tab0 f g) 271)):=by kernel_rfl
theorem xwb{w:World}{g:Nat}{l:List Int}(h:w.heap[g]?=some (.cells (arr (cn l)) 199)):w.cell? ⟨g,0,none⟩=some (.int .i64 (cn l 0))∧w.cell? ⟨g,1,none⟩=some (.int .i64 (cn l 1))∧w.cell? ⟨g,2,none⟩=some (.int .i64 (cn l 2))∧w.cell? ⟨g,3,none⟩=some (.int .i64 (cn l 3))∧w.cell? ⟨g,4,none⟩=some (.int .i64 (cn l 4))∧w.cell? ⟨g,5,none⟩=some (.int .i64 (cn l 5))∧w.cell? ⟨g,6,none⟩=some (.int .i64 (cn l 6))∧w.cell? ⟨g,7,none⟩=some (.int .i64 (cn l 7))∧w.cell? ⟨g,8,none⟩=some (.int .i64 (cn l 8))∧w.cell? ⟨g,9,none⟩=some (.int .i64 (cn l 9))∧w.cell? ⟨g,10,none⟩=some (.int .i64 (cn l 10))∧w.cell? ⟨g,11,none⟩=some (.int .i64 (cn l 11)):=jax h
def pos(l:List Int)(i:Nat):Nat:=(bsum l (l.getD i 0).toNat+cn (l.take i) (l.getD i 0).toNat).toNat
theorem xki(l:List Int)(i j:Nat):cn (l.take i) j<=cn l j:=by
 unfold cn;have:=((List.take_sublist i l).filter (fun x=>decide (0<x) && x==(j:Int))).length_le;omega
theorem znk(l:List Int)(a d:Nat):bsum l a<=bsum l (a+d):=by
 induction d with
 | zero=>simp
 | succ d ih=>
  have:bsum l (a+(d+1))=bsum l (a+d)+cn l (a+d):=rfl;have:=v4o l (a+d);omega
theorem yr6{l:List Int}{i k n:Nat}(hik:i<k)(hi:i<l.length)(hx:l[i]=(n:Int))(hn:0<n):cn (l.take i) n+1<=cn (l.take k) n:=by
 have h1:=ysp (j:=n) hi;have h2:=xki (l.take k) (i+1) n;rw [List.take_take,Nat.min_eq_left (by omega),h1,hx,if_pos ⟨by omega,rfl⟩] at h2;omega
theorem k44{l:List Int}{i n:Nat}(hi:i<l.length)(hx:l[i]=(n:Int))(hl:l.length<=269)(hn:n<12):(pos l i:Int)=bsum l n+cn (l.take i) n:=by
 have e:(l.getD i 0).toNat=n:=by simp [hi,hx]
 have h1:=(ysr hl n (by omega)).1;have h2:=v4o (l.take i) n;unfold pos;rw [e];omega
theorem vil{l:List Int}{i n:Nat}(hi:i<l.length)(hx:l[i]=(n:Int))(hl:l.length<=269)(h0:0<n)(hn:n<12):(pos l i:Int)<bsum l 12:=by
 rw [k44 hi hx hl hn];have h1:=yr6 (k:=l.length) hi hi hx h0;rw [List.take_length] at h1;have h2:bsum l (n+1)=bsum l n+cn l n:=rfl;have h3:=znk l (n+1) (12 - (n+1));rw [show n+1+(12 - (n+1))=12 by omega] at h3;omega
theorem z4t{l:List Int}{i k n m:Nat}(hik:i<k)(hk:k<l.length)(hi:i<l.length)(hx:l[i]=(n:Int))(hy:l[k]=(m:Int))(hl:l.length<=269)(h0:0<n)(hn:n<12)(g0:0<m)(gn:m<12):pos l i≠pos l k:=by
 intro e;have e1:=k44 hi hx hl hn;have e2:=k44 hk hy hl gn;rw [e] at e1;have a1:=yr6 (k:=l.length) hi hi hx h0;have a2:=yr6 (k:=l.length) hk hk hy g0;rw [List.take_length] at a1 a2;have b1:=v4o (l.take i) n;have b2:=v4o (l.take k) m;have h2:bsum l (n+1)=bsum l n+cn l n:=rfl;have h3:bsum l (m+1)=bsum l m+cn l m:=rfl;by_cases c:n<m
 ·have:=znk l (n+1) (m - (n+1));rw [show n+1+(m - (n+1))=m by omega] at this;omega
 ·by_cases c2:m<n
  ·have:=znk l (m+1) (n - (m+1));rw [show m+1+(n - (m+1))=n by omega] at this;omega
  ·obtain rfl:n=m:=by omega
   have:=yr6 hik hi hx h0;omega
def newW(wr:World)(p n:Nat)(l:List Int):World:=
 (((wr.setCell ⟨p,37,none⟩ (.slice (some ⟨wr.heap.size,0,none⟩) n n)).alloc (.cells (madeCells #[.int .i64 0, .int .i64 0] (n*2)) 125)).alloc (.cells (arr (fun _=>0)) 197)).setRow (wr.heap.size+1) (arr (bsum l))
theorem vni(w:World)(n:Nat)(t:TypeId):(w.alloc (.cells (madeCells #[.int .i64 0, .int .i64 0] (n*2)) t)).rowIs w.heap.size t (n*2) (fun _=> .int .i64 0):=by
 have:=World.rowIs_alloc w (madeCells #[.int .i64 0, .int .i64 0] (n*2)) t (fun _=> .int .i64 0) (fun i hi=>by
  have h2:i<n*2:=by simpa [size_madeCells] using hi
  have h3:i%2=0∨i%2=1:=by omega
  rcases h3 with h3 | h3 <;> simp [madeCells,h2,h3])
 rwa [size_madeCells] at this
theorem newW_at(wr:World)(p n:Nat):((((wr.setCell ⟨p,37,none⟩ (.slice (some ⟨wr.heap.size,0,none⟩) n n)).alloc (.cells (madeCells #[.int .i64 0, .int .i64 0] (n*2)) 125)).alloc (.cells (arr (fun _=>0)) 197)).heap[wr.heap.size+1]?)=some (.cells (arr (fun _=>0)) 197):=by
 have:=heap_alloc2_new (wr.setCell ⟨p,37,none⟩ (.slice (some ⟨wr.heap.size,0,none⟩) n n)) (.cells (madeCells #[.int .i64 0, .int .i64 0] (n*2)) 125) (.cells (arr (fun _=>0)) 197);simpa using this
theorem newW_facts{w wr:World}{p n:Nat}{l:List Int}{cnt fst:Nat->Int}{lg:Nat}(h:wr.rowIs p 271 38 (bfv cnt fst (bgTo l 12) lg (.slice none 0 0)))(hb:Below w.heap.size w wr)(hp:w.heap.size<=p) :
  (newW wr p n l).rowIs p 271 38 (bfv cnt fst (bgTo l 12) lg (.slice (some ⟨wr.heap.size,0,none⟩) n n))∧(newW wr p n l).rowIs wr.heap.size 125 (n*2) (fun _=> .int .i64 0)∧
  (newW wr p n l).rowIs (wr.heap.size+1) 197 12 (fun j=> .int .i64 (bsum l j))∧Below w.heap.size w (newW wr p n l):=by
 have hl:=h.lt;have hz:(wr.setCell ⟨p,37,none⟩ (.slice (some ⟨wr.heap.size,0,none⟩) n n)).heap.size=wr.heap.size:=by simp
 have hs:=hb.size;refine ⟨?_,?_,?_,?_⟩
 ·exact (((jb3 _ h).alloc _).alloc _).of_block (setRow_other _ _ _ _ (by omega))
 ·have:=(vni (wr.setCell ⟨p,37,none⟩ (.slice (some ⟨wr.heap.size,0,none⟩) n n)) n 125).alloc (.cells (arr (fun _=>0)) 197);rw [hz] at this;exact this.of_block (setRow_other _ _ _ _ (by omega))
 ·exact ⟨arr (bsum l),setRow_heap _ _ _ _ _ _ (newW_at wr p n),rfl,fun i hi=>zge _ _ hi⟩
 ·exact below_setRow (((hb.setCell (p:=⟨p,37,none⟩) hp _).alloc (by rw [hz];exact hs) _).alloc (by simp;omega) _) (by omega) _
def Filled(l:List Int)(f:Nat->Value)(k:Nat):Prop:=∀ i,i<k->0<l.getD i 0->f (pos l i*2)= .int .i64 (Tr.spanLeast 1 i)∧f (pos l i*2+1)= .int .i64 (Tr.spanBits i)
theorem Filled.skip{l:List Int}{f:Nat->Value}{k:Nat}(h:Filled l f k)(e0:l.getD k 0=0):Filled l f (k+1):=fun i hi h0=>by
 by_cases e:i=k
 ·subst e;omega
 ·exact h i (by omega) h0
theorem Filled.step{l:List Int}{f:Nat->Value}{k x:Nat}(h:Filled l f k)(hl:l.length<=269)(hr:inRange l=true)(hk:k<l.length)(hx:l[k]=(x:Int))(h0:0<x)(h12:x<12) :
  Filled l (fun j=>if j=pos l k*2+1 then .int .i64 (Tr.spanBits k) else if j=pos l k*2 then .int .i64 (Tr.spanLeast 1 k) else f j) (k+1):=fun i hi hp=>by
 by_cases e:i=k
 ·subst e;simp
 ·have hi':i<k:=by omega
  have hil:i<l.length:=by omega
  obtain ⟨y,hy,hy12⟩:∃ y:Nat,l[i]=(y:Int)∧y<12:=by
   have:=(vto l).1 hr l[i] (List.getElem_mem hil);exact ⟨l[i].toNat,by omega,by omega⟩
  have hg:l.getD i 0=(y:Int):=by simp [hil,hy]
  have ne:=z4t hi' hk hil hy hx hl (by omega) hy12 h0 h12;have hh:=h i hi' hp;refine ⟨?_,?_⟩
  ·show (if pos l i*2=pos l k*2+1 then _ else if pos l i*2=pos l k*2 then _ else f (pos l i*2))=_;rw [if_neg (by omega),if_neg (by omega)];exact hh.1
  ·show (if pos l i*2+1=pos l k*2+1 then _ else if pos l i*2+1=pos l k*2 then _ else f (pos l i*2+1))=_;rw [if_neg (by omega),if_neg (by omega)];exact hh.2
theorem jq1{w:World}{m i j:Nat}{v u:Value}{q:Addr}(h:q.block≠m):((w.setCell ⟨m,i,none⟩ v).setCell ⟨m,j,none⟩ u).cell? q=w.cell? q:=
 (World.cell?_setCell_far _ _ _ _ (Ne.symm h)).trans (World.cell?_setCell_far _ _ _ _ (Ne.symm h))
theorem new_round{w wr w7:World}{p m n k x P:Nat}{l:List Int}{F:Nat->Value}{f:Nat->Value}{v1 v2:Value}(q1:wr.rowIs p 271 38 F)(q2:wr.rowIs m 125 (n*2) f)(q4:wr.rowIs (m+1) 197 12 (fun j=> .int .i64 (bsum l j+cn (l.take k) j)))
  (q5:Below w.heap.size w wr) (hb:Below wr.heap.size wr w7) (hk:k<l.length) (hx:l[k]=(x:Int)) (h0:0<x) (_h12:x<12) (hpm:p≠m) (hpm2:p≠m+1) (_hp:w.heap.size<=p) (hm:w.heap.size<=m) (hN:bsum l x+cn (l.take k) x=(pos l k:Int)) (hP:P=pos l k) :
  (((w7.setCell ⟨m,P*2,none⟩ v1).setCell ⟨m,P*2+1,none⟩ v2).setCell ⟨m+1,x,none⟩ (.int .i64 (P+1))).rowIs p 271 38 F∧
  (((w7.setCell ⟨m,P*2,none⟩ v1).setCell ⟨m,P*2+1,none⟩ v2).setCell ⟨m+1,x,none⟩ (.int .i64 (P+1))).rowIs m 125 (n*2) (fun j=>if j=P*2+1 then v2 else if j=P*2 then v1 else f j)∧
  (((w7.setCell ⟨m,P*2,none⟩ v1).setCell ⟨m,P*2+1,none⟩ v2).setCell ⟨m+1,x,none⟩ (.int .i64 (P+1))).rowIs (m+1) 197 12 (fun j=> .int .i64 (bsum l j+cn (l.take (k+1)) j))∧
  Below w.heap.size w (((w7.setCell ⟨m,P*2,none⟩ v1).setCell ⟨m,P*2+1,none⟩ v2).setCell ⟨m+1,x,none⟩ (.int .i64 (P+1))):=by
 have e:(P:Int)+1=bsum l x+cn (l.take k) x+1:=by omega
 refine ⟨?_,?_,?_,?_⟩
 ·exact (((j96 q1 hb q1.lt).setOther (a:=⟨m,P*2,none⟩) hpm _).setOther (a:=⟨m,P*2+1,none⟩) hpm _).setOther (a:=⟨m+1,x,none⟩) hpm2 _
 ·exact (((j96 q2 hb q2.lt).set (P*2) _).set (P*2+1) _).setOther (a:=⟨m+1,x,none⟩) (by simp) _
 ·rw [e];exact jr9 hk hx h0 (((j96 q4 hb q4.lt).setOther (a:=⟨m,P*2,none⟩) (by simp) _).setOther (a:=⟨m,P*2+1,none⟩) (by simp) _)
 ·exact (((q5.trans (hb.mono q5.size)).setCell (p:=⟨m,P*2,none⟩) hm _).setCell (p:=⟨m,P*2+1,none⟩) hm _).setCell (p:=⟨m+1,x,none⟩) (by show w.heap.size<=m+1;omega) _
theorem yvn(ad:Option Addr)(cap:Nat)(l:List Int)(w:World)(hl16:l.length<=16)(hc:xin w ad l)(hr:inRange l=true) :
  Calls Tryz.prog 193 #[.slice ad l.length cap, .func (.func 194) #[] #[]] w fun e w'=>∃ (p m n:Nat) (f:Nat->Value),e= .returned (.pointer (some ⟨p,0,none⟩))∧bsum l 12=n∧
   TabI w' 271 2 p m n (cn l) (fc (cn l)) (bgTo l 12) (lgTo l 12) (fun j=>[f (j*2),f (j*2+1)])∧(∀ i,i<l.length->0<l.getD i 0->f (pos l i*2)= .int .i64 (Tr.spanLeast 1 i)∧f (pos l i*2+1)= .int .i64 (Tr.spanBits i))∧w.heap.size<=p∧w.heap.size<=m∧Below w.heap.size w w':=by
 have hl:l.length<=269:=by omega
 have HC:Hid (xin w ad l):=hc;have HB:Hid (∀ j,j<12->0<=cn l j∧cn l j<=1000000):=z7r hl;go_enter Tryz.func193,Tryz.ntmps193
 go_wp2_with fail
 refine (v5q ad cap l _ (by omega) hc hr).mono ?_;rintro e w1 ⟨rfl,hb1⟩;have HG1:Hid (Below w.heap.size w w1):=hb1;clear hb1 hc;go_wp2_with (first | (refine wpList_store_row rfl 199 _ _ rfl _ _ rfl rfl 199 _ (heap_alloc_new _ _) (zvc _) rfl (yui _) ?_;rw [World.setRow_alloc_new]))
 have hW:(w1.alloc (.cells (arr (cn l)) 199)).heap[w1.heap.size]?=some (.cells (arr (cn l)) 199):=heap_alloc_new _ _;have HW:Hid (Below w.heap.size w (w1.alloc (.cells (arr (cn l)) 199))):=HG1.out.alloc HG1.out.size _;have hWs:w1.heap.size<(w1.alloc (.cells (arr (cn l)) 199)).heap.size:=by simp
 generalize w1.alloc (.cells (arr (cn l)) 199)=W at *;have hbd:=tab_build (cn l) (fc (cn l));have hbx:=tab_box (cn l) (fc (cn l));unfold arr at hbd;generalize hg:w1.heap.size=g at *;clear hg;go_region_held3 (fun wv=>wv.cell? ⟨g,0,none⟩=some (.int .i64 (cn l 0))∧wv.cell? ⟨g,1,none⟩=some (.int .i64 (cn l 1))∧wv.cell? ⟨g,2,none⟩=some (.int .i64 (cn l 2))∧wv.cell? ⟨g,3,none⟩=some (.int .i64 (cn l 3))∧wv.cell? ⟨g,4,none⟩=some (.int .i64 (cn l 4))∧wv.cell? ⟨g,5,none⟩=some (.int .i64 (cn l 5))∧wv.cell? ⟨g,6,none⟩=some (.int .i64 (cn l 6))∧wv.cell? ⟨g,7,none⟩=some (.int .i64 (cn l 7))∧wv.cell? ⟨g,8,none⟩=some (.int .i64 (cn l 8))∧wv.cell? ⟨g,9,none⟩=some (.int .i64 (cn l 9))∧wv.cell? ⟨g,10,none⟩=some (.int .i64 (cn l 10))∧wv.cell? ⟨g,11,none⟩=some (.int .i64 (cn l 11))) (first | exact xwb (w:=W.drew) hW | exact xwb hh3 | exact xwb ((Go.heap_alloc_old _ _ hg3).trans hh3))
  (first | (go_at_call 151;refine (jgl (cn l) _ HB.out).mono ?_;rintro e w3 ⟨rfl,hb3⟩;have hh3:=(hb3.block _ hWs).trans hW;have hg3:g<w3.heap.size:=Nat.lt_of_lt_of_le hWs hb3.size;unfold arr))
 have HG4:Hid (Below w.heap.size w w3):=HW.out.drew.trans (hb3.mono HW.out.size);have HS3:Hid (w3.heap[g]?=some (.cells (arr (cn l)) 199)):=hh3;clear hb3 hh3 hW hbd hbx HW HG1;have hp3:(w3.alloc (.cells (tab0 (cn l) (fc (cn l))) 271)).rowIs w3.heap.size 271 38 (bfv (cn l) (fc (cn l)) (bgTo l 0) (lgTo l 0) (.slice none 0 0)):=jnz _ _ _;have h4g:(w3.alloc (.cells (tab0 (cn l) (fc (cn l))) 271)).heap[g]?=some (.cells (arr (cn l)) 199):=(Go.heap_alloc_old _ _ hg3).trans HS3.out;have HG5:Hid (Below w.heap.size w (w3.alloc (.cells (tab0 (cn l) (fc (cn l))) 271))):=HG4.out.alloc HG4.out.size _;have hpW:w.heap.size<=w3.heap.size:=HG4.out.size;have hi:=idx (cn l);unfold tab0 at *;generalize w3.alloc _=w4 at *;generalize w3.heap.size=p at *;go_wp2_with (refine wpList_load_row rfl 197 _ rfl _ rfl 199 (arr (cn l)) (0,0) _ h4g Tryz.underlying197 rfl (xz2 _) ?_)
 go_loopw [7,22] (fun t i wr=>∃ k:Nat,k<=12∧i= .int .i64 k∧t= .int .i64 (bsum l k)∧wr.rowIs p 271 38 (bfv (cn l) (fc (cn l)) (bgTo l k) (lgTo l k) (.slice none 0 0))∧Below w.heap.size w wr) (fun _ i _=>12 - (intOf i).toNat)
 case atStart=>exact ⟨0,Nat.zero_le _,rfl,rfl,hp3,HG5.out⟩
 case round=>
  obtain ⟨k,hk,rfl,rfl,hrow,hbel⟩:=hrel;by_cases hlt:k<12
  ·have hik:=hi k hlt;have ⟨b1,b2⟩:=ysr hl k hk;have ⟨b3,b4⟩:=HB.out k hlt;have g1:=hrow.cell (i:=24+k) (by omega);have g2:=hrow.frozen (24+k);have g3:=hrow.cell (i:=36) (by omega);have g4:=hrow.frozen 36;have R:=jnr k (bsum l k) hlt hrow;rw [xp6] at R;have R1:=hbel.setCell (p:=⟨p,24+k,none⟩) hpW (.int .i64 (bsum l k));by_cases hpos:0<cn l k
   ·have R2:=zta k R;have e2:lgTo l (k+1)=k:=if_pos hpos;go_wp2
    go_roundw
    case rel=>exact ⟨k+1,by omega,by go_num,rfl,by rw [e2];exact R2,R1.setCell (p:=⟨p,36,none⟩) hpW _⟩
    case measure=>simp [intOf];omega
   ·have e2:lgTo l k=lgTo l (k+1):=(if_neg hpos).symm;rw [e2] at R;go_wp2
    go_roundw
    case rel=>exact ⟨k+1,by omega,by go_num,rfl,R,R1⟩
    case measure=>simp [intOf];omega
  ·obtain rfl:k=12:=by omega
   have HR:Hid (wr.rowIs p 271 38 (bfv (cn l) (fc (cn l)) (bgTo l 12) (lgTo l 12) (.slice none 0 0))∧Below w.heap.size w wr):=⟨hrow,hbel⟩
   obtain ⟨n,hn⟩:∃ n:Nat,bsum l 12=n:=⟨(bsum l 12).toNat,by have:=(ysr hl 12 (by omega)).1;omega⟩
   have hn2:n<=12000000:=by have:=(ysr hl 12 (by omega)).2;omega
   rw [hn];have g1:=hrow.cell (i:=37) (by omega);have g2:=hrow.frozen 37;have hmk:=khk n hn2;clear hi;have r5:((wr.setCell ⟨p,37,none⟩ (.slice (some ⟨wr.heap.size,0,none⟩) n n)).alloc (.cells (madeCells #[.int .i64 0, .int .i64 0] (n*2)) 125)).rowIs p 271 38 (bfv (cn l) (fc (cn l)) (bgTo l 12) (lgTo l 12) (.slice (some ⟨wr.heap.size,0,none⟩) n n)):=(jb3 _ hrow).alloc _;have m5:=xfg r5;have hpl:=hrow.lt;have h6:=newW_at wr p n;have NF:=newW_facts (n:=n) hrow hbel hpW;unfold newW at NF;rw [show arr (fun _=>0)=#[.int .i64 0, .int .i64 0, .int .i64 0, .int .i64 0, .int .i64 0, .int .i64 0, .int .i64 0, .int .i64 0, .int .i64 0, .int .i64 0, .int .i64 0, .int .i64 0] from rfl] at NF;have HNF:Hid _:=NF;clear NF;go_wp2_with (first | (refine wpList_load_mid rfl 197 _ rfl p 24 rfl (arr (bsum l)).toList _ m5 Tryz.underlying197 rfl (xz2 (bsum l)) ?_;rw [Array.toArray_toList]) | (refine wpList_store_row rfl 197 _ _ rfl (wr.heap.size+1) (arr (bsum l)) rfl rfl 197 _ h6 (xz2 _) rfl (yui _) ?_))
   have hmW:w.heap.size<=wr.heap.size:=hbel.size;clear h6 m5 r5 g1 g2 hmk hrow h4g hbel HR;generalize (((wr.setCell ⟨p,37,none⟩ (.slice (some ⟨wr.heap.size,0,none⟩) n n)).alloc (.cells (madeCells #[.int .i64 0, .int .i64 0] (n*2)) 125)).alloc (.cells #[.int .i64 0, .int .i64 0, .int .i64 0, .int .i64 0, .int .i64 0, .int .i64 0, .int .i64 0, .int .i64 0, .int .i64 0, .int .i64 0, .int .i64 0, .int .i64 0] 197)).setRow (wr.heap.size+1) (arr (bsum l))=w6 at *;generalize wr.heap.size=m at *;go_loopw [53] (fun i wx=>∃ (k:Nat) (f:Nat->Value),k<=l.length∧i= .int .i64 k∧wx.rowIs p 271 38 (bfv (cn l) (fc (cn l)) (bgTo l 12) (lgTo l 12) (.slice (some ⟨m,0,none⟩) n n))∧wx.rowIs m 125 (n*2) f∧Filled l f k∧wx.rowIs (m+1) 197 12 (fun j=> .int .i64 (bsum l j+cn (l.take k) j))∧Below w.heap.size w wx) (fun i _=>l.length - (intOf i).toNat)
   case atStart=>exact ⟨0,fun _=> .int .i64 0,Nat.zero_le _,rfl,HNF.out.1,HNF.out.2.1,fun i hi=>absurd hi (by omega),HNF.out.2.2.1.congr fun i _=>by simp [j3h],HNF.out.2.2.2⟩
   case round=>
    obtain ⟨k,f,hk,rfl,q1,q2,q3,q4,q5⟩:=hrel;by_cases hlt:k<l.length
    ·obtain ⟨b,o,x,rfl,g,hx12,hx⟩:=(HC.out.below q5 (Nat.le_refl _)).atNat hr hlt;have HQ:Hid (wr.rowIs p 271 38 (bfv (cn l) (fc (cn l)) (bgTo l 12) (lgTo l 12) (.slice (some ⟨m,0,none⟩) n n))∧wr.rowIs m 125 (n*2) f∧wr.rowIs (m+1) 197 12 (fun j=> .int .i64 (bsum l j+cn (l.take k) j))∧Below w.heap.size w wr):=⟨q1,q2,q4,q5⟩
     have HF:Hid (Filled l f k):=q3;clear q3;by_cases hpos:0<x
     ·have e1:=k44 hlt hx.out hl (by omega);have e2:=vil hlt hx.out hl hpos (by omega);rw [hn] at e2;have hpn:pos l k<n:=by omega
      have c1:wr.cell? ⟨p,37,none⟩=some (.slice (some ⟨m,0,none⟩) n n):=q1.cell (i:=37) (by omega);have c2:wr.cell? ⟨m+1,x,none⟩=some (.int .i64 (pos l k)):=by rw [q4.cell (i:=x) (by omega),e1]
      have HN:Hid (bsum l x+cn (l.take k) x=(pos l k:Int)):=e1.symm;have HFS:=HF.out.step hl hr hlt hx.out hpos (by omega);have HFT:Hid _:=HFS;clear HFS e1;have HNX:Hid ((wr:World)=wr):=rfl;obtain ⟨P,hP⟩:∃ P,P=pos l k:=⟨_,rfl⟩
      have l1:=q1.lt;have l2:=q2.lt;have l3:=q4.lt;have hPi:(P:Int)<n:=by omega
      have hx12':(x:Int)<12:=by omega
      have k1:=q2.cell (i:=P*2) (by omega);have k2:=q2.cell (i:=P*2+1) (by omega);have y1:=q2.frozen (P*2);have y2:=q2.frozen (P*2+1);rw [← hP] at c2;have HP:Hid (P=pos l k):=hP;have hk15:k<=15:=by omega
      have hpm:p≠m:=by omega
      have hpm2:p≠m+1:=by omega
      have y3:=q4.frozen x;clear q1 q2 q4 q5 hP;go_wp2_with fail
      go_region_held3 (fun wv=>wv.cell? ⟨p,37,none⟩=some (.slice (some ⟨m,0,none⟩) n n)∧wv.cell? ⟨m+1,x,none⟩=some (.int .i64 P)) (first | exact ⟨c1,c2⟩ | exact ⟨d1,d2⟩ | exact ⟨(jq1 (q:=⟨p,37,none⟩) hpm).trans d1,(jq1 (q:=⟨m+1,x,none⟩) (by simp)).trans d2⟩)
       (first | (go_at_call 194;refine (x00 k _ hk15).mono ?_;rintro e w7 ⟨rfl,hb7⟩;have d1:=(hb7.cell l1).trans c1;have d2:=(hb7.cell l3).trans c2;have d3:w7.cell? ⟨m,P*2,none⟩=some (f (P*2)):=(hb7.cell l2).trans k1;have d4:w7.cell? ⟨m,P*2+1,none⟩=some (f (P*2+1)):=(hb7.cell l2).trans k2;have d5:w7.frozen? ⟨m,P*2,none⟩=false:=(hb7.frozen l2).trans y1;have d6:w7.frozen? ⟨m,P*2+1,none⟩=false:=(hb7.frozen l2).trans y2;have d7:w7.frozen? ⟨m+1,x,none⟩=false:=(hb7.frozen l3).trans y3;have HB7:Hid (Below wr.heap.size wr w7):=⟨hb7.os,hb7.tape,hb7.output,hb7.size,hb7.block⟩;clear hb7;unfold vtb))
      have T:=new_round (v1:= .int .i64 (Tr.spanLeast 1 k)) (v2:= .int .i64 (Tr.spanBits k)) HQ.out.1 HQ.out.2.1 HQ.out.2.2.1 HQ.out.2.2.2 HB7.out hlt hx.out hpos (by omega) hpm hpm2 hpW hmW HN.out HP.out;have HT:Hid _:=T;clear T k1 k2 y1 y2 y3;go_wp2
      go_roundw
      case rel=>exact ⟨k+1,_,by omega,by go_num,HT.out.1,HT.out.2.1,by rw [HP.out];exact HFT.out,HT.out.2.2.1,HT.out.2.2.2⟩
      case measure=>simp [intOf];omega
     ·obtain rfl:x=0:=by omega
      have R:=zlc hlt hx.out q4;have e0:l.getD k 0=0:=by have:=hx.out;simp [hlt];simpa using this
      have HF2:Hid (Filled l f (k+1)):=HF.out.skip e0;go_wp2
      go_roundw
      case rel=>exact ⟨k+1,f,by omega,by go_num,q1,q2,HF2.out,R,q5⟩
      case measure=>simp [intOf];omega
    ·obtain rfl:k=l.length:=by omega
     go_wp2
     go_ret
     refine ⟨p,m,n,f,rfl,hn,⟨q1,fun j hj=>⟨rfl,?_⟩,q1.lt,q2.lt⟩,fun i hi h0=>q3 i hi h0,hpW,hmW,q5⟩;intro t v hv;have ht:t=0∨t=1:=by have:=(List.getElem?_eq_some_iff.1 hv).1;simp at this;omega
     rcases ht with rfl | rfl
     ·rw [← Option.some.inj hv];exact q2.cell (i:=j*2) (by omega)
     ·rw [← Option.some.inj hv];exact q2.cell (i:=j*2+1) (by omega)
def rfld(c N o n:Nat):Nat->Value
 | 0=> .slice (some ⟨c,0,none⟩) N N
 | 1=> .int .i64 o
 | _=> .int .i64 n
structure RgI(w:World)(r c N o:Nat)(f:Nat->Nat)(q:List Nat):Prop where
 row:w.rowIs r 164 3 (rfld c N o q.length)
 cells:w.rowIs c 5 N (fun j=> .int .u8 (f j))
 pos:0<N
 small:N<=1000000
 ho:o<N
 hq:q.length<=N
 at_:∀ i,i<q.length->f ((o+i)%N)=q.getD i 0
 ne:r≠c
structure Two(r c:Nat)(w w':World):Prop where
 kp:Kp (fun k=>k=r∨k=c) (fun k=>k) w w'
 os:w'.os=w.os
 tape:w'.tape=w.tape
 output:w'.output=w.output
theorem Two.refl(r c:Nat)(w:World):Two r c w w:=⟨Kp.refl _ _ _,rfl,rfl,rfl⟩
theorem Two.trans{r c:Nat}{a b d:World}(h:Two r c a b)(k:Two r c b d):Two r c a d:=⟨h.kp.trans k.kp,k.os.trans h.os,k.tape.trans h.tape,k.output.trans h.output⟩
theorem Two.set1(r c:Nat)(w:World)(i:Nat)(v:Value):Two r c w (w.setCell ⟨r,i,none⟩ v):=⟨Kp.of_set w _ _ (Or.inl rfl),rfl,rfl,rfl⟩
theorem Two.set2(r c:Nat)(w:World)(i:Nat)(v:Value):Two r c w (w.setCell ⟨c,i,none⟩ v):=⟨Kp.of_set w _ _ (Or.inr rfl),rfl,rfl,rfl⟩
theorem Two.drewN{r c:Nat}{a b:World}(h:Two r c a b)(q:Nat):Two r c a (b.drewN q):=⟨⟨h.kp.size,h.kp.block⟩,h.os,h.tape,h.output⟩
theorem RgI.drewN{w:World}{r c N o:Nat}{f:Nat->Nat}{q:List Nat}(h:RgI w r c N o f q)(n:Nat):RgI (w.drewN n) r c N o f q:=⟨h.row,h.cells,h.pos,h.small,h.ho,h.hq,h.at_,h.ne⟩
theorem xgl{P:Nat->Prop}(h0:P 0)(h1:P 1)(h2:P 2)(i:Nat)(hi:i<3):P i:=by
 have:i=0∨i=1∨i=2:=by omega
 rcases this with rfl | rfl | rfl <;> assumption
theorem jpl{w:World}{r c N o:Nat}{f:Nat->Nat}{q:List Nat}(h:RgI w r c N o f q) :
  Calls Tryz.prog 57 #[.pointer (some ⟨r,0,none⟩)] w fun x w'=>x= .returned (.int .i64 q.length)∧w=w':=by
 have c2:w.cell? ⟨r,2,none⟩=some (.int .i64 q.length):=h.row.cell (i:=2) (by omega);clear h;go_enter Tryz.func57,Tryz.ntmps57
 go_wp2_with fail
 go_ret
 exact ⟨rfl,rfl⟩
theorem zzm{w:World}{r c N o:Nat}{f:Nat->Nat}{q:List Nat}(h:RgI w r c N o f q) :
  Calls Tryz.prog 165 #[.pointer (some ⟨r,0,none⟩)] w fun x w'=>x= .returned (.bool (decide (q.length=N)))∧∃ n,w'=w.drewN n:=by
 have c2:w.cell? ⟨r,2,none⟩=some (.int .i64 q.length):=h.row.cell (i:=2) (by omega);have c0:w.cell? ⟨r,0,none⟩=some (.slice (some ⟨c,0,none⟩) N N):=h.row.cell (i:=0) (by omega);clear h;go_enter Tryz.func165,Tryz.ntmps165
 go_wp2_with fail
 go_quiet (fail)
 go_wp2_with fail
 go_ret
 refine ⟨?_,_,rfl⟩;by_cases e:q.length=N
 ·simp [e]
 ·simp [e];omega
theorem kjm{w:World}{r c N o:Nat}{f:Nat->Nat}{q:List Nat}(k:Nat)(h:RgI w r c N o f q)(hk:k<=1000000) :
  Calls Tryz.prog 108 #[.pointer (some ⟨r,0,none⟩), .int .i64 k] w fun x w'=>x= .returned (.int .i64 ((o+k)%N:Nat))∧∃ n,w'=w.drewN n:=by
 have c1:w.cell? ⟨r,1,none⟩=some (.int .i64 o):=h.row.cell (i:=1) (by omega);have c0:w.cell? ⟨r,0,none⟩=some (.slice (some ⟨c,0,none⟩) N N):=h.row.cell (i:=0) (by omega);have ho:=h.ho;have hN:=h.small;have hp:=h.pos;have hz:((N:Int)==0)=false:=by rw [beq_eq_false_iff_ne];omega
 have hz':¬ (N:Int)=0:=by omega
 clear h;go_enter Tryz.func108,Tryz.ntmps108
 go_wp2_with fail
 go_quiet (fail)
 go_wp2_with fail
 go_ret
 exact ⟨by simp,_,rfl⟩
theorem k9o(o N i:Nat):((o+1)%N+i)%N=(o+(i+1))%N:=by
 rw [Nat.mod_add_mod,show o+1+i=o+(i+1) by omega]
theorem RgI.drop{w:World}{r c N o:Nat}{f:Nat->Nat}{q:List Nat}(h:RgI w r c N o f q)(hq:0<q.length) :
  RgI ((w.setCell ⟨r,1,none⟩ (.int .i64 (((o+1)%N:Nat):Int))).setCell ⟨r,2,none⟩ (.int .i64 ((q.length:Int) - 1))) r c N ((o+1)%N) f q.tail:=by
 have hl:q.tail.length=q.length - 1:=by simp
 refine ⟨?_,(h.cells.setOther (a:=⟨r,1,none⟩) (Ne.symm h.ne) _).setOther (a:=⟨r,2,none⟩) (Ne.symm h.ne) _,h.pos,h.small,Nat.mod_lt _ h.pos,by rw [hl];have:=h.hq;omega,fun i hi=>?_,h.ne⟩
 ·refine ((h.row.set 1 _).set 2 _).congr ?_;rw [hl];have e:((q.length - 1:Nat):Int)=(q.length:Int) - 1:=by omega
  intro j hj;revert j
  refine xgl rfl rfl ?_;show Value.int .i64 ((q.length:Int) - 1)=Value.int .i64 ((q.length - 1:Nat):Int);rw [e]
 ·rw [k9o,h.at_ (i+1) (by omega)];cases q with
  | nil=>simp at hq
  | cons a l=>simp
theorem yny{w:World}{r c N o:Nat}{f:Nat->Nat}{q:List Nat}(h:RgI w r c N o f q)(hq:0<q.length) :
  Calls Tryz.prog 78 #[.pointer (some ⟨r,0,none⟩)] w fun x w'=>x= .returned (.tuple #[])∧RgI w' r c N ((o+1)%N) f q.tail∧Two r c w w':=by
 have HI:Hid (RgI w r c N o f q):=h;have hl:=h.hq;have hN:=h.small;clear h;go_enter Tryz.func78,Tryz.ntmps78
 go_wp2_with fail
 refine (kjm 1 HI.out (by omega)).mono ?_;rintro e w1 ⟨rfl,n1,hw1⟩;have I1:RgI w1 r c N o f q:=by rw [hw1];exact HI.out.drewN n1
 have T1:Two r c w w1:=by rw [hw1];exact (Two.refl r c w).drewN n1
 have f1:=I1.row.frozen 1;have f2:=I1.row.frozen 2;have c1:w1.cell? ⟨r,1,none⟩=some (.int .i64 o):=I1.row.cell (i:=1) (by omega);have c2:w1.cell? ⟨r,2,none⟩=some (.int .i64 q.length):=I1.row.cell (i:=2) (by omega);have HR:Hid (RgI ((w1.setCell ⟨r,1,none⟩ (.int .i64 (((o+1)%N:Nat):Int))).setCell ⟨r,2,none⟩ (.int .i64 ((q.length:Int) - 1))) r c N ((o+1)%N) f q.tail∧Two r c w ((w1.setCell ⟨r,1,none⟩ (.int .i64 (((o+1)%N:Nat):Int))).setCell ⟨r,2,none⟩ (.int .i64 ((q.length:Int) - 1)))):=⟨I1.drop hq,(T1.trans (Two.set1 r c w1 1 _)).trans (Two.set1 r c _ 2 _)⟩
 clear hw1 I1 T1;obtain ⟨o1,ho1⟩:∃ o1,o1=(o+1)%N:=⟨_,rfl⟩
 rw [← ho1] at HR ⊢;have HO:Hid (o1=(o+1)%N):=ho1;clear ho1;go_wp2_with fail
 go_end0
 rw [← HO.out];exact ⟨rfl,HR.out⟩
theorem RgI.push{w:World}{r c N o:Nat}{f:Nat->Nat}{q:List Nat}(b:Nat)(h:RgI w r c N o f q)(hq:q.length<N) :
  RgI ((w.setCell ⟨c,(o+q.length)%N,none⟩ (.int .u8 b)).setCell ⟨r,2,none⟩ (.int .i64 ((q.length:Int)+1))) r c N o (fun j=>if j=(o+q.length)%N then b else f j) (q++[b]):=by
 refine ⟨?_,?_,h.pos,h.small,h.ho,by simp;omega,fun i hi=>?_,h.ne⟩
 ·refine ((h.row.setOther (a:=⟨c,(o+q.length)%N,none⟩) h.ne _).set 2 _).congr ?_;intro j hj;revert j
  refine xgl rfl rfl ?_;show Value.int .i64 ((q.length:Int)+1)=Value.int .i64 ((q++[b]).length:Nat);simp
 ·refine ((h.cells.set ((o+q.length)%N) _).setOther (a:=⟨r,2,none⟩) (Ne.symm h.ne) _).congr fun j _=>?_
  by_cases e:j=(o+q.length)%N
  ·rw [if_pos e,if_pos e]
  ·rw [if_neg e,if_neg e]
 ·have hi':i<=q.length:=by simp at hi;omega
  by_cases e:i=q.length
  ·subst e;rw [if_pos rfl];simp
  ·have hlt:i<q.length:=by omega
   have hne:(o+i)%N≠(o+q.length)%N:=by
    intro e2;have ho:=h.ho;have h1:(o+i)%N=if o+i<N then o+i else o+i - N:=by
     split
     ·exact Nat.mod_eq_of_lt (by assumption)
     ·rw [Nat.mod_eq_sub_mod (by omega),Nat.mod_eq_of_lt (by omega)]
    have h2:(o+q.length)%N=if o+q.length<N then o+q.length else o+q.length - N:=by
     split
     ·exact Nat.mod_eq_of_lt (by assumption)
     ·rw [Nat.mod_eq_sub_mod (by omega),Nat.mod_eq_of_lt (by omega)]
    rw [h1,h2] at e2;split at e2 <;> split at e2 <;> omega
   rw [if_neg hne,h.at_ i hlt];simp [List.getElem?_append,hlt]
theorem yis{w:World}{r c N o:Nat}{f:Nat->Nat}{q:List Nat}(k:Nat)(h:RgI w r c N o f q)(h1:1<=k)(hk:k<=q.length) :
  Calls Tryz.prog 150 #[.pointer (some ⟨r,0,none⟩), .int .i64 k] w fun x w'=>x= .returned (.int .u8 (q.getD (q.length - k) 0:Nat))∧∃ n,w'=w.drewN n:=by
 have HI:Hid (RgI w r c N o f q):=h;have hl:=h.hq;have hN:=h.small;have hp:=h.pos;have c0:w.cell? ⟨r,0,none⟩=some (.slice (some ⟨c,0,none⟩) N N):=h.row.cell (i:=0) (by omega);have c2:w.cell? ⟨r,2,none⟩=some (.int .i64 q.length):=h.row.cell (i:=2) (by omega);obtain ⟨d,hd⟩:∃ d,d=q.length - k:=⟨_,rfl⟩
 have hdi:IntKind.i64.wrap ((q.length:Int) - k)=(d:Int):=by
  rw [IntWalk.i64_left,IntWalk.wrap64_in _ ⟨by omega,by omega⟩];omega
 have hdi2:(q.length:Int) - k=(d:Int):=by omega
 have hpl:(o+d)%N<N:=Nat.mod_lt _ hp;have hv:f ((o+d)%N)=q.getD d 0:=h.at_ d (by omega);have cc:w.cell? ⟨c,(o+d)%N,none⟩=some (.int .u8 (q.getD d 0:Nat)):=by rw [← hv];exact h.cells.cell hpl
 have HPL:Hid (∀ n,Calls Tryz.prog 108 #[.pointer (some ⟨r,0,none⟩), .int .i64 d] (w.drewN n) fun x w'=>x= .returned (.int .i64 ((o+d)%N:Nat))∧∃ m,w'=(w.drewN n).drewN m):=fun n=>kjm d (HI.out.drewN n) (by omega)
 rw [← hd];clear h hv hd;obtain ⟨a,ha⟩:∃ a,a=(o+d)%N:=⟨_,rfl⟩
 rw [← ha] at HPL hpl cc;have hai:(a:Int)<(N:Int):=by omega
 clear ha;go_enter Tryz.func150,Tryz.ntmps150
 go_wp2_with fail
 go_quiet ((go_at_call 108;exact Calls.quiet_of (HPL.out _)))
 go_wp2_with fail
 go_ret
 exact ⟨rfl,_,rfl⟩
theorem yiw{w:World}{r c N o:Nat}{f:Nat->Nat}{q:List Nat}(b:Nat)(h:RgI w r c N o f q)(hq:q.length<N) :
  Calls Tryz.prog 167 #[.pointer (some ⟨r,0,none⟩), .int .u8 b] w fun x w'=>x= .returned (.tuple #[])∧(∃ f',RgI w' r c N o f' (q++[b]))∧Two r c w w':=by
 have hfl:decide (q.length=N)=false:=by simp;omega
 have hN:=h.small;have hp:=h.pos;have HI:Hid (RgI w r c N o f q):=h;have HPL:Hid (∀ w',RgI w' r c N o f q->Calls Tryz.prog 108 #[.pointer (some ⟨r,0,none⟩), .int .i64 q.length] w' fun x w''=>x= .returned (.int .i64 ((o+q.length)%N:Nat))∧∃ m,w''=w'.drewN m):=fun w' h'=>kjm q.length h' (by omega)
 have hpl:(o+q.length)%N<N:=Nat.mod_lt _ hp;have HPU:Hid (∀ w',RgI w' r c N o f q->RgI ((w'.setCell ⟨c,(o+q.length)%N,none⟩ (.int .u8 b)).setCell ⟨r,2,none⟩ (.int .i64 ((q.length:Int)+1))) r c N o (fun j=>if j=(o+q.length)%N then b else f j) (q++[b])):=fun w' h'=>h'.push b hq
 clear h;obtain ⟨a,ha⟩:∃ a,a=(o+q.length)%N:=⟨_,rfl⟩
 rw [← ha] at HPL hpl HPU;have hai:(a:Int)<(N:Int):=by omega
 clear ha;go_enter Tryz.func167,Tryz.ntmps167
 go_wp2_with fail
 refine (zzm HI.out).mono ?_;rintro e w1 ⟨rfl,n1,hw1⟩;rw [hfl];have HI1:Hid (RgI w1 r c N o f q∧Two r c w w1):=by show _∧_;rw [hw1];exact ⟨HI.out.drewN n1,(Two.refl r c w).drewN n1⟩
 have c0:w1.cell? ⟨r,0,none⟩=some (.slice (some ⟨c,0,none⟩) N N):=HI1.out.1.row.cell (i:=0) (by omega);have c2:w1.cell? ⟨r,2,none⟩=some (.int .i64 q.length):=HI1.out.1.row.cell (i:=2) (by omega);have f2:=HI1.out.1.row.frozen 2;have ca:=HI1.out.1.cells.cell hpl;have fa:=HI1.out.1.cells.frozen a;have hrc:=HI1.out.1.ne;clear hw1 HI hfl;go_wp2_with fail
 go_region_with (go_at_call 108;refine (HPL.out _ (HI1.out.1.drewN 1)).mono ?_;rintro e w2 ⟨rfl,n2,hw2⟩;have HI2:Hid (RgI w2 r c N o f q∧Two r c w w2):=by { show _∧_;rw [hw2];exact ⟨(HI1.out.1.drewN 1).drewN n2,((HI1.out.2.drewN 1)).drewN n2⟩ };have k0:w2.cell? ⟨r,0,none⟩=some (.slice (some ⟨c,0,none⟩) N N):=HI2.out.1.row.cell (i:=0) (by omega);have k2:w2.cell? ⟨r,2,none⟩=some (.int .i64 q.length):=HI2.out.1.row.cell (i:=2) (by omega);have z2:=HI2.out.1.row.frozen 2;have ka:=HI2.out.1.cells.cell hpl;have za:=HI2.out.1.cells.frozen a;clear hw2)
 all_goals
  go_wp2_with fail
  go_end0
  exact ⟨rfl,⟨_,HPU.out _ HI2.out.1⟩,(HI2.out.2.trans (Two.set2 r c w2 a _)).trans (Two.set1 r c _ 2 _)⟩
theorem vxn{w:World}{r c N o:Nat}{f:Nat->Nat}{q:List Nat}(b:Nat)(h:RgI w r c N o f q)(hq:q.length=N) :
  Calls Tryz.prog 167 #[.pointer (some ⟨r,0,none⟩), .int .u8 b] w fun x w'=>x= .returned (.tuple #[])∧(∃ f',RgI w' r c N ((o+1)%N) f' (q.tail++[b]))∧Two r c w w':=by
 have hfl:decide (q.length=N)=true:=by simp;omega
 have hN:=h.small;have hp:=h.pos;have HI:Hid (RgI w r c N o f q∧q.length=N):=⟨h,hq⟩
 have htl:q.tail.length=N - 1:=by simp;omega
 have HPL:Hid (∀ w',RgI w' r c N ((o+1)%N) f q.tail->Calls Tryz.prog 108 #[.pointer (some ⟨r,0,none⟩), .int .i64 q.tail.length] w' fun x w''=>x= .returned (.int .i64 (((o+1)%N+q.tail.length)%N:Nat))∧∃ m,w''=w'.drewN m):=fun w' h'=>kjm q.tail.length h' (by omega)
 have hpl:((o+1)%N+q.tail.length)%N<N:=Nat.mod_lt _ hp;have HPU:Hid (∀ w',RgI w' r c N ((o+1)%N) f q.tail->RgI ((w'.setCell ⟨c,((o+1)%N+q.tail.length)%N,none⟩ (.int .u8 b)).setCell ⟨r,2,none⟩ (.int .i64 ((q.tail.length:Int)+1))) r c N ((o+1)%N) (fun j=>if j=((o+1)%N+q.tail.length)%N then b else f j) (q.tail++[b])):=fun w' h'=>h'.push b (by omega)
 have hq0:0<q.length:=by omega
 clear h hq;obtain ⟨a,ha⟩:∃ a,a=((o+1)%N+q.tail.length)%N:=⟨_,rfl⟩
 rw [← ha] at HPL hpl HPU;have hai:(a:Int)<(N:Int):=by omega
 clear ha;go_enter Tryz.func167,Tryz.ntmps167
 go_wp2_with fail
 refine (zzm HI.out.1).mono ?_;rintro e w0 ⟨rfl,n1,hw1⟩;rw [hfl];have HI0:Hid (RgI w0 r c N o f q∧Two r c w w0):=by show _∧_;rw [hw1];exact ⟨HI.out.1.drewN n1,(Two.refl r c w).drewN n1⟩
 clear hw1 hfl;go_wp2_with fail
 refine (yny HI0.out.1 hq0).mono ?_;rintro e w1 ⟨rfl,hI1,hT1⟩;have HI1:Hid (RgI w1 r c N ((o+1)%N) f q.tail∧Two r c w w1):=⟨hI1,HI0.out.2.trans hT1⟩
 clear hI1 hT1 HI0;obtain ⟨o1,ho1⟩:∃ o1,o1=(o+1)%N:=⟨_,rfl⟩
 rw [← ho1] at HI1 HPL HPU;have HO1:Hid (o1=(o+1)%N):=ho1;clear ho1;obtain ⟨qt,hqt⟩:∃ qt,qt=q.tail:=⟨_,rfl⟩
 rw [← hqt] at HI1 HPL HPU htl;have HQT:Hid (qt=q.tail):=hqt;clear hqt;have c0:w1.cell? ⟨r,0,none⟩=some (.slice (some ⟨c,0,none⟩) N N):=HI1.out.1.row.cell (i:=0) (by omega);have c2:w1.cell? ⟨r,2,none⟩=some (.int .i64 qt.length):=HI1.out.1.row.cell (i:=2) (by omega);have f2:=HI1.out.1.row.frozen 2;have ca:=HI1.out.1.cells.cell hpl;have fa:=HI1.out.1.cells.frozen a;have hrc:=HI1.out.1.ne;have HTL:Hid (qt.length=N - 1):=htl;have hqb:qt.length<=1000000:=by omega
 clear htl hq0;go_wp2_with fail
 go_region_with (go_at_call 108;refine (HPL.out _ (HI1.out.1.drewN 1)).mono ?_;rintro e w2 ⟨rfl,n2,hw2⟩;have HI2:Hid (RgI w2 r c N o1 f qt∧Two r c w w2):=by { show _∧_;rw [hw2];exact ⟨(HI1.out.1.drewN 1).drewN n2,((HI1.out.2.drewN 1)).drewN n2⟩ };have k0:w2.cell? ⟨r,0,none⟩=some (.slice (some ⟨c,0,none⟩) N N):=HI2.out.1.row.cell (i:=0) (by omega);have k2:w2.cell? ⟨r,2,none⟩=some (.int .i64 qt.length):=HI2.out.1.row.cell (i:=2) (by omega);have z2:=HI2.out.1.row.frozen 2;have ka:=HI2.out.1.cells.cell hpl;have za:=HI2.out.1.cells.frozen a;clear hw2)
 all_goals
  go_wp2_with fail
  go_end0
  rw [← HO1.out,← HQT.out];exact ⟨rfl,⟨_,HPU.out _ HI2.out.1⟩,(HI2.out.2.trans (Two.set2 r c w2 a _)).trans (Two.set1 r c _ 2 _)⟩
def vh3(w:World)(n:Nat)(x:Ending)(w':World):Prop:=∃ r c,x= .returned (.pointer (some ⟨r,0,none⟩))∧RgI w' r c n 0 (fun _=>0) []∧w.heap.size<=r∧w.heap.size<=c∧Below w.heap.size w w'
theorem joa(n:Nat)(w:World)(h0:0<n)(hn:n<=1000000) :
  Calls Tryz.prog 74 #[.int .i64 n] w fun x w'=>vh3 w n x w':=by
 have hmk:=run_make_row' (P:=Tryz.prog) 34 5 (.int .u8 0) 1 Tryz.underlying34 kh5 rfl .i64 .i64 n (by omega) (by omega);go_enter Tryz.func74,Tryz.ntmps74
 go_wp2_with fail
 go_ret
 have r1:=World.rowIs_made w (.int .u8 0) n 5;refine ⟨w.heap.size+1,w.heap.size,rfl,⟨⟨#[.slice (some ⟨w.heap.size,0,none⟩) n n, .int .i64 0, .int .i64 0],?_,rfl,?_⟩,r1.alloc _,h0,hn,h0,Nat.zero_le _,fun i hi=>by simp at hi,by omega⟩,by omega,Nat.le_refl _,((Below.refl _ _).alloc (Nat.le_refl _) _).alloc (by simp) _⟩
 ·have:=heap_alloc_new (w.alloc (.cells (madeCells #[.int .u8 0] n) 5)) (.cells #[.slice (some ⟨w.heap.size,0,none⟩) n n, .int .i64 0, .int .i64 0] 164);simpa using this
 ·exact xgl rfl rfl rfl
structure TakI(w:World)(r c N o g m:Nat)(f:Nat->Nat)(q:List Nat)(wr:World)(k:Nat):Prop where
 rg:RgI wr r c N ((o+k)%N) f (q.drop k)
 out:wr.rowIs g 5 m (fun j=> .int .u8 (if j<k then q.getD j 0 else 0:Nat))
 kp:Kp (fun x=>x=r∨x=c) (fun x=>x) w wr
 os:wr.os=w.os
 tape:wr.tape=w.tape
 output:wr.output=w.output
theorem tail_drop(q:List Nat)(k:Nat):(q.drop k).tail=q.drop (k+1):=by rw [List.tail_drop]
theorem TakI.next{w:World}{r c N o g m:Nat}{f:Nat->Nat}{q:List Nat}{wr w1 w2:World}{k:Nat}(h:TakI w r c N o g m f q wr k)(hg:w.heap.size<=g)(hgr:g≠r)(hgc:g≠c)(hk:k<q.length)(e1:w1=wr.setCell ⟨g,k,none⟩ (.int .u8 (q.getD k 0:Nat)))(hI:RgI w2 r c N (((o+k)%N+1)%N) f (q.drop k).tail)(hT:Two r c w1 w2):TakI w r c N o g m f q w2 (k+1):=by
 have hkp1:Kp (fun x=>x=r∨x=c) (fun x=>x) w w1:=by
  refine ⟨by rw [e1];simpa [World.setCell] using h.kp.size,fun x hx hr=>?_⟩;rw [e1,Below.heap_setCell _ _ _ _ (by show x≠g;omega)];exact h.kp.block x hx hr
 refine ⟨?_,?_,hkp1.trans hT.kp,by rw [hT.os,e1];exact h.os,by rw [hT.tape,e1];exact h.tape,by rw [hT.output,e1];exact h.output⟩
 ·have e:((o+k)%N+1)%N=(o+(k+1))%N:=by rw [Nat.mod_add_mod];rfl
  rw [e,tail_drop] at hI;exact hI
 ·have r1:w1.rowIs g 5 m (fun j=> .int .u8 (if j<k+1 then q.getD j 0 else 0:Nat)):=by
   rw [e1];refine (h.out.set k _).congr fun i _=>?_
   by_cases e:i=k
   ·subst e;rw [if_pos rfl,if_pos (by omega)]
   ·rw [if_neg e];by_cases e2:i<k
    ·rw [if_pos e2,if_pos (by omega)]
    ·rw [if_neg e2,if_neg (by omega)]
  exact r1.of_block (hT.kp.block g r1.lt (by intro x;rcases x with x | x;exact hgr x;exact hgc x))
def zdh(w:World)(r c N o m:Nat)(f:Nat->Nat)(q:List Nat)(x:Ending)(w':World):Prop:=∃ g,x= .returned (.slice (some ⟨g,0,none⟩) m m)∧w.heap.size<=g∧w'.rowIs g 5 m (fun j=> .int .u8 (q.getD j 0:Nat))∧RgI w' r c N ((o+m)%N) f (q.drop m)∧Two r c w w'
theorem vv3{w:World}{r c N o:Nat}{f:Nat->Nat}{q:List Nat}(most:Nat)(h:RgI w r c N o f q)(hc:c<w.heap.size)(hm:most<=1000000) :
  Calls Tryz.prog 52 #[.pointer (some ⟨r,0,none⟩), .int .i64 most] w fun x w'=>zdh w r c N o (min most q.length) f q x w':=by
 obtain ⟨m,hmm⟩:∃ m,m=min most q.length:=⟨_,rfl⟩
 have hm1:m<=q.length:=by omega
 have hqN:=h.hq;have hN:=h.small;have hmk1:=run_make_row' (P:=Tryz.prog) 34 5 (.int .u8 0) 1 Tryz.underlying34 kh5 rfl .i64 .i64 most (by omega) (by omega);have hmk2:=run_make_row' (P:=Tryz.prog) 34 5 (.int .u8 0) 1 Tryz.underlying34 kh5 rfl .i64 .i64 q.length (by omega) (by omega);have hmk0:∀ w:World,(Instr.makeSlice 34 (.int .i64 0) (.int .i64 0)).run Tryz.prog w= .ok (.slice (some ⟨w.heap.size,0,none⟩) 0 0) (w.alloc (.cells (madeCells #[.int .u8 0] 0) 5)):=run_make_row' (P:=Tryz.prog) 34 5 (.int .u8 0) 1 Tryz.underlying34 kh5 rfl .i64 .i64 0 (by omega) (by omega);have c2:w.cell? ⟨r,2,none⟩=some (.int .i64 q.length):=h.row.cell (i:=2) (by omega);have hr:r<w.heap.size:=h.row.lt;have HMM:Hid (m=min most q.length):=hmm;rw [← hmm];have H0:Hid (TakI w r c N o w.heap.size m f q (w.alloc (.cells (madeCells #[.int .u8 0] m) 5)) 0):=by
  refine ⟨?_,?_,Kp.of_below ((Below.refl _ _).alloc (Nat.le_refl _) _),rfl,rfl,rfl⟩
  ·rw [Nat.add_zero,Nat.mod_eq_of_lt h.ho,List.drop_zero];exact ⟨h.row.alloc _,h.cells.alloc _,h.pos,h.small,h.ho,h.hq,h.at_,h.ne⟩
  ·refine (World.rowIs_made w (.int .u8 0) m 5).congr fun i _=>?_
   rw [if_neg (by omega)];rfl
 clear h hmm;go_enter Tryz.func52,Tryz.ntmps52
 go_upto_region 1 with fail
 go_cut [5] (fun s5 wx=>s5= .slice (some ⟨w.heap.size,0,none⟩) m m∧wx=w.alloc (.cells (madeCells #[.int .u8 0] m) 5))
 case first=>
  by_cases h1:q.length<most
  ·have hmq:m=q.length:=by have:=HMM.out;omega
   by_cases h2:0<q.length
   ·go_wp2_with fail
    go_meet
    rw [hmq];exact ⟨rfl,rfl⟩
   ·have HM0:Hid (m=0):=by show m=0;omega
    clear hmq;go_wp2_with fail
    go_meet
    rw [HM0.out];exact ⟨rfl,rfl⟩
  ·have hmq:m=most:=by have:=HMM.out;omega
   by_cases h2:0<most
   ·go_wp2_with fail
    go_meet
    rw [hmq];exact ⟨rfl,rfl⟩
   ·have HM0:Hid (m=0):=by show m=0;omega
    clear hmq;go_wp2_with fail
    go_meet
    rw [HM0.out];exact ⟨rfl,rfl⟩
 case rest=>
 obtain ⟨rfl,rfl⟩:=hcut;clear hmk0 hmk1 hmk2 c2 HMM;go_wp2_with fail
 obtain ⟨g,hg⟩:∃ g,g=w.heap.size:=⟨_,rfl⟩
 rw [← hg] at H0 ⊢;have hgw:w.heap.size<=g:=by omega
 have hgr:g≠r:=by omega
 have hgc:g≠c:=by omega
 have HGE:Hid (w.heap.size<=g):=hgw;clear hg;go_loopw [17] (fun i wr=>∃ k:Nat,k<=m∧i= .int .i64 k∧Hid (TakI w r c N o g m f q wr k)) (fun i _=>m - (intOf i).toNat)
 case atStart=>exact ⟨0,Nat.zero_le _,rfl,H0⟩
 case round=>
  obtain ⟨k,hk,rfl,HH⟩:=hrel;clear H0;by_cases hlt:k<m
  ·have hkq:k<q.length:=by omega
   have c0:wr.cell? ⟨r,0,none⟩=some (.slice (some ⟨c,0,none⟩) N N):=HH.out.rg.row.cell (i:=0) (by omega);have c1:wr.cell? ⟨r,1,none⟩=some (.int .i64 ((o+k)%N:Nat)):=HH.out.rg.row.cell (i:=1) (by omega);have ho:=HH.out.rg.ho;have hv:f ((o+k)%N)=q.getD k 0:=by
    have:=HH.out.rg.at_ 0 (by simp;omega);rw [Nat.add_zero,Nat.mod_eq_of_lt ho] at this;rw [this];simp
   have cc:wr.cell? ⟨c,(o+k)%N,none⟩=some (.int .u8 (q.getD k 0:Nat)):=by rw [← hv];exact HH.out.rg.cells.cell ho
   have cg:=HH.out.out.cell hlt;have fg:=HH.out.out.frozen k;have HDQ:Hid (0<(q.drop k).length):=by show 0<_;simp;omega
   have HRG:Hid (RgI (wr.setCell ⟨g,k,none⟩ (.int .u8 (q.getD k 0:Nat))) r c N ((o+k)%N) f (q.drop k)):=by
    have h:=HH.out.rg;exact ⟨h.row.setOther (a:=⟨g,k,none⟩) (Ne.symm hgr) _,h.cells.setOther (a:=⟨g,k,none⟩) (Ne.symm hgc) _,h.pos,h.small,h.ho,h.hq,h.at_,h.ne⟩
   have HNX:Hid (∀ w1 w2,w1=wr.setCell ⟨g,k,none⟩ (.int .u8 (q.getD k 0:Nat))->RgI w2 r c N (((o+k)%N+1)%N) f (q.drop k).tail->Two r c w1 w2->TakI w r c N o g m f q w2 (k+1)):=fun w1 w2 e1 hI hT=>HH.out.next HGE.out hgr hgc hkq e1 hI hT
   clear hv;obtain ⟨a,ha⟩:∃ a,a=(o+k)%N:=⟨_,rfl⟩
   rw [← ha] at c1 ho cc HRG HNX;clear ha;have hai:(a:Int)<(N:Int):=by omega
   obtain ⟨bv,hbv⟩:∃ bv,bv=q.getD k 0:=⟨_,rfl⟩
   rw [← hbv] at cc HRG HNX;clear hbv;have hki:(k:Int)<(m:Int):=by omega
   go_wp2_with fail
   go_region
   all_goals
    go_wp2_with fail
    refine (yny (HRG.out.drewN 1) HDQ.out).mono ?_;rintro e w2 ⟨rfl,hI,hT⟩;have HN:Hid (TakI w r c N o g m f q w2 (k+1)):=HNX.out _ w2 rfl hI (((Two.refl r c _).drewN 1).trans hT);clear hI hT;go_wp2_with fail
    go_roundw
    case rel=>exact ⟨k+1,by omega,by go_num,HN⟩
    case measure=>simp [intOf];omega
  ·obtain rfl:k=m:=by omega
   go_wp2_with fail
   go_ret
   refine ⟨g,rfl,HGE.out,HH.out.out.congr fun i hi=>by rw [if_pos hi],HH.out.rg,⟨HH.out.kp,HH.out.os,HH.out.tape,HH.out.output⟩⟩
structure Quo where
 out:Nat
 ratio:Nat
 slack:Nat
 steps:Nat
def vcn(q:Quo)(i o:Nat):Nat:=if q.steps<=i+o then 16 else if q.out<=o then 17 else if q.ratio*i+q.slack<=o then 18 else 0
inductive j3w(q:Quo)(D:Nat)(s:ByteArray):Cf->Cf->Prop
 | take (c:Cf):c.σ.act= .take->c.pre.length<s.size->¬ q.steps<=c.pre.length+c.outs.length->j3w q D s c { c with σ:=c.σ.add (k0w s c.pre.length),pre:=c.pre++[k0w s c.pre.length] }
 | put (c:Cf) (b:Nat) (σ':St):c.σ.act= .put b σ'->¬ D+64<=c.outs.length->vcn q c.pre.length c.outs.length=0->j3w q D s c { c with σ:=σ',outs:=c.outs++[b],ats:=c.ats++[c.pre.length] }
 | tau (c:Cf) (σ':St):c.σ.act= .tau σ'->j3w q D s c { c with σ:=σ',starts:=if c.σ.st=23 then c.starts++[c.pre.length - 1] else c.starts }
inductive v44(q:Quo)(D:Nat)(s:ByteArray):Cf->Cf->Prop
 | refl (c:Cf):v44 q D s c c
 | step (a b c:Cf):j3w q D s a b->v44 q D s b c->v44 q D s a c
theorem v44.trans{q:Quo}{D:Nat}{s:ByteArray}{a b c:Cf}(h:v44 q D s a b)(k:v44 q D s b c):v44 q D s a c:=by
 induction h with
 | refl=>exact k
 | step a b _ h1 _ ih=>exact .step a b _ h1 (ih k)
theorem v44.one{q:Quo}{D:Nat}{s:ByteArray}{a b:Cf}(h:j3w q D s a b):v44 q D s a b:= .step a b b h (.refl b)
inductive Halt(q:Quo)(D:Nat)(s:ByteArray)(closed:Bool)(c:Cf):Nat->Option Bool->Prop
 | hungry:c.σ.act= .take->s.size<=c.pre.length->Halt q D s closed c (if closed=true∧c.σ.st<23 then 15 else 0) (if closed=true then some (decide (¬ c.σ.st<23)) else none)
 | steps:c.σ.act= .take->c.pre.length<s.size->q.steps<=c.pre.length+c.outs.length->Halt q D s closed c 16 none
 | full (b:Nat) (σ':St):c.σ.act= .put b σ'->D+64<=c.outs.length->Halt q D s closed c 0 none
 | quota (b:Nat) (σ':St):c.σ.act= .put b σ'->¬ D+64<=c.outs.length->vcn q c.pre.length c.outs.length≠0->Halt q D s closed c (vcn q c.pre.length c.outs.length) none
 | fail (e:Nat):c.σ.act= .fail e->Halt q D s closed c e none
structure ypc(c:Cf):Prop where
 below:∀ x∈c.starts,x=0∨x<c.pre.length
 none:c.pre.length=0->c.starts=[0]
 one:c.σ.fmt≠2->c.starts=[0]
 bytes:∀ x∈c.pre,x<256
theorem ypc.begin(fm mem lim:Nat):ypc (Cf.begin fm mem lim):=⟨fun x hx=>by have:x∈[0]:=hx;simp at this;exact Or.inl this,fun _=>rfl,fun _=>rfl,fun x hx=>(by cases hx)⟩
theorem GI.step{fm mem lim:Nat}{q:Quo}{D:Nat}{s:ByteArray}{c c':Cf}(h:GI fm mem lim c)(st:j3w q D s c c')(ht:zik c.pre s):GI fm mem lim c'∧zik c'.pre s:=by
 cases st with
 | take h1 h2 h3=>exact ⟨h.take h1 (z5g _ _),ht.push h2⟩
 | put b σ' h1 h2 h3=>exact ⟨(h.put h1).1,ht⟩
 | tau σ' h1=>exact ⟨h.tau h1,ht⟩
theorem zck{c:Cf}{fm mem lim:Nat}(h:GI fm mem lim c)(hst:c.σ.st=23):c.σ.count=0∨c.σ.count=8:=by
 have few:=h.wf.few;rw [hst] at few;exact St.head_count few
theorem jqu{pre:List Nat}(h:∀ x∈pre,x<256):∃ s:ByteArray,s.size≠0∧zik pre s:=by
 refine ⟨⟨((pre++[0]).map UInt8.ofNat).toArray⟩,by simp [ByteArray.size],⟨by simp [ByteArray.size],fun k hk=>?_⟩⟩;unfold k0w;have h1:=h pre[k] (List.getElem_mem hk);simp only [List.getD_eq_getElem?_getD,List.getElem?_map,List.getElem?_append_left hk,List.getElem?_eq_getElem hk,Option.map_some,Option.getD_some];simp;omega
theorem vv2{c:Cf}{fm mem lim:Nat}(h:GI fm mem lim c)(hby:∀ x∈c.pre,x<256){σ':St}(ha:c.σ.act= .tau σ')(hst:c.σ.st=23):c.σ.fmt=2∧0<c.pre.length:=by
 have hc:=zck h hst;have ha2:=ha;rw [St.act_at hst] at ha2;simp only [St.actAt,St.need] at ha2;have h8:¬ c.σ.count<8:=fun h8=>by rw [if_pos h8] at ha2;cases ha2
 rw [if_neg h8] at ha2;have hf:c.σ.fmt=2:=Classical.byContradiction fun hf=>by rw [if_pos hf] at ha2;cases ha2
 refine ⟨hf,?_⟩;have e:=jqu hby;obtain ⟨s,hs,ht⟩:=e;obtain ⟨t,R,e1,e2,_⟩:=h.tr s hs ht;rw [← e2];show 0<t.inn+c.σ.count / 8;omega
theorem ypc.step{fm mem lim:Nat}{q:Quo}{D:Nat}{s:ByteArray}{c c':Cf}(h:GI fm mem lim c)(b:ypc c)(st:j3w q D s c c'):ypc c':=by
 have N:=St.next h.wf;cases st with
 | take h1 h2 h3=>
  refine ⟨fun x hx=>?_,fun h0=>?_,b.one,St.om_snoc b.bytes (z5g _ _)⟩
  ·have h4:=b.below x hx;show x=0∨x<(c.pre++[_]).length;rw [List.length_append,List.length_singleton];omega
  ·have h5:(c.pre++[k0w s c.pre.length]).length=0:=h0;simp at h5
 | put y σ' h1 h2 h3=>
  rw [h1] at N;exact ⟨b.below,b.none,fun hf=>b.one (by have:=N.2.2.2.1;intro h6;exact hf (this.trans h6)),b.bytes⟩
 | tau σ' h1=>
  rw [h1] at N;have hf:=N.2.2.1;by_cases hst:c.σ.st=23
  ·obtain ⟨f2,hp⟩:=vv2 h b.bytes h1 hst;refine ⟨fun x hx=>?_,fun h0=>by have:c.pre.length=0:=h0;omega,fun h6=>absurd (hf.trans f2) h6,b.bytes⟩;have hx2:x∈(if c.σ.st=23 then c.starts++[c.pre.length - 1] else c.starts):=hx;rw [if_pos hst] at hx2;rcases List.mem_append.1 hx2 with h7 | h7
   ·exact b.below x h7
   ·simp at h7;right;show x<c.pre.length;omega
  ·have e:(if c.σ.st=23 then c.starts++[c.pre.length - 1] else c.starts)=c.starts:=if_neg hst;exact ⟨fun x hx=>b.below x (by rw [← e];exact hx),fun h0=>e.trans (b.none h0),fun h6=>e.trans (b.one fun h7=>h6 (hf.trans h7)),b.bytes⟩
def StrO(w:World)(ad:Option Addr)(P:List ByteArray):Prop:=∀ k (hk:k<P.length),∃ b o,ad=some ⟨b,o,none⟩∧b<w.heap.size∧w.cell? ⟨b,o+k,none⟩=some (.string P[k])
structure MS where
 fm:Nat
 ou:Nat
 ra:Nat
 sl:Nat
 me:Nat
 he:Nat
 sp:Nat
 st:Nat
 er:Nat
 tk:Nat
 pu:Nat
 mb:Nat
 held:Nat
 count:Nat
 marks:Nat
 head:Nat
 hsum:Nat
 sx:Nat
 sy:Nat
 size:Nat
 last:Bool
 left:Nat
 nl:Nat
 nd:Nat
 told:Nat
 hlen:Nat
 hbef:Bool
 hleast:Nat
 hbits:Nat
 lit:Nat
 least:Nat
 bits:Nat
 dist:Nat
 rest:List Nat
 qa:List Nat
 qc:List Nat
 hl:List Int
 row:List Int
 hs:List Int
 la:List Int
 lb:List Int
structure Lo where
 a:Nat
 b:Nat
 c:Nat
 d:Nat
 sv:Value
 sa:Nat
 hv:Value
 hp:Value
 rv:Value
 fx:Value
 sets:Value
def k7n(x:MS)(L:Lo):List Value:=
 [.int .i64 x.fm, .int .i64 x.ou, .int .i64 x.ra, .int .i64 x.sl, .int .i64 x.me, .int .i64 x.he, .int .i64 x.sp,
  .int .i64 x.st, .int .i64 x.er, .int .i64 x.tk, .int .i64 x.pu, .int .i64 x.mb,L.sv, .int .i64 L.sa, .int .u64 x.held, .int .i64 x.count,
  .pointer (some ⟨L.a,0,none⟩), .pointer (some ⟨L.c,0,none⟩), .int .u8 x.marks, .int .i64 x.head, .int .u8 x.hsum, .int .i64 x.sx, .int .i64 x.sy, .int .u16 x.size,
  .bool x.last, .int .i64 x.left, .int .i64 x.nl, .int .i64 x.nd, .int .i64 x.told,L.hv,L.hp, .int .i64 x.hlen, .bool x.hbef, .int .i64 x.hleast, .int .i64 x.hbits,L.rv,
  L.fx,L.sets, .int .u8 x.lit, .int .i64 x.least, .int .i64 x.bits, .int .i64 x.dist]
def lrow(l:List Value)(j:Nat):Value:=l.getD j (.int .i64 0)
theorem ypd{w:World}{p:Nat}{T:TypeId}{n:Nat}{l:List Value}(h:w.rowIs p T n (lrow l))(i:Nat)(v:Value)(hn:l.length=n):(w.setCell ⟨p,i,none⟩ v).rowIs p T n (lrow (l.set i v)):=by
 refine (h.set i v).congr fun j hj=>?_
 unfold lrow;by_cases e:j=i
 ·subst e;rw [if_pos rfl];simp [List.getD_eq_getElem?_getD,hn,hj]
 ·rw [if_neg e];simp [List.getD_eq_getElem?_getD,Ne.symm e]
structure TabS(ρ:Nat->Nat)(w:World)(T:TypeId)(k:Nat)(mean:Nat->List Value)(t:Nat)(l:List Int):Prop where
 tab:∃ m n mg,TabI w T k t m n (cn l) (fc (cn l)) (bgTo l 12) (lgTo l 12) mg∧bsum l 12=n∧(∀ i,i<l.length->0<l.getD i 0->mg (pos l i)=mean i)∧ρ m=8
 role:ρ t=8
 rng:inRange l=true
 len:l.length<=269
def yoe(ρ:Nat->Nat)(w:World)(g:Nat)(la lb:List Int):Prop:=
 ∃ t u,w.rowIs g 224 2 (lrow [.pointer (some ⟨t,0,none⟩), .pointer (some ⟨u,0,none⟩)])∧ρ g=8∧
  TabS ρ w 268 4 (fun i=>(litC i).toList) t la∧TabS ρ w 271 2 (fun i=>(vtb 1 i).toList) u lb
def strN(s:ByteArray):List Nat:=s.data.toList.map UInt8.toNat
structure SupI(ρ:Nat->Nat)(w:World)(v:Value)(sa:Nat)(rest:List Nat):Prop where
 at_:∃ ad P cap,v= .slice ad P.length cap∧StrO w ad P∧P.length<=cap∧cap<=maxLen∧(∀ s∈P,s.size<=maxLen)∧sa<=((P.head?.map ByteArray.size).getD 0)∧rest=(P.flatMap strN).drop sa∧∀ b o,ad=some ⟨b,o,none⟩->ρ b=9
structure MB(ρ:Nat->Nat)(w:World)(p:Nat)(x:MS)(L:Lo):Prop where
 row:w.rowIs p 132 42 (lrow (k7n x L))
 ra:∃ o f,RgI w L.a L.b 64 o f x.qa
 rc:∃ o f,RgI w L.c L.d 256 o f x.qc
 rp:ρ p=1
 rl:ρ L.a=2∧ρ L.b=3∧ρ L.c=4∧ρ L.d=5
structure MT(ρ:Nat->Nat)(w:World)(x:MS)(L:Lo):Prop where
 sup:SupI ρ w L.sv L.sa x.rest
 hl:OI w 0 L.hv x.hl∧∀ g,L.hv.ownBlock=some g->ρ g=6
 rw:OI w 0 L.rv x.row∧∀ g,L.rv.ownBlock=some g->ρ g=7
 hp:x.hs=[]∨∃ t,L.hp= .pointer (some ⟨t,0,none⟩)∧TabS ρ w 265 4 (fun i=>(v3q i).toList) t x.hs
 sets:x.la=[]∨∃ g,L.sets= .pointer (some ⟨g,0,none⟩)∧yoe ρ w g x.la x.lb
 fx:L.fx= .pointer none∨∃ g,L.fx= .pointer (some ⟨g,0,none⟩)∧yoe ρ w g Tr.fixedA Tr.fixedB
 lt:∀ k,ρ k≠0->k<w.heap.size
def MM(ρ:Nat->Nat)(w:World)(p:Nat)(x:MS):Prop:=∃ L,MB ρ w p x L∧MT ρ w x L
structure Fr(R:Nat->Prop)(ρ:Nat->Nat)(w w':World):Prop where
 kp:Kp R ρ w w'
 os:w'.os=w.os
 tape:w'.tape=w.tape
 output:w'.output=w.output
theorem Fr.refl(R:Nat->Prop)(ρ:Nat->Nat)(w:World):Fr R ρ w w:=⟨Kp.refl _ _ _,rfl,rfl,rfl⟩
theorem Fr.trans{R:Nat->Prop}{ρ:Nat->Nat}{a b c:World}(h:Fr R ρ a b)(k:Fr R ρ b c):Fr R ρ a c:=⟨h.kp.trans k.kp,k.os.trans h.os,k.tape.trans h.tape,k.output.trans h.output⟩
theorem Fr.mono{R R':Nat->Prop}{ρ:Nat->Nat}{a b:World}(h:Fr R ρ a b)(hR:∀ x,R x->R' x):Fr R' ρ a b:=⟨h.kp.mono hR,h.os,h.tape,h.output⟩
theorem Fr.below{R:Nat->Prop}{ρ:Nat->Nat}{a b:World}(h:Below a.heap.size a b):Fr R ρ a b:=⟨Kp.of_below h,h.os,h.tape,h.output⟩
theorem Fr.set{R:Nat->Prop}{ρ:Nat->Nat}(a:World)(p:Nat)(i:Nat)(v:Value)(hR:R (ρ p)):Fr R ρ a (a.setCell ⟨p,i,none⟩ v):=⟨Kp.of_set a _ _ hR,rfl,rfl,rfl⟩
theorem Fr.drewN{R:Nat->Prop}{ρ:Nat->Nat}{a b:World}(h:Fr R ρ a b)(n:Nat):Fr R ρ a (b.drewN n):=⟨⟨h.kp.size,h.kp.block⟩,h.os,h.tape,h.output⟩
theorem Fr.two{R:Nat->Prop}{ρ:Nat->Nat}{r c:Nat}{a b:World}(h:Two r c a b)(h1:R (ρ r))(h2:R (ρ c)):Fr R ρ a b:=⟨⟨h.kp.size,fun k hk hr=>h.kp.block k hk (fun e=>by rcases e with e | e <;> subst e <;> exact hr (by assumption))⟩,h.os,h.tape,h.output⟩
theorem TabS.fr{R:Nat->Prop}{ρ:Nat->Nat}{w w':World}{T:TypeId}{k:Nat}{mean:Nat->List Value}{t:Nat}{l:List Int}(h:TabS ρ w T k mean t l)(f:Kp R ρ w w')(h8:¬ R 8):TabS ρ w' T k mean t l:=by
 obtain ⟨m,n,mg,I,h1,h2,h3⟩:=h.tab;refine ⟨⟨m,n,mg,⟨zlz I.row f (by rw [h.role];exact h8),fun j hj=>⟨(I.at_ j hj).1,?_⟩,⟨Nat.lt_of_lt_of_le I.pm.1 f.size,Nat.lt_of_lt_of_le I.pm.2 f.size⟩⟩,h1,h2,h3⟩,h.role,h.rng,h.len⟩;intro i v hv;have:=(I.at_ j hj).2 i v hv;unfold World.cell? at this ⊢;rw [f.block m I.pm.2 (by rw [h3];exact h8)];exact this
theorem yoe.fr{R:Nat->Prop}{ρ:Nat->Nat}{w w':World}{g:Nat}{la lb:List Int}(h:yoe ρ w g la lb)(f:Kp R ρ w w')(h8:¬ R 8):yoe ρ w' g la lb:=by
 obtain ⟨t,u,h1,h2,h3,h4⟩:=h;exact ⟨t,u,zlz h1 f (by rw [h2];exact h8),h2,h3.fr f h8,h4.fr f h8⟩
theorem StrO.kp{R:Nat->Prop}{ρ:Nat->Nat}{w w':World}{ad:Option Addr}{P:List ByteArray}(h:StrO w ad P)(f:Kp R ρ w w')(h0:∀ b o,ad=some ⟨b,o,none⟩->¬ R (ρ b)):StrO w' ad P:=fun k hk=>by
 obtain ⟨b,o,e,h1,h2⟩:=h k hk;refine ⟨b,o,e,Nat.lt_of_lt_of_le h1 f.size,?_⟩;unfold World.cell? at h2 ⊢;rw [f.block b h1 (h0 b o e)];exact h2
theorem SupI.fr{R:Nat->Prop}{ρ:Nat->Nat}{w w':World}{v:Value}{sa:Nat}{rest:List Nat}(h:SupI ρ w v sa rest)(f:Kp R ρ w w')(h0:¬ R 9):SupI ρ w' v sa rest:=by
 obtain ⟨ad,P,cap,e,h1,h2,h3,h4,h5,h6,h7⟩:=h.at_;exact ⟨ad,P,cap,e,h1.kp f (fun b o hb=>by rw [h7 b o hb];exact h0),h2,h3,h4,h5,h6,h7⟩
theorem MT.fr{R:Nat->Prop}{ρ:Nat->Nat}{w w':World}{x:MS}{L:Lo}(h:MT ρ w x L)(f:Kp R ρ w w')(hR:∀ r,R r->r<=5):MT ρ w' x L where
 sup:=h.sup.fr f (fun e=>by have:=hR 9 e;omega)
 hl:=⟨kcz h.hl.1 f (fun g hg e=>by rw [h.hl.2 g hg] at e;have:=hR 6 e;omega),h.hl.2⟩
 rw:=⟨kcz h.rw.1 f (fun g hg e=>by rw [h.rw.2 g hg] at e;have:=hR 7 e;omega),h.rw.2⟩
 hp:=h.hp.imp id fun ⟨t,e,k⟩=>⟨t,e,k.fr f (fun e=>by have:=hR 8 e;omega)⟩
 sets:=h.sets.imp id fun ⟨t,e,k⟩=>⟨t,e,k.fr f (fun e=>by have:=hR 8 e;omega)⟩
 fx:=h.fx.imp id fun ⟨t,e,k⟩=>⟨t,e,k.fr f (fun e=>by have:=hR 8 e;omega)⟩
 lt:=fun k hk=>Nat.lt_of_lt_of_le (h.lt k hk) f.size
theorem x1n{ρ:Nat->Nat}{a b i j:Nat}(ha:ρ a=i)(hb:ρ b=j)(h:i≠j):a≠b:=fun e=>h (by rw [← ha,← hb,e])
theorem RgI.kp{R:Nat->Prop}{ρ:Nat->Nat}{w w':World}{r c N o:Nat}{f:Nat->Nat}{q:List Nat}(h:RgI w r c N o f q)(k:Kp R ρ w w')(h1:¬ R (ρ r))(h2:¬ R (ρ c)):RgI w' r c N o f q:=⟨zlz h.row k h1,zlz h.cells k h2,h.pos,h.small,h.ho,h.hq,h.at_,h.ne⟩
theorem MB.fr{ρ:Nat->Nat}{w w':World}{p:Nat}{x:MS}{L:Lo}(h:MB ρ w p x L)(f:Kp (fun _=>False) ρ w w'):MB ρ w' p x L where
 row:=zlz h.row f (fun e=>e)
 ra:=by obtain ⟨o,g,k⟩:=h.ra;exact ⟨o,g,k.kp f (fun e=>e) (fun e=>e)⟩
 rc:=by obtain ⟨o,g,k⟩:=h.rc;exact ⟨o,g,k.kp f (fun e=>e) (fun e=>e)⟩
 rp:=h.rp
 rl:=h.rl
theorem MM.fr{ρ:Nat->Nat}{w w':World}{p:Nat}{x:MS}(h:MM ρ w p x)(f:Kp (fun _=>False) ρ w w'):MM ρ w' p x:=by
 obtain ⟨L,h1,h2⟩:=h;exact ⟨L,h1.fr f,h2.fr f (fun _ e=>e.elim)⟩
theorem MM.below{ρ:Nat->Nat}{w w':World}{p:Nat}{x:MS}(h:MM ρ w p x)(f:Below w.heap.size w w'):MM ρ w' p x:=h.fr (Kp.of_below f)
theorem MM.drewN{ρ:Nat->Nat}{w:World}{p:Nat}{x:MS}(h:MM ρ w p x)(n:Nat):MM ρ (w.drewN n) p x:=h.fr ⟨Nat.le_refl _,fun _ _ _=>rfl⟩
theorem MB.drewN{ρ:Nat->Nat}{w:World}{p:Nat}{x:MS}{L:Lo}(h:MB ρ w p x L)(n:Nat):MB ρ (w.drewN n) p x L:=h.fr ⟨Nat.le_refl _,fun _ _ _=>rfl⟩
theorem MT.drewN{ρ:Nat->Nat}{w:World}{x:MS}{L:Lo}(h:MT ρ w x L)(n:Nat):MT ρ (w.drewN n) x L:=h.fr (R:=fun _=>False) ⟨Nat.le_refl _,fun _ _ _=>rfl⟩ (fun _ e=>e.elim)
theorem MB.set{ρ:Nat->Nat}{w:World}{p:Nat}{x y:MS}{L M:Lo}(h:MB ρ w p x L)(i:Nat)(v:Value)(e:(k7n x L).set i v=k7n y M)(ha:M.a=L.a∧M.b=L.b∧M.c=L.c∧M.d=L.d)(hq:y.qa=x.qa∧y.qc=x.qc):MB ρ (w.setCell ⟨p,i,none⟩ v) p y M:=by
 obtain ⟨o,f,k⟩:=h.ra;obtain ⟨o2,f2,k2⟩:=h.rc;have hk:Kp (fun r=>r=1) ρ w (w.setCell ⟨p,i,none⟩ v):=Kp.of_set w _ _ h.rp;obtain ⟨r1,r2,r3,r4⟩:=h.rl;obtain ⟨a1,a2,a3,a4⟩:=ha;refine ⟨by rw [← e];exact ypd h.row i v rfl,⟨o,f,?_⟩,⟨o2,f2,?_⟩,h.rp,by rw [a1,a2,a3,a4];exact h.rl⟩
 ·rw [a1,a2,hq.1];exact k.kp hk (by rw [r1];decide) (by rw [r2];decide)
 ·rw [a3,a4,hq.2];exact k2.kp hk (by rw [r3];decide) (by rw [r4];decide)
theorem MT.set{ρ:Nat->Nat}{w:World}{p:Nat}{x:MS}{L:Lo}(h:MT ρ w x L)(hp:ρ p=1)(i:Nat)(v:Value):MT ρ (w.setCell ⟨p,i,none⟩ v) x L:=h.fr (R:=fun r=>r=1) (Kp.of_set w _ _ hp) (fun r e=>by omega)
end Go.Proofs.YtbcjmakpempkiaaGreatDoor
