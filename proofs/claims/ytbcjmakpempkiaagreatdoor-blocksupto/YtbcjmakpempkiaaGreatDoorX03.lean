import Derived.BigRegion
import Derived.Deep.MidRow
import Derived.Laws.Bits64
import Derived.Laws.BitsLemmas
import Derived.Laws.ShiftsVarLaws
import Derived.Test.YtbcjmakpempkiaaGreatDoorX02
set_option maxRecDepth 100000
set_option maxHeartbeats 8000000
set_option linter.all false
namespace Go.Proofs.YtbcjmakpempkiaaGreatDoor
open Go.RowKit
theorem jp3(n:Int)(h₀:0<=n)(h₁:n<2^64):IntKind.u64.wrap n=n:=by
 rw [IntKind.wrap_u64];have:(2:Int)^64=18446744073709551616:=by decide
 omega
theorem jc5{k:Nat}(hk:k<=63):2^k<2^64:=Nat.pow_lt_pow_right (by decide) (by omega)
theorem vxu{a j:Nat}(h:a<2^j):(a:Int)<2^j:=by exact_mod_cast h
theorem vnv(h c b:Nat)(hb:b<256)(hc:c<=56)(hh:h<2^c):bits .or .u64 (h:Int) (IntKind.u64.wrap ((b:Int)*2^c))=((h+2^c*b:Nat):Int):=by
 have h8:2^c*b<2^64:=by
  have h1:2^c*b<2^c*2^8:=Nat.mul_lt_mul_of_pos_left hb (Nat.two_pow_pos c);rw [← Nat.pow_add] at h1;exact Nat.lt_of_lt_of_le h1 (Nat.pow_le_pow_right (by decide) (by omega))
 have e:(b:Int)*2^c=((2^c*b:Nat):Int):=by rw [Nat.mul_comm];simp
 have hh2:h<2^64:=Nat.lt_of_lt_of_le hh (Nat.pow_le_pow_right (by decide) (by omega));rw [e,jp3 _ (by omega) (vxu h8),(bits_nat .u64 64 (by decide) jp3 h _ hh2 h8).2,Nat.or_comm,← Nat.two_pow_add_eq_or_of_lt hh,Nat.add_comm]
theorem kar(h k:Nat)(hk:k<=63)(hh:h<2^64):bits .and .u64 (h:Int) (IntKind.u64.wrap (IntKind.u64.wrap (2^k) - 1))=((h%2^k:Nat):Int):=by
 have e:((2:Int)^k)=((2^k:Nat):Int):=by simp
 have hp:=Nat.two_pow_pos k;have hl:=jc5 hk;have e2:((2^k:Nat):Int) - 1=((2^k - 1:Nat):Int):=by omega
 rw [e,jp3 _ (by omega) (vxu hl),e2,jp3 _ (by omega) (vxu (by omega)),(bits_nat .u64 64 (by decide) jp3 h _ hh (by omega)).1,Nat.and_two_pow_sub_one_eq_mod]
theorem vwe(h:Nat)(hh:h<2^64):bits .and .u64 (h:Int) 1=((h%2:Nat):Int):=by
 have:=bits_mask .u64 64 (by decide) jp3 1 (by decide) (h:Int) (by omega) (vxu hh);have e:((2:Int)^1 - 1)=1:=by decide
 rw [e] at this;rw [this];simp
theorem jnx(n:Nat)(h:n<2^63):wrap64 (n:Int)=(n:Int):=by
 have h2:(2:Nat)^63=9223372036854775808:=by decide
 exact IntWalk.wrap64_in _ ⟨by omega,by omega⟩
theorem z7y(g o h c b:Nat)(w:World)(hb:b<256)(hc:c<=56)(hh:h<2^c)
  (c1:w.cell? ⟨g,o,none⟩=some (.int .u64 h)) (c2:w.cell? ⟨g,o+1,none⟩=some (.int .i64 c)) (f1:w.frozen? ⟨g,o,none⟩=false) (f2:w.frozen? ⟨g,o+1,none⟩=false) :
  Calls Tryz.prog 188 #[.pointer (some ⟨g,o,none⟩), .int .u8 b] w fun x w'=>x= .returned (.tuple #[])∧∃ n,w'=((w.drewN n).setCell ⟨g,o,none⟩ (.int .u64 (h+2^c*b:Nat))).setCell ⟨g,o+1,none⟩ (.int .i64 (c+8:Nat)):=by
 go_enter Tryz.func188,Tryz.ntmps188
 go_wp2_with fail
 go_region
 all_goals
  go_wp2_with fail
  go_end0
  refine ⟨rfl,1,?_⟩;rw [vnv h c b hb hc hh];rfl
theorem zto(g o h c k:Nat)(w:World)(hk:k<=c)(hc:c<=63)(hh:h<2^c)
  (c1:w.cell? ⟨g,o,none⟩=some (.int .u64 h)) (c2:w.cell? ⟨g,o+1,none⟩=some (.int .i64 c)) (f1:w.frozen? ⟨g,o,none⟩=false) (f2:w.frozen? ⟨g,o+1,none⟩=false) :
  Calls Tryz.prog 134 #[.pointer (some ⟨g,o,none⟩), .int .i64 k] w fun x w'=>x= .returned (.int .i64 (h%2^k:Nat))∧∃ n,w'=((w.drewN n).setCell ⟨g,o,none⟩ (.int .u64 (h / 2^k:Nat))).setCell ⟨g,o+1,none⟩ (.int .i64 (c - k:Nat)):=by
 go_enter Tryz.func134,Tryz.ntmps134
 go_wp2_with fail
 go_quiet (fail)
 go_wp2_with fail
 go_ret
 have hh2:h<2^64:=Nat.lt_of_lt_of_le hh (Nat.pow_le_pow_right (by decide) (by omega));have h63:h%2^k<2^63:=Nat.lt_of_lt_of_le (Nat.mod_lt _ (Nat.two_pow_pos k)) (Nat.pow_le_pow_right (by decide) (by omega));refine ⟨?_,nq,?_⟩
 ·show Ending.returned (Value.int .i64 (wrap64 (bits BinOp.and IntKind.u64 (h:Int) (IntKind.u64.wrap (IntKind.u64.wrap (2^k) - 1)))))=_;rw [kar h k (by omega) hh2,jnx _ h63]
 ·have e1:(h:Int) / 2^k=((h / 2^k:Nat):Int):=by simp
  have e2:(c:Int) - k=((c - k:Nat):Int):=by omega
  rw [e1,e2]
theorem yci(g o h c k:Nat)(w:World)(hk:k<c)(hc:c<=63)(hh:h<2^c)
  (c1:w.cell? ⟨g,o,none⟩=some (.int .u64 h)) :
  Calls Tryz.prog 171 #[.pointer (some ⟨g,o,none⟩), .int .i64 k] w fun x w'=>x= .returned (.int .i64 (h / 2^k%2:Nat))∧∃ n,w'=w.drewN n:=by
 go_enter Tryz.func171,Tryz.ntmps171
 go_wp2_with fail
 go_ret
 have hh2:h / 2^k<2^64:=Nat.lt_of_le_of_lt (Nat.div_le_self _ _) (Nat.lt_of_lt_of_le hh (Nat.pow_le_pow_right (by decide) (by omega)));refine ⟨?_,0,rfl⟩;show Ending.returned (Value.int .i64 (wrap64 (bits BinOp.and IntKind.u64 ((h:Int) / 2^k) 1)))=_;have e1:(h:Int) / 2^k=((h / 2^k:Nat):Int):=by simp
 rw [e1,vwe _ hh2,jnx _ (by omega)]
def cfgV(fm ou ra sl me he sp:Nat):Array Value:=#[.int .i64 fm, .int .i64 ou, .int .i64 ra, .int .i64 sl, .int .i64 me, .int .i64 he, .int .i64 sp]
def talV(tk pu mb:Nat):Array Value:=#[.int .i64 tk, .int .i64 pu, .int .i64 mb]
theorem jep(tk pu mb:Nat)(w:World)(h:tk+pu<=9223372036854775807) :
  Calls Tryz.prog 58 #[.agg (talV tk pu mb)] w fun x w'=>x= .returned (.int .i64 (tk+pu:Nat))∧Below w.heap.size w w':=by
 unfold talV;go_enter Tryz.func58,Tryz.ntmps58
 go_wp2_with fail
 go_ret
 refine ⟨?_,(Below.refl _ _).alloc (Nat.le_refl _) _⟩;show Ending.returned (Value.int .i64 _)=_;simp
structure TwoB(w W:World)(g:Nat)(fm ou ra sl me he sp tk pu mb:Nat):Prop where
 t0:W.cell? ⟨g,0,none⟩=some (.int .i64 tk)
 t1:W.cell? ⟨g,1,none⟩=some (.int .i64 pu)
 t2:W.cell? ⟨g,2,none⟩=some (.int .i64 mb)
 c1:W.cell? ⟨g+1,1,none⟩=some (.int .i64 ou)
 c2:W.cell? ⟨g+1,2,none⟩=some (.int .i64 ra)
 c3:W.cell? ⟨g+1,3,none⟩=some (.int .i64 sl)
 c6:W.cell? ⟨g+1,6,none⟩=some (.int .i64 sp)
 bel:Below w.heap.size w W
 g2:g+1<W.heap.size
theorem TwoB.mk2(w:World)(fm ou ra sl me he sp tk pu mb T U:Nat):TwoB w ((w.alloc (.cells (talV tk pu mb) T)).alloc (.cells (cfgV fm ou ra sl me he sp) U)) w.heap.size fm ou ra sl me he sp tk pu mb:=by
 unfold talV cfgV;have a:∀ i,((w.alloc (.cells #[.int .i64 tk, .int .i64 pu, .int .i64 mb] T)).alloc (.cells #[.int .i64 fm, .int .i64 ou, .int .i64 ra, .int .i64 sl, .int .i64 me, .int .i64 he, .int .i64 sp] U)).cell? ⟨w.heap.size,i,none⟩=(w.alloc (.cells #[.int .i64 tk, .int .i64 pu, .int .i64 mb] T)).cell? ⟨w.heap.size,i,none⟩:=fun i=>by
  unfold World.cell?;rw [Go.heap_alloc_old _ _ (by simp)]
 refine ⟨by rw [a];simp,by rw [a];simp,by rw [a];simp,?_,?_,?_,?_,((Below.refl _ _).alloc (Nat.le_refl _) _).alloc (by simp) _,by simp⟩;all_goals
  have:=heap_alloc_new (w.alloc (.cells #[.int .i64 tk, .int .i64 pu, .int .i64 mb] T)) (.cells #[.int .i64 fm, .int .i64 ou, .int .i64 ra, .int .i64 sl, .int .i64 me, .int .i64 he, .int .i64 sp] U);simp only [World.size_alloc] at this;unfold World.cell?;rw [this];rfl
theorem TwoB.step{w W W':World}{g:Nat}{fm ou ra sl me he sp tk pu mb:Nat}(h:TwoB w W g fm ou ra sl me he sp tk pu mb)(b:Below W.heap.size W W'):TwoB w W' g fm ou ra sl me he sp tk pu mb:=by
 have l:g<W.heap.size:=by have:=h.g2;omega
 exact ⟨(b.cell l).trans h.t0,(b.cell l).trans h.t1,(b.cell l).trans h.t2,(b.cell h.g2).trans h.c1,(b.cell h.g2).trans h.c2,(b.cell h.g2).trans h.c3,(b.cell h.g2).trans h.c6,h.bel.trans (b.mono h.bel.size),Nat.lt_of_lt_of_le h.g2 b.size⟩
theorem x44(fm ou ra sl me he sp tk pu mb:Nat)(w:World)(h:tk+pu<=9223372036854775807)(hsp:sp<=9223372036854775807) :
  Calls Tryz.prog 187 #[.agg (talV tk pu mb), .agg (cfgV fm ou ra sl me he sp)] w fun x w'=>x= .returned (.int .i64 (if sp<=tk+pu then 16 else 0:Nat))∧Below w.heap.size w w':=by
 have HS:Hid (∀ w,Calls Tryz.prog 58 #[.agg (talV tk pu mb)] w fun x w'=>x= .returned (.int .i64 (tk+pu:Nat))∧Below w.heap.size w w'):=fun w=>jep tk pu mb w h
 have T0:TwoB w ((w.alloc (.cells (talV tk pu mb) 110)).alloc (.cells (cfgV fm ou ra sl me he sp) 42)) w.heap.size fm ou ra sl me he sp tk pu mb:=TwoB.mk2 w fm ou ra sl me he sp tk pu mb _ _;unfold talV cfgV at *;obtain ⟨n,hn⟩:∃ n,n=tk+pu:=⟨_,rfl⟩
 rw [← hn] at HS h ⊢;clear hn;by_cases hc:sp<=n
 ·rw [if_pos hc];have hci:(sp:Int)<=n:=by omega
  go_enter Tryz.func187,Tryz.ntmps187
  go_wp2_with fail
  have HT:Hid (TwoB w ((w.alloc (.cells #[.int .i64 tk, .int .i64 pu, .int .i64 mb] 110)).alloc (.cells #[.int .i64 fm, .int .i64 ou, .int .i64 ra, .int .i64 sl, .int .i64 me, .int .i64 he, .int .i64 sp] 42)) w.heap.size fm ou ra sl me he sp tk pu mb):=T0;clear T0;generalize ((w.alloc (.cells #[.int .i64 tk, .int .i64 pu, .int .i64 mb] 110)).alloc (.cells #[.int .i64 fm, .int .i64 ou, .int .i64 ra, .int .i64 sl, .int .i64 me, .int .i64 he, .int .i64 sp] 42))=W at *;have t0:=HT.out.t0;have t1:=HT.out.t1;have t2:=HT.out.t2;have c6:=HT.out.c6;have HB:Hid (TwoB w W w.heap.size fm ou ra sl me he sp tk pu mb):=HT.out;have hg2:=HT.out.g2;go_region_held3 (fun wv=>wv.cell? ⟨w.heap.size,0,none⟩=some (.int .i64 tk)∧wv.cell? ⟨w.heap.size,1,none⟩=some (.int .i64 pu)∧wv.cell? ⟨w.heap.size,2,none⟩=some (.int .i64 mb)∧wv.cell? ⟨w.heap.size+1,6,none⟩=some (.int .i64 sp)) (first | exact ⟨t0,t1,t2,c6⟩ | exact ⟨k0,k1,k2,k6⟩)
   (first | (go_at_call 58;refine (HS.out _).mono ?_;rintro e w3 ⟨rfl,hb3⟩;have HT3:Hid (TwoB w w3 w.heap.size fm ou ra sl me he sp tk pu mb):=TwoB.step HB.out (W':=w3) ⟨hb3.os,hb3.tape,hb3.output,hb3.size,hb3.block⟩;have k0:=HT3.out.t0;have k1:=HT3.out.t1;have k2:=HT3.out.t2;have k6:=HT3.out.c6;clear hb3))
  all_goals
   go_wp2_with fail
   go_ret
   exact ⟨rfl,HT3.out.bel⟩
 ·rw [if_neg hc];have hci:¬ (sp:Int)<=n:=by omega
  go_enter Tryz.func187,Tryz.ntmps187
  go_wp2_with fail
  have HT:Hid (TwoB w ((w.alloc (.cells #[.int .i64 tk, .int .i64 pu, .int .i64 mb] 110)).alloc (.cells #[.int .i64 fm, .int .i64 ou, .int .i64 ra, .int .i64 sl, .int .i64 me, .int .i64 he, .int .i64 sp] 42)) w.heap.size fm ou ra sl me he sp tk pu mb):=T0;clear T0;generalize ((w.alloc (.cells #[.int .i64 tk, .int .i64 pu, .int .i64 mb] 110)).alloc (.cells #[.int .i64 fm, .int .i64 ou, .int .i64 ra, .int .i64 sl, .int .i64 me, .int .i64 he, .int .i64 sp] 42))=W at *;have t0:=HT.out.t0;have t1:=HT.out.t1;have t2:=HT.out.t2;have c6:=HT.out.c6;have HB:Hid (TwoB w W w.heap.size fm ou ra sl me he sp tk pu mb):=HT.out;have hg2:=HT.out.g2;go_region_held3 (fun wv=>wv.cell? ⟨w.heap.size,0,none⟩=some (.int .i64 tk)∧wv.cell? ⟨w.heap.size,1,none⟩=some (.int .i64 pu)∧wv.cell? ⟨w.heap.size,2,none⟩=some (.int .i64 mb)∧wv.cell? ⟨w.heap.size+1,6,none⟩=some (.int .i64 sp)) (first | exact ⟨t0,t1,t2,c6⟩ | exact ⟨k0,k1,k2,k6⟩)
   (first | (go_at_call 58;refine (HS.out _).mono ?_;rintro e w3 ⟨rfl,hb3⟩;have HT3:Hid (TwoB w w3 w.heap.size fm ou ra sl me he sp tk pu mb):=TwoB.step HB.out (W':=w3) ⟨hb3.os,hb3.tape,hb3.output,hb3.size,hb3.block⟩;have k0:=HT3.out.t0;have k1:=HT3.out.t1;have k2:=HT3.out.t2;have k6:=HT3.out.c6;clear hb3))
  all_goals
   go_wp2_with fail
   go_ret
   exact ⟨rfl,HT3.out.bel⟩
theorem xxj(fm ou ra sl me he sp tk pu mb:Nat)(w:World)(h:tk+pu<=9223372036854775807)(hsp:sp<=9223372036854775807)(hra:ra*tk+sl<=9223372036854775807)(hou:ou<=9223372036854775807) :
  Calls Tryz.prog 166 #[.agg (talV tk pu mb), .agg (cfgV fm ou ra sl me he sp)] w fun x w'=>x= .returned (.int .i64 (if sp<=tk+pu then 16 else if ou<=pu then 17 else if ra*tk+sl<=pu then 18 else 0:Nat))∧Below w.heap.size w w':=by
 have HS:Hid (∀ w,Calls Tryz.prog 58 #[.agg (talV tk pu mb)] w fun x w'=>x= .returned (.int .i64 (tk+pu:Nat))∧Below w.heap.size w w'):=fun w=>jep tk pu mb w h
 have T0:TwoB w ((w.alloc (.cells (talV tk pu mb) 110)).alloc (.cells (cfgV fm ou ra sl me he sp) 42)) w.heap.size fm ou ra sl me he sp tk pu mb:=TwoB.mk2 w fm ou ra sl me he sp tk pu mb _ _;unfold talV cfgV at *;obtain ⟨n,hn⟩:∃ n,n=tk+pu:=⟨_,rfl⟩
 rw [← hn] at HS h ⊢;have hpn:pu<=n∧tk<=n:=by omega
 clear hn;obtain ⟨R,hR⟩:∃ R,R=ra*tk:=⟨_,rfl⟩
 rw [← hR] at hra ⊢;have hRi:(ra:Int)*tk=(R:Int):=by rw [hR];simp
 clear hR;by_cases hc:sp<=n
 ·rw [if_pos hc];have hci:(sp:Int)<=n:=by omega
  go_enter Tryz.func166,Tryz.ntmps166
  go_wp2_with fail
  have HT:Hid (TwoB w ((w.alloc (.cells #[.int .i64 tk, .int .i64 pu, .int .i64 mb] 110)).alloc (.cells #[.int .i64 fm, .int .i64 ou, .int .i64 ra, .int .i64 sl, .int .i64 me, .int .i64 he, .int .i64 sp] 42)) w.heap.size fm ou ra sl me he sp tk pu mb):=T0;clear T0;generalize ((w.alloc (.cells #[.int .i64 tk, .int .i64 pu, .int .i64 mb] 110)).alloc (.cells #[.int .i64 fm, .int .i64 ou, .int .i64 ra, .int .i64 sl, .int .i64 me, .int .i64 he, .int .i64 sp] 42))=W at *;have t0:=HT.out.t0;have t1:=HT.out.t1;have t2:=HT.out.t2;have c6:=HT.out.c6;have HB:Hid (TwoB w W w.heap.size fm ou ra sl me he sp tk pu mb):=HT.out;have hg2:=HT.out.g2;go_region_held3 (fun wv=>wv.cell? ⟨w.heap.size,0,none⟩=some (.int .i64 tk)∧wv.cell? ⟨w.heap.size,1,none⟩=some (.int .i64 pu)∧wv.cell? ⟨w.heap.size,2,none⟩=some (.int .i64 mb)∧wv.cell? ⟨w.heap.size+1,6,none⟩=some (.int .i64 sp)) (first | exact ⟨t0,t1,t2,c6⟩ | exact ⟨k0,k1,k2,k6⟩)
   (first | (go_at_call 58;refine (HS.out _).mono ?_;rintro e w3 ⟨rfl,hb3⟩;have HT3:Hid (TwoB w w3 w.heap.size fm ou ra sl me he sp tk pu mb):=TwoB.step HB.out (W':=w3) ⟨hb3.os,hb3.tape,hb3.output,hb3.size,hb3.block⟩;have k0:=HT3.out.t0;have k1:=HT3.out.t1;have k2:=HT3.out.t2;have k6:=HT3.out.c6;clear hb3))
  all_goals
   have k3:=HT3.out.c1;have k4:=HT3.out.c2;have k5:=HT3.out.c3;go_wp2_with fail
   go_ret
   exact ⟨rfl,HT3.out.bel⟩
 ·rw [if_neg hc];have hci:¬ (sp:Int)<=n:=by omega
  by_cases hd:ou<=pu
  ·rw [if_pos hd];have hdi:(ou:Int)<=pu:=by omega
   go_enter Tryz.func166,Tryz.ntmps166
   go_wp2_with fail
   have HT:Hid (TwoB w ((w.alloc (.cells #[.int .i64 tk, .int .i64 pu, .int .i64 mb] 110)).alloc (.cells #[.int .i64 fm, .int .i64 ou, .int .i64 ra, .int .i64 sl, .int .i64 me, .int .i64 he, .int .i64 sp] 42)) w.heap.size fm ou ra sl me he sp tk pu mb):=T0;clear T0;generalize ((w.alloc (.cells #[.int .i64 tk, .int .i64 pu, .int .i64 mb] 110)).alloc (.cells #[.int .i64 fm, .int .i64 ou, .int .i64 ra, .int .i64 sl, .int .i64 me, .int .i64 he, .int .i64 sp] 42))=W at *;have t0:=HT.out.t0;have t1:=HT.out.t1;have t2:=HT.out.t2;have c6:=HT.out.c6;have HB:Hid (TwoB w W w.heap.size fm ou ra sl me he sp tk pu mb):=HT.out;have hg2:=HT.out.g2;go_region_held3 (fun wv=>wv.cell? ⟨w.heap.size,0,none⟩=some (.int .i64 tk)∧wv.cell? ⟨w.heap.size,1,none⟩=some (.int .i64 pu)∧wv.cell? ⟨w.heap.size,2,none⟩=some (.int .i64 mb)∧wv.cell? ⟨w.heap.size+1,6,none⟩=some (.int .i64 sp)) (first | exact ⟨t0,t1,t2,c6⟩ | exact ⟨k0,k1,k2,k6⟩)
    (first | (go_at_call 58;refine (HS.out _).mono ?_;rintro e w3 ⟨rfl,hb3⟩;have HT3:Hid (TwoB w w3 w.heap.size fm ou ra sl me he sp tk pu mb):=TwoB.step HB.out (W':=w3) ⟨hb3.os,hb3.tape,hb3.output,hb3.size,hb3.block⟩;have k0:=HT3.out.t0;have k1:=HT3.out.t1;have k2:=HT3.out.t2;have k6:=HT3.out.c6;clear hb3))
   all_goals
    have k3:=HT3.out.c1;have k4:=HT3.out.c2;have k5:=HT3.out.c3;go_wp2_with fail
    go_ret
    exact ⟨rfl,HT3.out.bel⟩
  ·rw [if_neg hd];have hdi:¬ (ou:Int)<=pu:=by omega
   by_cases hf:R+sl<=pu
   ·rw [if_pos hf];have hei:(R:Int)+sl<=pu:=by omega
    go_enter Tryz.func166,Tryz.ntmps166
    go_wp2_with fail
    have HT:Hid (TwoB w ((w.alloc (.cells #[.int .i64 tk, .int .i64 pu, .int .i64 mb] 110)).alloc (.cells #[.int .i64 fm, .int .i64 ou, .int .i64 ra, .int .i64 sl, .int .i64 me, .int .i64 he, .int .i64 sp] 42)) w.heap.size fm ou ra sl me he sp tk pu mb):=T0;clear T0;generalize ((w.alloc (.cells #[.int .i64 tk, .int .i64 pu, .int .i64 mb] 110)).alloc (.cells #[.int .i64 fm, .int .i64 ou, .int .i64 ra, .int .i64 sl, .int .i64 me, .int .i64 he, .int .i64 sp] 42))=W at *;have t0:=HT.out.t0;have t1:=HT.out.t1;have t2:=HT.out.t2;have c6:=HT.out.c6;have HB:Hid (TwoB w W w.heap.size fm ou ra sl me he sp tk pu mb):=HT.out;have hg2:=HT.out.g2;go_region_held3 (fun wv=>wv.cell? ⟨w.heap.size,0,none⟩=some (.int .i64 tk)∧wv.cell? ⟨w.heap.size,1,none⟩=some (.int .i64 pu)∧wv.cell? ⟨w.heap.size,2,none⟩=some (.int .i64 mb)∧wv.cell? ⟨w.heap.size+1,6,none⟩=some (.int .i64 sp)) (first | exact ⟨t0,t1,t2,c6⟩ | exact ⟨k0,k1,k2,k6⟩)
     (first | (go_at_call 58;refine (HS.out _).mono ?_;rintro e w3 ⟨rfl,hb3⟩;have HT3:Hid (TwoB w w3 w.heap.size fm ou ra sl me he sp tk pu mb):=TwoB.step HB.out (W':=w3) ⟨hb3.os,hb3.tape,hb3.output,hb3.size,hb3.block⟩;have k0:=HT3.out.t0;have k1:=HT3.out.t1;have k2:=HT3.out.t2;have k6:=HT3.out.c6;clear hb3))
    all_goals
     have k3:=HT3.out.c1;have k4:=HT3.out.c2;have k5:=HT3.out.c3;go_wp2_with fail
     go_ret
     exact ⟨rfl,HT3.out.bel⟩
   ·rw [if_neg hf];have hei:¬ (R:Int)+sl<=pu:=by omega
    go_enter Tryz.func166,Tryz.ntmps166
    go_wp2_with fail
    have HT:Hid (TwoB w ((w.alloc (.cells #[.int .i64 tk, .int .i64 pu, .int .i64 mb] 110)).alloc (.cells #[.int .i64 fm, .int .i64 ou, .int .i64 ra, .int .i64 sl, .int .i64 me, .int .i64 he, .int .i64 sp] 42)) w.heap.size fm ou ra sl me he sp tk pu mb):=T0;clear T0;generalize ((w.alloc (.cells #[.int .i64 tk, .int .i64 pu, .int .i64 mb] 110)).alloc (.cells #[.int .i64 fm, .int .i64 ou, .int .i64 ra, .int .i64 sl, .int .i64 me, .int .i64 he, .int .i64 sp] 42))=W at *;have t0:=HT.out.t0;have t1:=HT.out.t1;have t2:=HT.out.t2;have c6:=HT.out.c6;have HB:Hid (TwoB w W w.heap.size fm ou ra sl me he sp tk pu mb):=HT.out;have hg2:=HT.out.g2;go_region_held3 (fun wv=>wv.cell? ⟨w.heap.size,0,none⟩=some (.int .i64 tk)∧wv.cell? ⟨w.heap.size,1,none⟩=some (.int .i64 pu)∧wv.cell? ⟨w.heap.size,2,none⟩=some (.int .i64 mb)∧wv.cell? ⟨w.heap.size+1,6,none⟩=some (.int .i64 sp)) (first | exact ⟨t0,t1,t2,c6⟩ | exact ⟨k0,k1,k2,k6⟩)
     (first | (go_at_call 58;refine (HS.out _).mono ?_;rintro e w3 ⟨rfl,hb3⟩;have HT3:Hid (TwoB w w3 w.heap.size fm ou ra sl me he sp tk pu mb):=TwoB.step HB.out (W':=w3) ⟨hb3.os,hb3.tape,hb3.output,hb3.size,hb3.block⟩;have k0:=HT3.out.t0;have k1:=HT3.out.t1;have k2:=HT3.out.t2;have k6:=HT3.out.c6;clear hb3))
    all_goals
     have k3:=HT3.out.c1;have k4:=HT3.out.c2;have k5:=HT3.out.c3;go_wp2_with fail
     go_ret
     exact ⟨rfl,HT3.out.bel⟩
def k0w(s:ByteArray)(k:Nat):Nat:=(s.data.toList.getD k 0).toNat
theorem z5g(s:ByteArray)(k:Nat):k0w s k<256:=(s.data.toList.getD k 0).toNat_lt
theorem k2a(s:ByteArray)(k:Nat)(h:k<s.size):(s[k]).toNat=k0w s k:=by
 have:=yq7 s k h;unfold vhw at this;unfold k0w;omega
structure Tr where
 out:List Nat
 ats:List Nat
 inn:Nat
 starts:List Nat
 err:Nat
 needs:Bool
 s:ByteArray
 cur:Nat
 left:Nat
 frm:Nat
 head:Nat
 many:Nat
 limit:Nat
namespace Tr
def ended(t:Tr):Bool:=t.err !=0 || t.needs
def fail(t:Tr)(e:Nat):Tr:=if t.ended then t else { t with err:=e }
def octet(t:Tr):Nat×Tr:=
 if t.ended then (0,t) else if t.s.size<=t.inn then (0,{ t with needs:=true }) else (k0w t.s t.inn,{ t with inn:=t.inn+1 })
def load(t:Tr):Tr:=if t.left=0 then { t.octet.2 with cur:=t.octet.1,left:=8 } else t
def bit(t:Tr):Nat×Tr:=(t.load.cur%2,{ t.load with cur:=t.load.cur / 2,left:=t.load.left - 1 })
def number(t:Tr):Nat->Nat×Tr
 | 0=>(0,t)
 | k+1=>((t.number k).1+(t.number k).2.bit.1*2^k,(t.number k).2.bit.2)
def skip(t:Tr):Tr:={ (if 0<t.left∧t.cur≠0 then t.fail 8 else t) with left:=0 }
def put(t:Tr)(b:Nat):Tr:=if t.ended then t else { t with out:=t.out++[b],ats:=t.ats++[t.inn] }
end Tr
structure RSet where
 l:List Int
 many:Int
 one:Bool
def rset(l:List Int):RSet:=⟨l,jwa (fun _=>1) l,ky9 l⟩
def yk3:RSet:=⟨[],0,false⟩
def x66(l:List Int)(n c:Int):Nat->Nat->Int
 | 0,_=> -1
 | r+1,i=>if l.getD i 0=n∧rv l i=c then i else x66 l n c r (i+1)
def find(S:RSet)(n c:Int):Int:=x66 S.l n c S.l.length 0
namespace Tr
def sym(S:RSet):Nat->Nat->Nat->Tr->Int×Tr
 | 0,_,_,t=>(-1,t)
 | r+1,n,c,t=>
  if t.bit.2.ended then (-1,t.bit.2)
  else if 0<=find S n (2*c+t.bit.1:Nat) then (find S n (2*c+t.bit.1:Nat),t.bit.2)
  else if S.one then (-1,t.bit.2)
  else sym S r (n+1) (2*c+t.bit.1) t.bit.2
def symbol(t:Tr)(S:RSet):Int×Tr:=sym S 11 1 0 t
def bytes:Nat->Tr->Tr
 | 0,t=>t
 | n+1,t=>if t.ended then t else bytes n (t.octet.2.put t.octet.1)
def plainHead(t:Tr):Nat×Tr:=
 let a:=t.skip.octet
 let b:=a.2.octet
 let c:=b.2.octet
 let d:=c.2.octet
 (a.1+256*b.1,if c.1+256*d.1=65535 - (a.1+256*b.1) then d.2 else d.2.fail 9)
def plain(t:Tr):Tr:=bytes t.plainHead.1 t.plainHead.2
def mu(t:Tr):Nat:=if t.ended then 0 else 1+8*(t.s.size - t.inn)+t.left
def helped(t:Tr)(k:Int)(l:List Int):Int×Nat×Tr:=
 if k=12 then
  (if l.length=0 then 0 else l.getD (l.length - 1) 0,3+(t.number 2).1,if l.length=0 then (t.number 2).2.fail 10 else (t.number 2).2)
 else if k=13 then (0,3+(t.number 3).1,(t.number 3).2)
 else if k=14 then (0,11+(t.number 6).1,(t.number 6).2)
 else (k,1,t)
def rowStep(H:RSet)(n:Nat)(l:List Int)(t:Tr):List Int×Tr:=
 let h:=helped (t.symbol H).2 (t.symbol H).1 l
 let t1:=if n<l.length+h.2.1 then h.2.2.fail 10 else h.2.2
 (if t1.ended then l else l++List.replicate h.2.1 h.1,t1)
def row(H:RSet)(n:Nat)(l:List Int)(t:Tr):List Int×Tr:=
 if l.length<n∧t.ended=false then
  if _h:(rowStep H n l t).2.mu<t.mu then row H n (rowStep H n l t).1 (rowStep H n l t).2 else (l,t)
 else (l,t)
 termination_by t.mu
def order:List Nat:=[13,14,12,0,7,8,6,9,5,10,4,11,3,2,1]
def helps:Nat->Nat->List Int->Tr->List Int×Tr
 | 0,_,l,t=>(l,t)
 | r+1,i,l,t=>if t.ended then (l,t) else helps r (i+1) (l.set (order.getD i 0) (t.number 3).1) (t.number 3).2
def ownHead(t:Tr):Nat×Nat×Nat×Tr:=
 let a:=t.number 4
 let t1:=if 12<a.1 then a.2.fail 10 else a.2
 let b:=t1.number 4
 let c:=b.2.number 4
 (a.1,b.1,c.1,if 11<c.1 then c.2.fail 10 else c.2)
def ownHelp(t:Tr):List Int×Tr:=
 let h:=helps (4+t.ownHead.2.2.1) 0 (List.replicate 15 0) t.ownHead.2.2.2
 (h.1,if jwa gw h.1=2048 then h.2 else h.2.fail 10)
def ownRow(t:Tr):List Int×Tr:=row (rset t.ownHelp.1) (257+t.ownHead.1+1+t.ownHead.2.1) [] t.ownHelp.2
def own(t:Tr):RSet×RSet×Tr:=
 if t.ownHelp.2.ended then (yk3,yk3,t.ownHelp.2)
 else if t.ownRow.2.ended then (yk3,yk3,t.ownRow.2)
 else
  let a:=t.ownRow.1.take (257+t.ownHead.1)
  let b:=t.ownRow.1.drop (257+t.ownHead.1)
  (rset a,rset b,if a.getD 256 0=0∨jwa gw a≠2048∨(jwa gw b≠2048∧ky9 b=false∧0<jwa (fun _=>1) b) then t.ownRow.2.fail 10 else t.ownRow.2)
def fixedA:List Int:=List.replicate 243 8++List.replicate 26 9
def fixedB:List Int:=List.replicate 16 4
def spanLeast(base k:Nat):Nat:=if k<4 then base+k else base+(2+k%2)*2^((k - 2) / 2)
def spanBits(k:Nat):Nat:=if k<4 then 0 else (k - 2) / 2
def copyN(far:Nat):Nat->Tr->Tr
 | 0,t=>t
 | n+1,t=>if t.ended then t else copyN far n (t.put (t.out.getD (t.out.length - far) 0))
def copies(t:Tr)(b:RSet)(k:Nat):Tr:=
 let m:=t.number (spanBits k)
 let t1:=if b.many=0 then m.2.fail 11 else m.2
 let d:=t1.symbol b
 if d.1<0 then d.2.fail 11
 else
  let f:=d.2.number (spanBits d.1.toNat)
  let far:=spanLeast 1 d.1.toNat+f.1
  copyN far (spanLeast 3 k+m.1) (if f.2.out.length - f.2.frm<far then f.2.fail 11 else f.2)
def contentStep(t:Tr)(a b:RSet):Tr:=
 if (t.symbol a).1<256 then (t.symbol a).2.put ((t.symbol a).1%256).toNat else (t.symbol a).2.copies b ((t.symbol a).1 - 257).toNat
def content(a b:RSet)(t:Tr):Tr:=
 if t.ended then t
 else if (t.symbol a).2.ended=true∨(t.symbol a).1=256 then (t.symbol a).2
 else if _h:(t.contentStep a b).mu<t.mu then content a b (t.contentStep a b) else t
 termination_by t.mu
def block(kind:Nat)(t:Tr):Tr:=
 if kind=0 then t.plain
 else if kind=1 then content (rset fixedA) (rset fixedB) t
 else if kind=2 then content t.own.1 t.own.2.1 t.own.2.2
 else t.fail 7
def blocksFrom(t:Tr):Tr:=
 if t.ended then t
 else if (t.bit.2.number 2).2.ended then (t.bit.2.number 2).2
 else if t.bit.1≠0 then (if (block (t.bit.2.number 2).1 (t.bit.2.number 2).2).ended then block (t.bit.2.number 2).1 (t.bit.2.number 2).2 else (block (t.bit.2.number 2).1 (t.bit.2.number 2).2).skip)
 else if _h:(block (t.bit.2.number 2).1 (t.bit.2.number 2).2).mu<t.mu then blocksFrom (block (t.bit.2.number 2).1 (t.bit.2.number 2).2)
 else t
 termination_by t.mu
def blocks(t:Tr):Tr:=blocksFrom { t with frm:=t.out.length,left:=0 }
end Tr
namespace Tr
theorem ended_iff(t:Tr):t.ended=false↔t.err=0∧t.needs=false:=by
 unfold ended;cases t.needs <;> simp
theorem mu_ended{t:Tr}(h:t.ended=true):t.mu=0:=by simp [mu,h]
theorem mu_going{t:Tr}(h:t.ended=false):t.mu=1+8*(t.s.size - t.inn)+t.left:=by simp [mu,h]
theorem mu_pos{t:Tr}(h:t.ended=false):0<t.mu:=by rw [mu_going h];omega
theorem fail_ended{t:Tr}(h:t.ended=true)(e:Nat):t.fail e=t:=by simp [fail,h]
theorem fail_going{t:Tr}(h:t.ended=false)(e:Nat):t.fail e={ t with err:=e }:=by simp [fail,h]
theorem ended_fail(t:Tr){e:Nat}(he:e≠0):(t.fail e).ended=true:=by
 cases h:t.ended
 ·rw [fail_going h];simp [ended,he]
 ·rw [fail_ended h,h]
theorem mu_fail(t:Tr){e:Nat}(he:e≠0):(t.fail e).mu=0:=mu_ended (ended_fail t he)
theorem octet_ended{t:Tr}(h:t.ended=true):t.octet=(0,t):=by simp [octet,h]
theorem octet_none{t:Tr}(h:t.ended=false)(hs:t.s.size<=t.inn):t.octet=(0,{ t with needs:=true }):=by simp [octet,h,hs]
theorem octet_some{t:Tr}(h:t.ended=false)(hs:t.inn<t.s.size):t.octet=(k0w t.s t.inn,{ t with inn:=t.inn+1 }):=by
 simp [octet,h];omega
theorem put_ended{t:Tr}(h:t.ended=true)(b:Nat):t.put b=t:=by simp [put,h]
theorem put_going{t:Tr}(h:t.ended=false)(b:Nat):t.put b={ t with out:=t.out++[b],ats:=t.ats++[t.inn] }:=by simp [put,h]
theorem ended_put(t:Tr)(b:Nat):(t.put b).ended=t.ended:=by
 cases h:t.ended
 ·rw [put_going h];simpa [ended] using h
 ·rw [put_ended h,h]
theorem mu_put(t:Tr)(b:Nat):(t.put b).mu=t.mu:=by
 cases h:t.ended
 ·rw [mu_going h,mu_going (by rw [ended_put,h])];rw [put_going h]
 ·rw [put_ended h]
theorem load_zero{t:Tr}(h:t.left=0):t.load={ t.octet.2 with cur:=t.octet.1,left:=8 }:=by simp [load,h]
theorem load_pos{t:Tr}(h:0<t.left):t.load=t:=by simp only [load];rw [if_neg (by omega)]
structure Fwd(t t':Tr):Prop where
 out:t'.out=t.out
 ats:t'.ats=t.ats
 starts:t'.starts=t.starts
 s:t'.s=t.s
 frm:t'.frm=t.frm
 limit:t'.limit=t.limit
 mu:t'.mu<=t.mu
 ended:t.ended=true->t'.ended=true
theorem Fwd.refl(t:Tr):Fwd t t:=⟨rfl,rfl,rfl,rfl,rfl,rfl,Nat.le_refl _,fun h=>h⟩
theorem Fwd.trans{a b c:Tr}(h:Fwd a b)(k:Fwd b c):Fwd a c:=⟨k.out.trans h.out,k.ats.trans h.ats,k.starts.trans h.starts,k.s.trans h.s,k.frm.trans h.frm,k.limit.trans h.limit,Nat.le_trans k.mu h.mu,fun x=>k.ended (h.ended x)⟩
theorem Fwd.of_ended{a b:Tr}(h:Fwd a b)(hb:b.ended=false):a.ended=false:=by
 cases e:a.ended
 ·rfl
 ·rw [h.ended e] at hb;cases hb
theorem fwd_fail(t:Tr){e:Nat}(he:e≠0):Fwd t (t.fail e):=by
 cases h:t.ended
 ·have h2:=ended_fail t he;refine ⟨?_,?_,?_,?_,?_,?_,by rw [mu_fail t he];omega,fun _=>h2⟩ <;> rw [fail_going h]
 ·rw [fail_ended h];exact Fwd.refl t
theorem fwd_octet(t:Tr):Fwd t t.octet.2:=by
 cases h:t.ended
 ·by_cases hs:t.s.size<=t.inn
  ·rw [octet_none h hs];exact ⟨rfl,rfl,rfl,rfl,rfl,rfl,by rw [mu_ended (by simp [Tr.ended])];omega,fun _=>by simp [Tr.ended]⟩
  ·rw [octet_some h (by omega)];have h':({ t with inn:=t.inn+1 }:Tr).ended=false:=by simpa [Tr.ended] using h
   exact ⟨rfl,rfl,rfl,rfl,rfl,rfl,by rw [mu_going h,mu_going h'];simp only;omega,fun x=>by rw [h] at x;cases x⟩
 ·rw [octet_ended h];exact Fwd.refl t
theorem mu_octet{t:Tr}(h:t.octet.2.ended=false):t.octet.2.mu+8=t.mu:=by
 have ht:=(fwd_octet t).of_ended h;by_cases hs:t.s.size<=t.inn
 ·rw [octet_none ht hs] at h;simp [Tr.ended] at h
 ·rw [mu_going h,mu_going ht,octet_some ht (by omega)];simp only;omega
theorem fwd_bit(t:Tr):Fwd t t.bit.2:=by
 have e1:t.bit.2.ended=t.load.ended:=rfl;by_cases hl:t.left=0
 ·have e2:t.load.ended=t.octet.2.ended:=by rw [load_zero hl];rfl
  have f:=fwd_octet t;refine ⟨?_,?_,?_,?_,?_,?_,?_,fun h=>by rw [e1,e2];exact f.ended h⟩
  ·show t.load.out=_;rw [load_zero hl];exact f.out
  ·show t.load.ats=_;rw [load_zero hl];exact f.ats
  ·show t.load.starts=_;rw [load_zero hl];exact f.starts
  ·show t.load.s=_;rw [load_zero hl];exact f.s
  ·show t.load.frm=_;rw [load_zero hl];exact f.frm
  ·show t.load.limit=_;rw [load_zero hl];exact f.limit
  ·cases h:t.octet.2.ended
   ·have:=mu_octet h;have ht:=f.of_ended h;have g1:=mu_going h;have e3:t.bit.2.mu=1+8*(t.octet.2.s.size - t.octet.2.inn)+7:=by
     rw [mu_going (by rw [e1,e2,h])];show 1+8*(t.load.s.size - t.load.inn)+(t.load.left - 1)=_;rw [load_zero hl];rfl
    omega
   ·rw [mu_ended (by rw [e1,e2,h])];omega
 ·have e2:t.load=t:=load_pos (by omega);refine ⟨?_,?_,?_,?_,?_,?_,?_,fun h=>by rw [e1,e2];exact h⟩
  ·show t.load.out=_;rw [e2]
  ·show t.load.ats=_;rw [e2]
  ·show t.load.starts=_;rw [e2]
  ·show t.load.s=_;rw [e2]
  ·show t.load.frm=_;rw [e2]
  ·show t.load.limit=_;rw [e2]
  ·cases h:t.ended
   ·rw [mu_going h,mu_going (by rw [e1,e2,h])];show 1+8*(t.load.s.size - t.load.inn)+(t.load.left - 1)<=_;rw [e2];omega
   ·rw [mu_ended (by rw [e1,e2,h])];omega
theorem mu_bit{t:Tr}(h:t.ended=false):t.bit.2.mu<t.mu:=by
 have e1:t.bit.2.ended=t.load.ended:=rfl;cases hb:t.bit.2.ended
 ·by_cases hl:t.left=0
  ·have e2:t.load.ended=t.octet.2.ended:=by rw [load_zero hl];rfl
   have ho:t.octet.2.ended=false:=by rw [← e2,← e1,hb]
   have:=mu_octet ho;have g1:=mu_going ho;have e3:t.bit.2.mu=1+8*(t.octet.2.s.size - t.octet.2.inn)+7:=by
    rw [mu_going hb];show 1+8*(t.load.s.size - t.load.inn)+(t.load.left - 1)=_;rw [load_zero hl];rfl
   have e4:t.octet.2.left=0:=by
    by_cases hs:t.s.size<=t.inn
    ·rw [octet_none h hs];exact hl
    ·rw [octet_some h (by omega)];exact hl
   omega
  ·rw [mu_going h,mu_going hb];show 1+8*(t.load.s.size - t.load.inn)+(t.load.left - 1)<_;rw [load_pos (by omega)];omega
 ·rw [mu_ended hb];exact mu_pos h
theorem fwd_number(t:Tr)(k:Nat):Fwd t (t.number k).2:=by
 induction k with
 | zero=>exact Fwd.refl t
 | succ k ih=>exact ih.trans (fwd_bit _)
theorem fwd_skip(t:Tr):Fwd t t.skip:=by
 unfold skip;split
 ·have f:=fwd_fail t (e:=8) (by decide);exact ⟨f.out,f.ats,f.starts,f.s,f.frm,f.limit,by rw [mu_ended (t:={ t.fail 8 with left:=0 }) (ended_fail t (e:=8) (by decide))];omega,fun h=>f.ended h⟩
 ·refine ⟨rfl,rfl,rfl,rfl,rfl,rfl,?_,fun h=>h⟩;cases h:t.ended
  ·have h':({ t with left:=0 }:Tr).ended=false:=h;rw [mu_going h,mu_going h'];simp only;omega
  ·have h':({ t with left:=0 }:Tr).ended=true:=h;rw [mu_ended h'];omega
theorem fwd_sym(S:RSet)(r:Nat):∀ (n c:Nat) (t:Tr),Fwd t (sym S r n c t).2:=by
 induction r with
 | zero=>intro n c t;exact Fwd.refl t
 | succ r ih=>
  intro n c t;unfold sym;split
  ·exact fwd_bit t
  ·split
   ·exact fwd_bit t
   ·split
    ·exact fwd_bit t
    ·exact (fwd_bit t).trans (ih _ _ _)
theorem fwd_symbol(t:Tr)(S:RSet):Fwd t (t.symbol S).2:=fwd_sym S 11 1 0 t
theorem mu_symbol{t:Tr}(S:RSet)(h:t.ended=false):(t.symbol S).2.mu<t.mu:=by
 have hb:=mu_bit h;unfold symbol sym;split
 ·exact hb
 ·split
  ·exact hb
  ·split
   ·exact hb
   ·exact Nat.lt_of_le_of_lt (fwd_sym S 10 _ _ _).mu hb
theorem findFrom_lt(l:List Int)(n c:Int)(r:Nat):∀ i,x66 l n c r i<(i+r:Nat):=by
 induction r with
 | zero=>intro i;simp [x66];omega
 | succ r ih=>
  intro i;unfold x66;split
  ·omega
  ·have:=ih (i+1);omega
theorem find_lt(S:RSet)(n c:Int):find S n c<S.l.length:=by
 have:=findFrom_lt S.l n c S.l.length 0;unfold find;omega
theorem sym_lt(S:RSet)(r:Nat):∀ (n c:Nat) (t:Tr),(sym S r n c t).1<S.l.length∧ -1<=(sym S r n c t).1:=by
 induction r with
 | zero=>intro n c t;simp [sym];omega
 | succ r ih=>
  intro n c t;unfold sym;split
  ·exact ⟨by show (-1:Int)<_;omega,by show (-1:Int)<= -1;omega⟩
  ·split
   ·exact ⟨find_lt S _ _,by show -1<=find S _ _;omega⟩
   ·split
    ·exact ⟨by show (-1:Int)<_;omega,by show (-1:Int)<= -1;omega⟩
    ·exact ih _ _ _
theorem symbol_lt(t:Tr)(S:RSet):(t.symbol S).1<S.l.length∧ -1<=(t.symbol S).1:=sym_lt S 11 1 0 t
def cost(t:Tr):Nat:=t.out.length+66*t.mu
theorem Fwd.cost{a b:Tr}(h:Fwd a b):b.cost<=a.cost:=by unfold Tr.cost;rw [h.out];have:=h.mu;omega
theorem number_lt(t:Tr)(k:Nat):(t.number k).1<2^k:=by
 induction k with
 | zero=>simp [number]
 | succ k ih=>
  simp only [number];have h1:(t.number k).2.bit.1<=1:=by show _%2<=1;omega
  rw [Nat.pow_succ];have h2:(t.number k).2.bit.1*2^k<=1*2^k:=Nat.mul_le_mul_right _ h1;omega
end Tr
end Go.Proofs.YtbcjmakpempkiaaGreatDoor
