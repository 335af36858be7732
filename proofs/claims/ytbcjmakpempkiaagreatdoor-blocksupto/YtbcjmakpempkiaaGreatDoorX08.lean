import Derived.Deep.CutBlock
import Derived.Test.YtbcjmakpempkiaaGreatDoorX07
set_option maxRecDepth 100000
set_option maxHeartbeats 8000000
set_option linter.all false
namespace Go.Proofs.YtbcjmakpempkiaaGreatDoor
open Go.RowKit
structure ConI(B p:Nat)(vo va vs:Value)(w:World)(t0 fin:Tr)(SA SB:RSet)(ca cb:Array Value)(a1 a2 b1 b2:Option Addr)(wr:World)(t1:Tr)(vo1 va1:Value):Prop where
 con:Tr.content SA SB t1=fin
 mov:jkl B p vo va vs vo1 va1 t1 w wr
 fine:t1.Fine
 cost:t1.cost<=900000000000
 s:t1.s=t0.s
 ba:BoxA wr p vo1 va1 w.heap.size (.cells ca 273)
 bb:BoxA wr p vo1 va1 (w.heap.size+1) (.cells cb 273)
 sa:SetA wr p vo1 va1 SA a1 a2
 sb:SetA wr p vo1 va1 SB b1 b2
theorem ConI.kept{B p:Nat}{vo va vs:Value}{w:World}{t0 fin:Tr}{SA SB:RSet}{ca cb:Array Value}{a1 a2 b1 b2:Option Addr}{wr wq:World}{t1 t2:Tr}{vo1 va1 vo2 va2:Value}(h:ConI B p vo va vs w t0 fin SA SB ca cb a1 a2 b1 b2 wr t1 vo1 va1)
  (hm:jkl B p vo1 va1 vs vo2 va2 t2 wr wq) (hc:Tr.content SA SB t2=fin) (hf:t2.Fine) (hr:Tr.Run t1 t2):ConI B p vo va vs w t0 fin SA SB ca cb a1 a2 b1 b2 wq t2 vo2 va2:=⟨hc,h.mov.trans hm,hf,Nat.le_trans hr.cost h.cost,hr.s.trans h.s,h.ba.moved hm,h.bb.moved hm,h.sa.moved hm,h.sb.moved hm⟩
theorem xrz{B p:Nat}{vo va vs:Value}{t:Tr}(SA SB:RSet)(a1 a2 b1 b2:Option Addr)(k1 k2 l1 l2:Nat)(w:World)(h:TrI B p vo va vs t w)(hf:t.Fine)(hs:t.s.size<=maxLen)(hcost:t.cost<=900000000000)
  (hA:SetA w p vo va SA a1 a2) (hB:SetA w p vo va SB b1 b2) (hla:SA.l.length<=269) (hlb:SB.l.length<=16) :
  Calls Tryz.prog 201 #[.pointer (some ⟨p,0,none⟩), .agg (setC SA a1 k1 a2 k2), .agg (setC SB b1 l1 b2 l2)] w fun x w'=>x= .returned (.tuple #[])∧∃ vo' va',jkl B p vo va vs vo' va' (Tr.content SA SB t) w w':=by
 obtain ⟨ca,hca⟩:∃ ca,ca=setC SA a1 k1 a2 k2:=⟨_,rfl⟩
 obtain ⟨cb,hcb⟩:∃ cb,cb=setC SB b1 l1 b2 l2:=⟨_,rfl⟩
 rw [← hca,← hcb];have HCA:Hid (ca=setC SA a1 k1 a2 k2):=hca;have HCB:Hid (cb=setC SB b1 l1 b2 l2):=hcb;have HIA:Hid ((Tryz.prog.info? 273).map (·.size)=some ca.size):=by show _=_;rw [hca];exact vo8 _ _ _ _ _
 have HIB:Hid ((Tryz.prog.info? 273).map (·.size)=some cb.size):=by show _=_;rw [hcb];exact vo8 _ _ _ _ _
 clear hca hcb;obtain ⟨W0,hW0⟩:∃ W0,W0=(w.alloc (.cells ca 273)).alloc (.cells cb 273):=⟨_,rfl⟩
 have B1:Below w.heap.size w (w.alloc (.cells ca 273)):=(Below.refl _ _).alloc (Nat.le_refl _) _;have B2:Below (w.alloc (.cells ca 273)).heap.size (w.alloc (.cells ca 273)) W0:=by rw [hW0];exact (Below.refl _ _).alloc (Nat.le_refl _) _
 have B0:Below w.heap.size w W0:=B1.trans (B2.mono (by simp));have I1:=h.below B1;have H0:Hid (ConI B p vo va vs w t (Tr.content SA SB t) SA SB ca cb a1 a2 b1 b2 W0 t vo va):=by
  refine ⟨rfl,((Kept.refl h).below B0).moved,hf,hcost,rfl,?_,?_,hA.below B0,hB.below B0⟩
  ·exact (BoxA.new h _ _ rfl).below B2
  ·rw [hW0];exact BoxA.new I1 _ _ (by simp)
 have HZ:Hid (t.s.size<=maxLen):=hs;have HL:Hid (SA.l.length<=269∧SB.l.length<=16):=⟨hla,hlb⟩
 clear h hf hs hcost hA hB hla hlb B0 B1 B2 I1;go_enter Tryz.func201,Tryz.ntmps201
 go_wp2_with fail
 rw [← hW0];clear hW0;go_loopw [6] (fun _ wr=>∃ (t1:Tr) (vo1 va1:Value),Hid (ConI B p vo va vs w t (Tr.content SA SB t) SA SB ca cb a1 a2 b1 b2 wr t1 vo1 va1)) (fun _ wr=>muW p wr)
 case atStart=>exact ⟨t,vo,va,H0⟩
 case round=>
  obtain ⟨t1,vo1,va1,HH⟩:=hrel;clear H0;cases he:t1.ended
  ·have HE:Hid (t1.ended=false):=he;clear he;go_wp2_with (first | (go_at_call 182;refine (ywm _ HH.out.mov.inv).mono ?_;rw [HE.out];rintro e w' ⟨rfl,rfl⟩) | (refine wpList_load_row rfl 273 _ rfl _ rfl 273 _ _ _ HH.out.ba.at_ Tryz.underlying273 rfl HIA.out ?_))
   have hcall:=jwz SA a1 a2 k1 k2 wr HH.out.mov.inv HH.out.fine (by rw [HH.out.s];exact HZ.out) HH.out.sa.set HH.out.sa.la.off HH.out.sa.lb.off (by have:=HL.out.1;omega);rw [← HCA.out] at hcall;refine hcall.mono ?_;clear hcall;rintro e w1 ⟨rfl,q1⟩;have HF:Hid (Tr.Fwd t1 (t1.symbol SA).2):=Tr.fwd_symbol t1 SA;have HMV:Hid (jkl B p vo1 va1 vs vo1 va1 (t1.symbol SA).2 wr w1):=q1.moved;have HFI:Hid (t1.symbol SA).2.Fine:=HH.out.fine.symbol SA;have hd1:=Tr.symbol_lt t1 SA;have hd2:(t1.symbol SA).1<269:=by have:=HL.out.1;omega
   have HCS:Hid (Tr.contentStep t1 SA SB=if (t1.symbol SA).1<256 then (t1.symbol SA).2.put ((t1.symbol SA).1%256).toNat else (t1.symbol SA).2.copies SB ((t1.symbol SA).1 - 257).toNat):=by show _=_;rfl
   have HGO:Hid ((t1.symbol SA).2.ended=false->(t1.symbol SA).1≠256->Tr.content SA SB (t1.contentStep SA SB)=Tr.content SA SB t):=fun a b=>by rw [← Tr.content_go HL.out.1 HE.out a b];exact HH.out.con
   have HST:Hid ((t1.symbol SA).2.ended=true∨(t1.symbol SA).1=256->(t1.symbol SA).2=Tr.content SA SB t):=fun a=>by rw [← Tr.content_stop (b:=SB) HE.out a];exact HH.out.con
   have HRS:Hid (Tr.Run t1 (t1.contentStep SA SB)∧(t1.contentStep SA SB).mu<t1.mu):=Tr.run_contentStep HL.out.1 HE.out;clear q1;generalize t1.symbol SA=D at *;cases hd:D.2.ended
   ·have HD:Hid (D.2.ended=false):=hd;clear hd;by_cases h256:D.1=256
    ·have h256':(D.1==256)=true:=by simp [h256]
     go_wp2_with (go_at_call 182;refine (ywm _ HMV.out.inv).mono ?_;rw [HD.out];rintro e w' ⟨rfl,rfl⟩)
     refine bodyPost_ret (results_none rfl _ _ _) rfl ?_;rw [← HST.out (Or.inr h256)];exact ⟨rfl,vo1,va1,HH.out.mov.trans HMV.out⟩
    ·have h256':(D.1==256)=false:=by simpa using h256
     have HG:=HGO.out HD.out h256;have HGO':Hid (Tr.content SA SB (t1.contentStep SA SB)=Tr.content SA SB t):=HG;clear HG HGO HST;by_cases hlt:D.1<256
     ·have HN:Hid (Tr.contentStep t1 SA SB=D.2.put (D.1%256).toNat):=by show _=_;rw [HCS.out,if_pos hlt]
      clear HCS;obtain ⟨bv,hbv⟩:∃ bv:Nat,bv=(D.1%256).toNat:=⟨_,rfl⟩
      have hbi:D.1%256=(bv:Int):=by omega
      rw [← hbv] at HN;clear hbv;go_wp2_with (go_at_call 182;refine (ywm _ HMV.out.inv).mono ?_;rw [HD.out];rintro e w' ⟨rfl,rfl⟩)
      have hle:D.2.out.length<=900000000000:=by rw [HF.out.out];exact Tr.out_le HH.out.cost
      refine (v6a bv w1 HMV.out.inv (by omega) (by rw [HFI.out.ats];omega)).mono ?_;rintro e w2 ⟨rfl,vo2,va2,m2⟩;have HI2:Hid (ConI B p vo va vs w t (Tr.content SA SB t) SA SB ca cb a1 a2 b1 b2 w2 (t1.contentStep SA SB) vo2 va2):=by
       have m:=HMV.out.trans m2;rw [← HN.out] at m;exact HH.out.kept m HGO'.out (HH.out.fine.contentStep SA SB) HRS.out.1
      clear m2;go_wp2_with fail
      go_roundw
      case rel=>exact ⟨_,vo2,va2,HI2⟩
      case measure=>rw [HI2.out.mov.inv.muW,HH.out.mov.inv.muW];exact HRS.out.2
     ·have HN:Hid (Tr.contentStep t1 SA SB=D.2.copies SB (D.1 - 257).toNat):=by show _=_;rw [HCS.out,if_neg hlt]
      clear HCS;obtain ⟨kv,hkv⟩:∃ kv:Nat,kv=(D.1 - 257).toNat:=⟨_,rfl⟩
      have hki:D.1 - 257=(kv:Int):=by omega
      have hk11:kv<=11:=by omega
      rw [← hkv] at HN;clear hkv;go_wp2_with (first | (go_at_call 182;refine (ywm _ HMV.out.inv).mono ?_;rw [HD.out];rintro e w' ⟨rfl,rfl⟩) | (refine wpList_load_row rfl 273 _ rfl _ rfl 273 _ _ _ (HH.out.bb.moved HMV.out).at_ Tryz.underlying273 rfl HIB.out ?_))
      have hle:D.2.out.length<=900000000000:=by rw [HF.out.out];exact Tr.out_le HH.out.cost
      have hSB:=HH.out.sb.moved HMV.out;have hcall:=xfq SB b1 b2 l1 l2 kv w1 HMV.out.inv HFI.out (by rw [HF.out.s,HH.out.s];exact HZ.out) hle hSB.set hSB.la.off hSB.lb.off HL.out.2 hk11;rw [← HCB.out] at hcall;refine hcall.mono ?_;clear hcall hSB hle;rintro e w2 ⟨rfl,vo2,va2,m2⟩;have HI2:Hid (ConI B p vo va vs w t (Tr.content SA SB t) SA SB ca cb a1 a2 b1 b2 w2 (t1.contentStep SA SB) vo2 va2):=by
       have m:=HMV.out.trans m2;rw [← HN.out] at m;exact HH.out.kept m HGO'.out (HH.out.fine.contentStep SA SB) HRS.out.1
      clear m2;go_wp2_with fail
      go_roundw
      case rel=>exact ⟨_,vo2,va2,HI2⟩
      case measure=>rw [HI2.out.mov.inv.muW,HH.out.mov.inv.muW];exact HRS.out.2
   ·have HD:Hid (D.2.ended=true):=hd;clear hd;go_wp2_with (go_at_call 182;refine (ywm _ HMV.out.inv).mono ?_;rw [HD.out];rintro e w' ⟨rfl,rfl⟩)
    refine bodyPost_ret (results_none rfl _ _ _) rfl ?_;rw [← HST.out (Or.inl HD.out)];exact ⟨rfl,vo1,va1,HH.out.mov.trans HMV.out⟩
  ·have HE:Hid (t1.ended=true):=he;clear he;go_wp2_with (go_at_call 182;refine (ywm _ HH.out.mov.inv).mono ?_;rw [HE.out];rintro e w' ⟨rfl,rfl⟩)
   go_end0
   have e1:=HH.out.con;rw [Tr.content_ended HE.out] at e1;rw [← e1];exact ⟨rfl,vo1,va1,HH.out.mov⟩
theorem jy4(l:List Int)(n c:Int)(r:Nat):∀ i,(∀ j,i<=j->j<i+r->¬ (l.getD j 0=n∧rv l j=c))->x66 l n c r i= -1:=by
 induction r with
 | zero=>intro i _;rfl
 | succ r ih=>
  intro i h;rw [x66,if_neg (h i (Nat.le_refl _) (by omega))];exact ih (i+1) (fun j h1 h2=>h j (by omega) (by omega))
theorem jbw(l:List Int)(n c:Int)(r:Nat):∀ i k,i<=k->k<i+r->(l.getD k 0=n∧rv l k=c)->(∀ j,i<=j->j<k->¬ (l.getD j 0=n∧rv l j=c))->x66 l n c r i=k:=by
 induction r with
 | zero=>intro i k h1 h2;omega
 | succ r ih=>
  intro i k h1 h2 hk hj;by_cases e:i=k
  ·subst e;rw [x66,if_pos hk]
  ·rw [x66,if_neg (hj i (Nat.le_refl _) (by omega))];exact ih (i+1) k (by omega) (by omega) hk (fun j h3 h4=>hj j (by omega) h4)
theorem yv7{l:List Int}(hr:inRange l=true){i n:Nat}(hi:i<l.length)(hn:0<n)(h:l[i]=(n:Int)):rv l i=fc (cn l) n+cn (l.take i) n:=by
 rw [xiy hr hi,xj2 hi h hn]
theorem jux{S:RSet}(hr:inRange S.l=true){i n:Nat}(hi:i<S.l.length)(hn:0<n)(h:S.l[i]=(n:Int)):find S n (fc (cn S.l) n+cn (S.l.take i) n)=i:=by
 refine jbw _ _ _ _ 0 i (Nat.zero_le _) (by omega) ⟨by simp [hi,h],yv7 hr hi hn h⟩ ?_;intro j _ hj hP;have hjl:j<S.l.length:=by omega
 have h2:S.l[j]=(n:Int):=by have:=hP.1;simpa [hjl] using this
 have h3:=hP.2;rw [yv7 hr hjl hn h2] at h3;have:=ygz hjl hn h2 hj;omega
theorem k5a{S:RSet}(hr:inRange S.l=true){n:Nat}(hn:0<n){c:Int}(h0:fc (cn S.l) n<=c)(h1:c<fc (cn S.l) n+cn S.l n):∃ i,∃ hi:i<S.l.length,S.l[i]=(n:Int)∧cn (S.l.take i) n=c - fc (cn S.l) n∧find S n c=i:=by
 obtain ⟨i,hi,h2,h3⟩:=nth S.l n (c - fc (cn S.l) n) (by omega) (by omega);refine ⟨i,hi,h2,h3,?_⟩;have:=jux hr hi hn h2;rw [h3] at this;rw [← this];congr 1;omega
theorem zr0{S:RSet}(hr:inRange S.l=true){n:Nat}(hn:0<n){c:Int}(h:c<fc (cn S.l) n∨fc (cn S.l) n+cn S.l n<=c):find S n c= -1:=by
 refine jy4 _ _ _ _ 0 (fun j _ hj hP=>?_);have hjl:j<S.l.length:=by omega
 have h2:S.l[j]=(n:Int):=by have:=hP.1;simpa [hjl] using this
 have h3:=hP.2;rw [yv7 hr hjl hn h2] at h3;have a:=v4o (S.l.take j) n;have b:=ynl hjl hn h2;omega
theorem xze{l:List Int}(h:jwa gw l=2048):ky9 l=false:=by
 unfold ky9;rw [h];simp
theorem kfa(f:Nat->Int)(k:Nat):shr f (k+1)=shr f k+f k*2^(11 - k):=rfl
theorem v6p{a b P:Int}(hP:0<P)(h:a*P<=b*P):a<=b:=Int.le_of_mul_le_mul_right h hP
theorem jj2{S:RSet}(hr:inRange S.l=true)(hc:jwa gw S.l=2048)(ho:S.one=false)(r:Nat):∀ (k c:Nat) (t:Tr),k+r=11->c<2^k->shr (cn S.l) (k+1)<=(c:Int)*2^(11 - k)->(Tr.sym S r (k+1) c t).1= -1->(Tr.sym S r (k+1) c t).2.ended=true:=by
 induction r with
 | zero=>
  intro k c t hk hlt hs _;exfalso
  obtain rfl:k=11:=by omega
  have e:shr (cn S.l) 12=2048:=by rw [kfr S.l hr,yky,hc]
  rw [show (11:Nat)+1=12 from rfl,e] at hs;simp at hs hlt;omega
 | succ r ih=>
  intro k c t hk hlt hs hm;rw [Tr.sym] at hm ⊢;cases he:t.bit.2.ended
  ·rw [he] at hm;simp only [Bool.false_eq_true,if_false] at hm ⊢;by_cases hf:0<=find S ((k+1:Nat):Int) ((2*c+t.bit.1:Nat):Int)
   ·rw [if_pos hf] at hm;exfalso
    have h2:find S ((k+1:Nat):Int) ((2*c+t.bit.1:Nat):Int)= -1:=hm;omega
   ·rw [if_neg hf,if_neg (by rw [ho];simp)] at hm ⊢;have hb:t.bit.1<=1:=by show _%2<=1;omega
    refine ih (k+1) (2*c+t.bit.1) t.bit.2 (by omega) (by rw [Nat.pow_succ];omega) ?_ hm;have hP:(0:Int)<2^(11 - (k+1)):=Int.pow_pos (by decide);have e1:=y0b (cn S.l) (k+1) (by omega);have e2:(2:Int)^(11 - k)=2*2^(11 - (k+1)):=by
     rw [show 11 - k=(11 - (k+1))+1 by omega,Int.pow_succ];omega
    rw [kfa (cn S.l) (k+1)];rw [e2] at hs;generalize (2:Int)^(11 - (k+1))=P at *;have hge:fc (cn S.l) (k+1)<=((2*c+t.bit.1:Nat):Int):=by
     apply v6p hP;rw [e1];refine Int.le_trans hs ?_;have:(c:Int)*(2*P)=(2*c)*P:=by rw [← Int.mul_assoc,Int.mul_comm (c:Int) 2]
     rw [this];exact Int.mul_le_mul_of_nonneg_right (by omega) (by omega)
    have hout:fc (cn S.l) (k+1)+cn S.l (k+1)<=((2*c+t.bit.1:Nat):Int):=by
     apply Classical.byContradiction;intro hn;obtain ⟨i,_,_,_,hfi⟩:=k5a hr (n:=k+1) (by omega) hge (by omega);rw [hfi] at hf;omega
    rw [← e1,← Int.add_mul];exact Int.mul_le_mul_of_nonneg_right hout (by omega)
  ·rw [if_pos rfl];exact he
theorem j38{S:RSet}(hr:inRange S.l=true)(hc:jwa gw S.l=2048)(ho:S.one=false)(t:Tr)(h:(t.symbol S).1= -1):(t.symbol S).2.ended=true:=
 jj2 hr hc ho 11 0 0 t rfl (by decide) (by
  rw [kfa,xu8];simp [shr]) h
namespace Tr
theorem fwd_helped(t:Tr)(k:Int)(l:List Int):Fwd t (t.helped k l).2.2:=by
 unfold helped;split
 ·simp only;split
  ·exact (fwd_number t 2).trans (fwd_fail _ (by decide))
  ·exact fwd_number t 2
 ·split
  ·exact fwd_number t 3
  ·split
   ·exact fwd_number t 6
   ·exact Fwd.refl t
theorem Fine.helped{t:Tr}(h:Fine t)(k:Int)(l:List Int):Fine (t.helped k l).2.2:=by
 unfold Tr.helped;split
 ·simp only;split
  ·exact (h.number 2).fail (by decide)
  ·exact h.number 2
 ·split
  ·exact h.number 3
  ·split
   ·exact h.number 6
   ·exact h
theorem okLen_zero:yuc 0=true:=by decide
theorem helped_range{t:Tr}{k:Int}{l:List Int}(hl:inRange l=true)(h0: -1<=k)(h1:k<15)(hk:k= -1->t.ended=true)(he:(t.helped k l).2.2.ended=false):yuc (t.helped k l).1=true:=by
 unfold helped at he ⊢;split at he
 ·rename_i h12
  simp only at he ⊢;rw [if_pos h12];simp only;split
  ·exact okLen_zero
  ·rename_i hne
   have hlt:l.length - 1<l.length:=by omega
   have:=List.all_eq_true.1 hl l[l.length - 1] (List.getElem_mem hlt);simpa [hlt] using this
 ·rename_i h12
  rw [if_neg h12];split at he
  ·rename_i h13;rw [if_pos h13];exact okLen_zero
  ·rename_i h13
   rw [if_neg h13];split at he
   ·rename_i h14;rw [if_pos h14];exact okLen_zero
   ·rename_i h14
    rw [if_neg h14];have hne:k≠ -1:=fun e=>by rw [hk e] at he;cases he
    show yuc k=true;simp [yuc];omega
theorem inRange_append{l:List Int}(hl:inRange l=true){x:Int}(hx:yuc x=true)(m:Nat):inRange (l++List.replicate m x)=true:=by
 unfold inRange at *;rw [List.all_append,hl,Bool.true_and,List.all_eq_true];intro y hy;rw [(List.mem_replicate.1 hy).2];exact hx
def rowT(n:Nat)(len:Nat)(h:Int×Nat×Tr):Tr:=if n<len+h.2.1 then h.2.2.fail 10 else h.2.2
theorem fwd_rowT(n len:Nat)(h:Int×Nat×Tr):Fwd h.2.2 (rowT n len h):=by
 unfold rowT;split
 ·exact fwd_fail _ (by decide)
 ·exact Fwd.refl _
theorem Fine.rowT(n len:Nat){h:Int×Nat×Tr}(hf:Fine h.2.2):Fine (Tr.rowT n len h):=by
 unfold Tr.rowT;split
 ·exact hf.fail (by decide)
 ·exact hf
theorem rowT_len{n len:Nat}{h:Int×Nat×Tr}(he:(rowT n len h).ended=false):len+h.2.1<=n:=by
 unfold rowT at he;split at he
 ·rw [ended_fail _ (by decide)] at he;cases he
 ·omega
theorem rowStep_eq(H:RSet)(n:Nat)(l:List Int)(t:Tr):rowStep H n l t=(if (rowT n l.length (helped (t.symbol H).2 (t.symbol H).1 l)).ended then l else l++List.replicate (helped (t.symbol H).2 (t.symbol H).1 l).2.1 (helped (t.symbol H).2 (t.symbol H).1 l).1,rowT n l.length (helped (t.symbol H).2 (t.symbol H).1 l)):=rfl
theorem mu_rowStep{H:RSet}{n:Nat}{l:List Int}{t:Tr}(h:t.ended=false):(rowStep H n l t).2.mu<t.mu:=by
 rw [rowStep_eq];exact Nat.lt_of_le_of_lt ((fwd_helped (t.symbol H).2 (t.symbol H).1 l).trans (fwd_rowT _ _ _)).mu (mu_symbol H h)
theorem row_go{H:RSet}{n:Nat}{l:List Int}{t:Tr}(hl:l.length<n)(h:t.ended=false):row H n l t=row H n (rowStep H n l t).1 (rowStep H n l t).2:=by
 rw [row,if_pos ⟨hl,h⟩,dif_pos (mu_rowStep h)]
theorem row_stop{H:RSet}{n:Nat}{l:List Int}{t:Tr}(h:¬ (l.length<n∧t.ended=false)):row H n l t=(l,t):=by
 rw [row,if_neg h]
theorem fwd_rowStep(H:RSet)(n:Nat)(l:List Int)(t:Tr):Fwd t (rowStep H n l t).2:=
 (fwd_symbol t H).trans ((fwd_helped _ _ _).trans (fwd_rowT _ _ _))
theorem row_facts{H:RSet}{n:Nat}:∀ (m:Nat) (l:List Int) (t:Tr),t.mu<=m->Fwd t (row H n l t).2∧(Fine t->Fine (row H n l t).2)∧((row H n l t).2.ended=false->l.length<=n->(row H n l t).1.length=n):=by
 intro m;induction m with
 | zero=>
  intro l t hm;have he:t.ended=true:=by
   cases h:t.ended
   ·have:=mu_pos h;omega
   ·rfl
  rw [row_stop (by rw [he];simp)];exact ⟨Fwd.refl t,fun h=>h,fun h=>by rw [he] at h;cases h⟩
 | succ m ih=>
  intro l t hm;by_cases hc:l.length<n∧t.ended=false
  ·rw [row_go hc.1 hc.2];have hmu:=mu_rowStep (H:=H) (n:=n) (l:=l) hc.2;obtain ⟨a1,a2,a3⟩:=ih (rowStep H n l t).1 (rowStep H n l t).2 (by omega);refine ⟨(fwd_rowStep H n l t).trans a1,fun h=>a2 (Fine.rowT _ _ ((h.symbol H).helped _ _)),fun he hl=>a3 he ?_⟩;rw [rowStep_eq];show (if _ then _ else _:List Int).length<=n;split
   ·exact hl
   ·rename_i hne
    have:=rowT_len (h:=helped (t.symbol H).2 (t.symbol H).1 l) (n:=n) (len:=l.length) (by simpa using hne);simp;omega
  ·rw [row_stop hc];refine ⟨Fwd.refl t,fun h=>h,fun he hl=>?_⟩;have he':t.ended=false:=he;show l.length=n;have:¬ l.length<n:=fun h=>hc ⟨h,he'⟩
   omega
end Tr
theorem Kept.low{B p:Nat}{vo va vs:Value}{t0 t:Tr}{w a b:World}(h:Kept B p vo va vs t w a)(h0:TrI B p vo va vs t0 w)(hb:Below w.heap.size a b):Kept B p vo va vs t w b:=by
 have hs:=h.kp.size;refine ⟨⟨h.inv.pB,Nat.le_trans h.inv.hB hb.size,h.inv.row.of_block (hb.block p h0.row.lt),?_,?_,?_,h.inv.po,h.inv.pa,h.inv.ps,h.inv.oa,h.inv.os,h.inv.sa⟩,⟨Nat.le_trans hs hb.size,fun k hk hp=>(hb.block k hk).trans (h.kp.block k hk hp)⟩,h.bel.trans (hb.mono h0.hB)⟩
 ·exact kcz (R:=fun k=>w.heap.size<=k) (ρ:=fun k=>k) h.inv.out ⟨hb.size,fun k _ hk=>hb.block k (by omega)⟩ (fun g hg=>by have:=(h0.out.lt g hg).2;omega)
 ·exact kcz (R:=fun k=>w.heap.size<=k) (ρ:=fun k=>k) h.inv.ats ⟨hb.size,fun k _ hk=>hb.block k (by omega)⟩ (fun g hg=>by have:=(h0.ats.lt g hg).2;omega)
 ·exact kcz (R:=fun k=>w.heap.size<=k) (ρ:=fun k=>k) h.inv.sts ⟨hb.size,fun k _ hk=>hb.block k (by omega)⟩ (fun g hg=>by have:=(h0.sts.lt g hg).2;omega)
theorem x33{w:World}{B B':Nat}{e:TypeId}{sz:Nat}{v:Value}{n:Nat}{xs:List Value}(h:w.ownsRow B e sz v n xs)(hB:B'<=B):w.ownsRow B' e sz v n xs:=by
 refine ⟨h.1,?_⟩;rcases h.2 with hn | ⟨g,cap,cur,rfl,hb,rest⟩
 ·exact .inl hn
 ·exact .inr ⟨g,cap,cur,rfl,Nat.le_trans hB hb,rest⟩
structure RowI(B p:Nat)(vo va vs:Value)(W:World)(H:RSet)(n:Nat)(t0:Tr)(fin:List Int×Tr)(v:Value)(wr:World)(l:List Int)(t1:Tr):Prop where
 row:Tr.row H n l t1=fin
 own:wr.ownsRow W.heap.size 3 1 v l.length (k2f l)
 kept:Kept B p vo va vs t1 W wr
 fine:t1.Fine
 s:t1.s=t0.s
 len:l.length<=n
 rng:inRange l=true
structure AppI(B p:Nat)(vo va vs:Value)(W:World)(T2:Tr)(l:List Int)(x:Int)(v:Value)(wz:World)(j:Nat):Prop where
 own:wz.ownsRow W.heap.size 3 1 v (l.length+j) (k2f (l++List.replicate j x))
 kept:Kept B p vo va vs T2 W wz
 zero:T2.ended=true->j=0
theorem AppI.next{B p:Nat}{vo va vs:Value}{t0:Tr}{W:World}{T2:Tr}{l:List Int}{x:Int}{v:Value}{wz w5:World}{j g c:Nat}{o:Obj}(h0:TrI B p vo va vs t0 W)(h:AppI B p vo va vs W T2 l x v wz j)(he:T2.ended=false)
  (hown:w5.ownsRow W.heap.size 3 1 (.slice (some ⟨g,0,none⟩) (l.length+j+1) c) (l.length+j+1) (k2f (l++List.replicate j x)++[.int .i64 x])) (hgrow:(wz.alloc o).grownBy w5 v.ownBlock):AppI B p vo va vs W T2 l x (.slice (some ⟨g,0,none⟩) (l.length+j+1) c) w5 (j+1):=by
 have hsz:=h.kept.kp.size;refine ⟨?_,h.kept.low h0 (((Below.refl _ _).alloc hsz _).grown hgrow (by simp;omega) (fun g hg=>(h.own.lt g hg).1)),fun e=>by rw [he] at e;cases e⟩;have e:k2f (l++List.replicate (j+1) x)=k2f (l++List.replicate j x)++[.int .i64 x]:=by simp [k2f,List.replicate_succ']
 rw [e];exact hown
theorem jpk{B p:Nat}{vo va vs:Value}{t:Tr}(H:RSet)(ad ad':Option Addr)(cap cap' n:Nat)(w:World)(h:TrI B p vo va vs t w)(hf:t.Fine)(hs:t.s.size<=maxLen)(hS:SetI w H ad ad')(ho:Off p ad)(ho':Off p ad')(hl:H.l.length=15)(hn:n<=300)(hr:inRange H.l=true)(hc:jwa gw H.l=2048)(h1:H.one=false) :
  Calls Tryz.prog 216 #[.pointer (some ⟨p,0,none⟩), .agg (setC H ad cap ad' cap'), .int .i64 n] w fun x w'=>∃ v,x= .returned v∧w'.ownsRow w.heap.size 3 1 v (Tr.row H n [] t).1.length (k2f (Tr.row H n [] t).1)∧Kept B p vo va vs (Tr.row H n [] t).2 w w'∧(Tr.row H n [] t).1.length<=n∧inRange (Tr.row H n [] t).1=true:=by
 obtain ⟨cb,hcb⟩:∃ cb,cb=setC H ad cap ad' cap':=⟨_,rfl⟩
 rw [← hcb];have HCB:Hid (cb=setC H ad cap ad' cap'):=hcb;have HIB:Hid ((Tryz.prog.info? 273).map (·.size)=some cb.size):=by show _=_;rw [hcb];exact vo8 _ _ _ _ _
 clear hcb;obtain ⟨W0,hW0⟩:∃ W0,W0=w.alloc (.cells cb 273):=⟨_,rfl⟩
 have hsz0:W0.heap.size=w.heap.size+1:=by rw [hW0];simp
 have hbox:W0.heap[w.heap.size]?=some (.cells cb 273 (0,0)):=by rw [hW0];exact heap_alloc_new w _
 have B0:Below w.heap.size w W0:=by rw [hW0];exact (Below.refl _ _).alloc (Nat.le_refl _) _
 have HI0:Hid (TrI B p vo va vs t W0):=h.below B0;have HK0:Hid (Kept B p vo va vs t w W0):=(Kept.refl h).below B0;have hp0:p<w.heap.size:=h.row.lt;have HSO:Hid (Off p ad∧Off p ad'∧H.l.length=15∧inRange H.l=true∧jwa gw H.l=2048∧H.one=false∧t.s.size<=maxLen):=⟨ho,ho',hl,hr,hc,h1,hs⟩
 have H0:Hid (RowI B p vo va vs W0 H n t (Tr.row H n [] t) (.slice none 0 0) W0 [] t):=⟨rfl,World.ownsRow_nil _ _ _ _,Kept.refl HI0.out,hf,rfl,Nat.zero_le _,rfl⟩
 have HS0:Hid (SetI W0 H ad ad'):=hS.below B0;have HBX:Hid (W0.heap[w.heap.size]?=some (.cells cb 273 (0,0))):=hbox;clear h hf hs hS ho ho' hl hr hc h1 B0 hbox;go_enter Tryz.func216,Tryz.ntmps216
 go_wp2_with fail
 rw [← hW0];clear hW0;go_loopw [7] (fun v wr=>∃ (l:List Int) (t1:Tr),Hid (RowI B p vo va vs W0 H n t (Tr.row H n [] t) v wr l t1)) (fun _ wr=>muW p wr)
 case atStart=>exact ⟨[],t,H0⟩
 case round=>
  obtain ⟨l,t1,HH⟩:=hrel;clear H0;have hln:=HH.out.len;have HBXr:Hid (wr.heap[w.heap.size]?=some (.cells cb 273 (0,0))):=(HH.out.kept.kp.block _ (by rw [hsz0];omega) (by show w.heap.size≠p;omega)).trans HBX.out;have HSr:Hid (SetI wr H ad ad'):=HS0.out.sole HH.out.kept.kp HSO.out.1 HSO.out.2.1;obtain ⟨la,lc,hv,hcl⟩:=OI.cells (w:=wr) (B:=W0.heap.size) (l:=l) HH.out.own;subst hv;by_cases hlt:l.length<n
  ·cases he:t1.ended
   ·have HE:Hid (t1.ended=false):=he;clear he;go_wp2_with (first | (go_at_call 182;refine (ywm _ HH.out.kept.inv).mono ?_;rw [HE.out];rintro e w' ⟨rfl,rfl⟩) | (refine wpList_load_row rfl 273 _ rfl _ rfl 273 _ _ _ HBXr.out Tryz.underlying273 rfl HIB.out ?_))
    have hcall:=jwz H ad ad' cap cap' wr HH.out.kept.inv HH.out.fine (by rw [HH.out.s];exact HSO.out.2.2.2.2.2.2) HSr.out HSO.out.1 HSO.out.2.1 (by have:=HSO.out.2.2.1;omega);rw [← HCB.out] at hcall;refine hcall.mono ?_;clear hcall;rintro e w1 ⟨rfl,q1⟩;have HF:Hid (Tr.Fwd t1 (t1.symbol H).2∧(t1.symbol H).2.Fine):=⟨Tr.fwd_symbol t1 H,HH.out.fine.symbol H⟩
    have HQ1:Hid (Kept B p vo va vs (t1.symbol H).2 wr w1):=q1;have HLA:Hid (Off p la):=fun b o f e=>by
     subst e;have:=(HH.out.own.lt b rfl).1;omega
    have hcl1:xin w1 la l:=hcl.sole q1.kp HLA.out;have HCL:Hid (xin w1 la l):=hcl1;have hd1:=Tr.symbol_lt t1 H;have hd15:(t1.symbol H).1<15:=by have:=HSO.out.2.2.1;omega
    have HST:Hid (Tr.rowStep H n l t1=(if (Tr.rowT n l.length (Tr.helped (t1.symbol H).2 (t1.symbol H).1 l)).ended then l else l++List.replicate (Tr.helped (t1.symbol H).2 (t1.symbol H).1 l).2.1 (Tr.helped (t1.symbol H).2 (t1.symbol H).1 l).1,Tr.rowT n l.length (Tr.helped (t1.symbol H).2 (t1.symbol H).1 l))):=Tr.rowStep_eq H n l t1;have HCO:Hid ((t1.symbol H).1= -1->(t1.symbol H).2.ended=true):=j38 HSO.out.2.2.2.1 HSO.out.2.2.2.2.1 HSO.out.2.2.2.2.2.1 t1;have HMU:Hid ((t1.symbol H).2.mu<t1.mu):=Tr.mu_symbol H HE.out;have HZ1:Hid ((t1.symbol H).2.s.size<=maxLen):=by show _<=_;rw [HF.out.1.s,HH.out.s];exact HSO.out.2.2.2.2.2.2
    clear q1 hcl hcl1;generalize t1.symbol H=D at *;go_upto_block 2 with fail
    go_cut [9,10] (fun sv sm wx=>∃ (x:Int) (m:Nat),sv= .int .i64 x∧sm= .int .i64 m∧m<=74∧Hid (x=(Tr.helped D.2 D.1 l).1∧m=(Tr.helped D.2 D.1 l).2.1∧Kept B p vo va vs (Tr.helped D.2 D.1 l).2.2 wr wx))
    case first=>
     by_cases h12:D.1=12
     ·have h12':(D.1==12)=true:=by simp [h12]
      have HHp:Hid (Tr.helped D.2 D.1 l=(if l.length=0 then 0 else l.getD (l.length - 1) 0,3+(D.2.number 2).1,if l.length=0 then (D.2.number 2).2.fail 10 else (D.2.number 2).2)):=by show _=_;unfold Tr.helped;rw [if_pos h12]
      have hx4:(D.2.number 2).1<4:=Tr.number_lt D.2 2;clear h12;by_cases hl0:l.length=0
      ·have hl0':((l.length:Int)==0)=true:=by rw [hl0];rfl
       have HL0:Hid (l.length=0):=hl0;clear hl0;go_wp2_with (go_at_call 198;refine (zu8 2 _ HQ1.out.inv HF.out.2 HZ1.out (by omega)).mono ?_;rintro e w2 ⟨rfl,q2⟩;have HQ2:Hid (Kept B p vo va vs (D.2.number 2).2 wr w2):=HQ1.out.trans q2;clear q2)
       refine (j0n 10 _ HQ2.out.inv).mono ?_;rintro e w3 ⟨rfl,q3⟩;have HQ3:Hid (Kept B p vo va vs ((D.2.number 2).2.fail 10) wr w3):=HQ2.out.trans q3;clear q3;go_wp2_with fail
       go_meet
       refine ⟨0,3+(D.2.number 2).1,rfl,by go_num,by omega,?_⟩;show _∧_∧_;rw [HHp.out,if_pos HL0.out,if_pos HL0.out];exact ⟨rfl,rfl,HQ3.out⟩
      ·have hl0':((l.length:Int)==0)=false:=by rw [beq_eq_false_iff_ne];omega
       obtain ⟨q,hq⟩:∃ q,l.length=q+1:=⟨l.length - 1,by omega⟩
       have hqi:(l.length:Int) - 1=(q:Int):=by omega
       have hql:(q:Int)<(l.length:Int):=by omega
       obtain ⟨b,o,hla,_,_⟩:=HCL.out q (by omega);subst hla;have HLC:Hid (∀ w2,Kept B p vo va vs (D.2.number 2).2 w1 w2->w2.cell? ⟨b,o+q,none⟩=some (.int .i64 (l.getD q 0))):=fun w2 q2=>by
        obtain ⟨b',o',e,_,hc⟩:=(HCL.out.sole q2.kp HLA.out) q (by omega);simp only [Option.some.injEq,Addr.mk.injEq,and_true] at e;rw [e.1,e.2];exact hc
       have HHq:Hid (Tr.helped D.2 D.1 l=(l.getD q 0,3+(D.2.number 2).1,(D.2.number 2).2)):=by show _=_;rw [HHp.out,if_neg hl0,if_neg hl0,hq,Nat.add_sub_cancel]
       clear hq;go_wp2_with (go_at_call 198;refine (zu8 2 _ HQ1.out.inv HF.out.2 HZ1.out (by omega)).mono ?_;rintro e w2 ⟨rfl,q2⟩;have HQ2:Hid (Kept B p vo va vs (D.2.number 2).2 wr w2):=HQ1.out.trans q2;have cq:=HLC.out w2 q2;clear q2)
       go_meet
       refine ⟨l.getD q 0,3+(D.2.number 2).1,rfl,by go_num,by omega,?_⟩;show _∧_∧_;rw [HHq.out];exact ⟨rfl,rfl,HQ2.out⟩
     ·have h12':(D.1==12)=false:=by simpa using h12
      by_cases h13:D.1=13
      ·have h13':(D.1==13)=true:=by simp [h13]
       have HHp:Hid (Tr.helped D.2 D.1 l=(0,3+(D.2.number 3).1,(D.2.number 3).2)):=by show _=_;unfold Tr.helped;rw [if_neg h12,if_pos h13]
       have hx8:(D.2.number 3).1<8:=Tr.number_lt D.2 3;clear h13;go_wp2_with (go_at_call 198;refine (zu8 3 _ HQ1.out.inv HF.out.2 HZ1.out (by omega)).mono ?_;rintro e w2 ⟨rfl,q2⟩;have HQ2:Hid (Kept B p vo va vs (D.2.number 3).2 wr w2):=HQ1.out.trans q2;clear q2)
       go_meet
       refine ⟨0,3+(D.2.number 3).1,rfl,by go_num,by omega,?_⟩;show _∧_∧_;rw [HHp.out];exact ⟨rfl,rfl,HQ2.out⟩
      ·have h13':(D.1==13)=false:=by simpa using h13
       by_cases h14:D.1=14
       ·have h14':(D.1==14)=true:=by simp [h14]
        have HHp:Hid (Tr.helped D.2 D.1 l=(0,11+(D.2.number 6).1,(D.2.number 6).2)):=by show _=_;unfold Tr.helped;rw [if_neg h12,if_neg h13,if_pos h14]
        have hx64:(D.2.number 6).1<64:=Tr.number_lt D.2 6;clear h14;go_wp2_with (go_at_call 198;refine (zu8 6 _ HQ1.out.inv HF.out.2 HZ1.out (by omega)).mono ?_;rintro e w2 ⟨rfl,q2⟩;have HQ2:Hid (Kept B p vo va vs (D.2.number 6).2 wr w2):=HQ1.out.trans q2;clear q2)
        go_meet
        refine ⟨0,11+(D.2.number 6).1,rfl,by go_num,by omega,?_⟩;show _∧_∧_;rw [HHp.out];exact ⟨rfl,rfl,HQ2.out⟩
       ·have h14':(D.1==14)=false:=by simpa using h14
        have HHp:Hid (Tr.helped D.2 D.1 l=(D.1,1,D.2)):=by show _=_;unfold Tr.helped;rw [if_neg h12,if_neg h13,if_neg h14]
        go_wp2_with fail
        go_meet
        refine ⟨D.1,1,rfl,rfl,by omega,?_⟩;show _∧_∧_;rw [HHp.out];exact ⟨rfl,rfl,HQ1.out⟩
    case rest=>
    obtain ⟨x,m,rfl,rfl,hm74,HP⟩:=hcut;have HFh:Hid (Tr.Fwd D.2 (Tr.helped D.2 D.1 l).2.2∧(Tr.helped D.2 D.1 l).2.2.Fine):=⟨Tr.fwd_helped _ _ _,HF.out.2.helped _ _⟩
    have HRG:Hid ((Tr.helped D.2 D.1 l).2.2.ended=false->yuc (Tr.helped D.2 D.1 l).1=true):=Tr.helped_range HH.out.rng hd1.2 hd15 HCO.out;clear HQ1 HCL HCO;generalize Tr.helped D.2 D.1 l=q at *;obtain ⟨T2,hT2⟩:∃ T2,T2=Tr.rowT n l.length q:=⟨_,rfl⟩
    have HT2:Hid (Tr.Fwd q.2.2 T2∧T2.Fine∧(T2.ended=false->l.length+m<=n)∧(T2.ended=false->yuc x=true)):=by
     show _∧_;rw [hT2,HP.out.1,HP.out.2.1];refine ⟨Tr.fwd_rowT _ _ _,Tr.Fine.rowT _ _ HFh.out.2,Tr.rowT_len,fun he=>HRG.out ((Tr.fwd_rowT n l.length q).of_ended he)⟩
    by_cases hbig:n<l.length+m
    case' pos=>
     have hbig':decide ((n:Int)<(l.length:Int)+m)=true:=by simp;omega
     have HT:Hid (T2=q.2.2.fail 10):=by show T2=_;rw [hT2];unfold Tr.rowT;rw [← HP.out.2.1,if_pos hbig]
     go_wp2_with fail
     refine (j0n 10 _ HP.out.2.2.inv).mono ?_;rintro e w3 ⟨rfl,q3⟩;have HQ3:Hid (Kept B p vo va vs T2 wr w3):=by show Kept _ _ _ _ _ _ _ _;rw [HT.out];exact HP.out.2.2.trans q3
     clear q3 HT hbig';go_wp2_with fail
    case' neg=>
     have hbig':decide ((n:Int)<(l.length:Int)+m)=false:=by simp;omega
     have HT:Hid (T2=q.2.2):=by show T2=_;rw [hT2];unfold Tr.rowT;rw [← HP.out.2.1,if_neg hbig]
     go_wp2_with fail
     obtain ⟨w3,hw3⟩:∃ w3,w3=wc:=⟨_,rfl⟩
     rw [← hw3];have HQ3:Hid (Kept B p vo va vs T2 wr w3):=by show Kept _ _ _ _ _ _ _ _;rw [HT.out,hw3];exact HP.out.2.2
     clear HT hbig' hw3
    all_goals
     clear hbig;have HA0:Hid (AppI B p vo va vs W0 T2 l x (.slice la l.length lc) w3 0):=⟨by simpa using jhg HH.out.own HQ3.out.kp (fun e=>by have:=(HH.out.own.lt p e).1;omega),HH.out.kept.trans HQ3.out,fun _=>rfl⟩
     go_loopw [7,14] (fun vv i wz=>∃ j:Nat,j<=m∧i= .int .i64 j∧Hid (AppI B p vo va vs W0 T2 l x vv wz j)) (fun _ i _=>m - (intOf i).toNat)
     case atStart=>exact ⟨0,Nat.zero_le _,rfl,HA0⟩
     case round=>
      obtain ⟨j,hj,rfl,HA⟩:=hrel;clear HA0;by_cases hjm:j<m
      ·cases hd:T2.ended
       ·have HD:Hid (T2.ended=false):=hd;clear hd;have hown0:=HA.out.own;have hszw:W0.heap.size<=wr.heap.size:=HA.out.kept.kp.size;have hlm:=HT2.out.2.2.1 HD.out;obtain ⟨i3,hi3,hy0,hy1,hy2⟩:=info_parts ve2;go_wp2_with (first | (go_at_call 182;refine (ywm _ HA.out.kept.inv).mono ?_;rw [HD.out];rintro e w' ⟨rfl,rfl⟩) | (at_builtin;refine wpList_append_lies _ rfl _ _ 69 rfl W0.heap.size 3 i3 (.int .i64 0) 1 8 Tryz.underlying69 hi3 hy0 hy1 hy2 rfl (by decide) u7 (l.length+j) (k2f (l++List.replicate j x)) rfl (hown0.alloc _) ⟨wr.heap.size,0,none⟩ 1 1 [.int .i64 x] rfl rfl (cell_one_new _ _ _) (by simp [Value.oneCell']) (by omega) (by unfold maxLen;omega) (by omega) (by simp;omega) (wr.heap.size+1) (by simp) ?_;intro g2 p2 w5 hown2 hgrow2 hat2 hlt2))
        have HN:=HA.out.next HI0.out HD.out hown2 hgrow2;have HN':Hid (AppI B p vo va vs W0 T2 l x (.slice (some ⟨g2,0,none⟩) (l.length+j+1) p2) w5 (j+1)):=HN;clear HN hown2 hgrow2 hat2 hlt2 hown0;go_roundw
        case rel=>exact ⟨j+1,by omega,by go_num,HN'⟩
        case measure=>simp [intOf];omega
       ·have HD:Hid (T2.ended=true):=hd;clear hd;go_wp2_with (first | (go_at_call 182;refine (ywm _ HA.out.kept.inv).mono ?_;rw [HD.out];rintro e w' ⟨rfl,rfl⟩))
        have HR:Hid (RowI B p vo va vs W0 H n t (Tr.row H n [] t) u7 wr (Tr.rowStep H n l t1).1 (Tr.rowStep H n l t1).2):=by
         have e1:=HST.out;rw [← hT2] at e1;have h0:=HA.out.zero HD.out;subst h0;rw [if_pos HD.out] at e1;have hown:=HA.out.own;simp only [List.replicate_zero,List.append_nil,Nat.add_zero] at hown;have hlen:=HH.out.len;have hrng:=HH.out.rng;refine ⟨?_,?_,?_,?_,?_,?_,?_⟩
         ·rw [← HH.out.row,Tr.row_go hlt HE.out]
         ·rw [e1];exact hown
         ·rw [e1];exact HA.out.kept
         ·rw [e1];exact HT2.out.2.1
         ·rw [e1];exact (HT2.out.1.s.trans (HFh.out.1.s.trans HF.out.1.s)).trans HH.out.s
         ·rw [e1];exact hlen
         ·rw [e1];exact hrng
        go_roundw
        case rel=>exact ⟨_,_,HR⟩
        case measure=>rw [HR.out.kept.inv.muW,HH.out.kept.inv.muW];exact Tr.mu_rowStep HE.out
      ·obtain rfl:j=m:=by omega
       go_wp2_with fail
       have HR:Hid (RowI B p vo va vs W0 H n t (Tr.row H n [] t) u7 wr (Tr.rowStep H n l t1).1 (Tr.rowStep H n l t1).2):=by
        have e1:=HST.out;rw [← hT2] at e1;cases hd:T2.ended
        case' false=>
         rw [if_neg (by rw [hd];simp),← HP.out.1,← HP.out.2.1] at e1;have hown:=HA.out.own;rw [show l.length+j=(l++List.replicate j x).length by simp] at hown;have hlen:(l++List.replicate j x).length<=n:=by have:=HT2.out.2.2.1 hd;simp;omega
         have hrng:=Tr.inRange_append HH.out.rng (HT2.out.2.2.2 hd) j
        case' true=>
         have h0:=HA.out.zero hd;rw [if_pos hd] at e1;have hown:=HA.out.own;rw [h0] at hown;simp only [List.replicate_zero,List.append_nil,Nat.add_zero] at hown;have hlen:=HH.out.len;have hrng:=HH.out.rng
        all_goals
         refine ⟨?_,?_,?_,?_,?_,?_,?_⟩
         ·rw [← HH.out.row,Tr.row_go hlt HE.out]
         ·rw [e1];exact hown
         ·rw [e1];exact HA.out.kept
         ·rw [e1];exact HT2.out.2.1
         ·rw [e1];exact (HT2.out.1.s.trans (HFh.out.1.s.trans HF.out.1.s)).trans HH.out.s
         ·rw [e1];exact hlen
         ·rw [e1];exact hrng
       go_roundw
       case rel=>exact ⟨_,_,HR⟩
       case measure=>rw [HR.out.kept.inv.muW,HH.out.kept.inv.muW];exact Tr.mu_rowStep HE.out
   ·have HE:Hid (t1.ended=true):=he;clear he;go_wp2_with (go_at_call 182;refine (ywm _ HH.out.kept.inv).mono ?_;rw [HE.out];rintro e w' ⟨rfl,rfl⟩)
    go_ret
    have e1:=HH.out.row;rw [Tr.row_stop (by rw [HE.out];simp)] at e1;rw [← e1];exact ⟨_,rfl,x33 HH.out.own (by omega),HK0.out.trans HH.out.kept,HH.out.len,HH.out.rng⟩
  ·go_wp2_with fail
   go_ret
   have e1:=HH.out.row;rw [Tr.row_stop (fun e=>hlt e.1)] at e1;rw [← e1];exact ⟨_,rfl,x33 HH.out.own (by omega),HK0.out.trans HH.out.kept,HH.out.len,HH.out.rng⟩
theorem jiv{P:Program}{ops:Array Oper}{o:Oper}{a:Act}{w:World}{K:Act->World->Prop}{Q:Exit->Act->World->Prop}{E:Prop}(hgd:o.guard=none)(ty:TypeId)(x:Operand)(ho:o.op= .load ty x)
  (g:Nat) (hx:a.eval x= .pointer (some ⟨g,0,none⟩)) (t:TypeId) (cs:Array Value) (fr:Nat×Nat) (d:TypeDesc) (hg:w.heap[g]?=some (.cells cs t fr))
  (hu:P.underlying ty=some d) (hd:(match d with | .struct _ | .array _ _=>true | _=>false)=true) (hi:(P.info? ty).map (·.size)=some cs.size)
  (h:K (a.put o.dst (.agg cs)) w):if Region.wanted o (yielded ops a.tmps)=true then Oper.wp P o a w K Q else E:=by
 have hw:Region.wanted o (yielded ops a.tmps)=true:=by simp [Region.wanted,hgd]
 rw [if_pos hw];exact wp_load_row ty x ho g hx t cs fr d hg hu hd hi h
theorem zf3{P:Program}{fn:Func}{p q:Tmp}{ty:TypeId}(h:fn.results=#[.cell p ty, .cell q ty])(tmps:Array Value)(w:World)(g g':Nat)(t t':TypeId)(cs cs':Array Value)(fr fr':Nat×Nat)(d:TypeDesc)
  (hp:tmps.getD p undef= .pointer (some ⟨g,0,none⟩)) (hq:tmps.getD q undef= .pointer (some ⟨g',0,none⟩)) (hg:w.heap[g]?=some (.cells cs t fr)) (hg':w.heap[g']?=some (.cells cs' t' fr'))
  (hu:P.underlying ty=some d) (hd:(match d with | .struct _ | .array _ _=>true | _=>false)=true) (hi:(P.info? ty).map (·.size)=some cs.size) (hi':(P.info? ty).map (·.size)=some cs'.size) :
  (results fn tmps).run P w= .ok (.tuple #[.agg cs, .agg cs']) w:=by
 have hp':tmps[p]?.getD undef= .pointer (some ⟨g,0,none⟩):=by simpa using hp
 have hq':tmps[q]?.getD undef= .pointer (some ⟨g',0,none⟩):=by simpa using hq
 simp [results,h,hp',hq',asAddr,run_loadVar_row w g t ty cs fr d hg hu hd hi,run_loadVar_row w g' t' ty cs' fr' d hg' hu hd hi']
theorem jfy{w:World}{g i:Nat}{v:Value}{cs:Array Value}{t:TypeId}{fr:Nat×Nat}(hg:w.heap[g]?=some (.cells cs t fr))(hv:cs[i]?=some v):w.setCell ⟨g,i,none⟩ v=w:=by
 have this:(w.setCell ⟨g,i,none⟩ v).heap=w.heap:=by
  apply Array.ext_getElem?;intro k;by_cases e:k=g
  ·subst e;have h1:(w.setCell ⟨k,i,none⟩ v).heap[k]?=some (.cells (cs.setIfInBounds i v) t fr):=by
    simp [World.setCell,Array.getElem?_modify,hg]
   have h2:cs.setIfInBounds i v=cs:=by
    apply Array.ext_getElem?;intro j;rw [Array.getElem?_setIfInBounds];by_cases e:i=j
    ·subst e;have hlt:i<cs.size:=(Array.getElem?_eq_some_iff.1 hv).1;rw [if_pos rfl,if_pos hlt,hv]
    ·rw [if_neg e]
   rw [h1,h2,hg]
  ·exact Below.heap_setCell _ _ _ _ e
 have e:(w.setCell ⟨g,i,none⟩ v)={ w with heap:=(w.setCell ⟨g,i,none⟩ v).heap }:=rfl;rw [e,this]
end Go.Proofs.YtbcjmakpempkiaaGreatDoor
