import Derived.Test.YtbcjmakpempkiaaGreatDoorX13
set_option maxRecDepth 100000
set_option maxHeartbeats 8000000
set_option linter.all false
namespace Go.Proofs.YtbcjmakpempkiaaGreatDoor
namespace St
theorem sim_21{σ:St}{t:Tr}(R:Rel σ t)(hst:σ.st=21)(hf3:σ.fmt<3)(hc:σ.count%8=0∧σ.count<=32∧(σ.fmt=0->σ.count=0)):Sim σ t:=by
 have hg:=R.going;unfold Sim;rw [act_at hst];simp only [actAt,need];have hK:σ.K t=σ.fin t:=K_at hst t;by_cases hf:σ.fmt=0
 ·rw [if_pos hf];unfold SimA;refine ⟨t,⟨hg,R.hand,R.lim,R.fine,fun _=>R.om (by omega),fun h=>by have:(22:Nat)<6:=h;omega,R.begun,R.bytes⟩,?_,rfl,rfl,rfl,by rw [if_neg (by omega)],rfl⟩;rw [hK];show (if σ.fmt=2 then _ else _)=_;unfold fin;rw [if_neg (by omega),if_pos hf]
 ·rw [if_neg hf];have hK2:σ.K t=(if σ.fmt=2 then Tr.long σ.mem t.sum.sized else t.sum.trail):=by
   rw [hK];unfold fin;rw [if_neg hf];by_cases h1:σ.fmt=1
   ·rw [if_pos h1,if_neg (by omega)]
   ·rw [if_neg h1,if_pos (by omega)]
  have hz:Tr.Frz t.sum (σ.K t):=by
   rw [hK2];exact Tr.Frz.ite (c:=σ.fmt=2) ((Tr.frz_sized _).trans (Tr.frz_long _ _)) (Tr.frz_trail _)
  have es:t.sum=if ((t.four 4).1:Int)=Tr.sumL ((Tr.octN 4 t).out.drop (Tr.octN 4 t).frm) then Tr.octN 4 t else (Tr.octN 4 t).fail 12:=by
   unfold Tr.sum;rw [Tr.four_octN]
  by_cases h3:σ.count<32
  ·rw [if_pos h3];unfold SimA;intro hs;refine dry_sim (x:=Tr.octN 4 t) (Tr.Frz.trans ?_ hz) (R.hand.octN_dry hg hc.1 hs 4 (by omega)) (by omega);rw [es];exact Tr.frz_ite_fail' _ _ _
  ·rw [if_neg h3];have c32:σ.count=32:=by omega
   obtain ⟨n2,hd,hi⟩:=R.hand.octN hg (by omega) 4 (by omega);have hv:=R.hand.four hg c32;have N:=hd.near;rw [hv,N.out,N.frm,R.om (by omega)] at es;by_cases hk:(big4 σ.held:Int)=Tr.sumL σ.om
   ·rw [if_pos hk];rw [if_pos hk] at es;unfold SimA;refine ⟨Tr.octN 4 t,rel_rd R (by omega) hd R.fine.octet.octet.octet.octet n2 (by show 6<=22;omega) rfl rfl rfl rfl,?_,N.out,N.ats,hi,by rw [if_neg (by omega)];exact N.starts,N.s⟩;rw [hK2,es];rfl
   ·rw [if_neg hk];rw [if_neg hk] at es;unfold SimA;show Tr.obs (σ.K t)=_;refine hz.keep ?_ (Or.inl (by decide));rw [es,N.obs_fail hg];congr 1
    omega
theorem sim_22{σ:St}{t:Tr}(R:Rel σ t)(hst:σ.st=22)(hc:σ.count%8=0∧σ.count<=16∧(σ.fmt≠2->σ.count=0)):Sim σ t:=by
 have hg:=R.going;unfold Sim;rw [act_at hst];simp only [actAt,need];by_cases hf:σ.fmt=2
 ·rw [if_pos hf];have hK:σ.K t=Tr.long σ.mem t.sized:=by rw [K_at hst];show (if σ.fmt=2 then _ else _)=_;rw [if_pos hf]
  have hz:Tr.Frz t.sized (σ.K t):=by rw [hK];exact Tr.frz_long _ _
  have es:t.sized=if t.octet.1+256*(Tr.octN 1 t).octet.1=((Tr.octN 2 t).out.length - (Tr.octN 2 t).frm)%65536 then Tr.octN 2 t else (Tr.octN 2 t).fail 13:=rfl;by_cases h3:σ.count<16
  ·rw [if_pos h3];unfold SimA;intro hs;refine dry_sim (x:=Tr.octN 2 t) (Tr.Frz.trans ?_ hz) (R.hand.octN_dry hg hc.1 hs 2 (by omega)) (by omega);rw [es];exact Tr.frz_ite_fail' _ _ _
  ·rw [if_neg h3];have c16:σ.count=16:=by omega
   obtain ⟨n2,hd,hi⟩:=R.hand.octN hg (by omega) 2 (by omega);have a0:=R.hand.octV hg (by omega) 0 (by omega);have a1:=R.hand.octV hg (by omega) 1 (by omega);have e0:(Tr.octN 0 t).octet.1=t.octet.1:=rfl;rw [e0] at a0;have hn:t.octet.1+256*(Tr.octN 1 t).octet.1=σ.num 16:=by
    rw [a0,a1];show _=σ.held%2^16;simp;omega
   have N:=hd.near;rw [hn,N.out,N.frm,← om_len R (by omega)] at es;by_cases hk:σ.num 16=σ.om.length%65536
   ·rw [if_pos hk];rw [if_pos hk] at es;unfold SimA;refine ⟨Tr.octN 2 t,rel_rd R (by omega) hd R.fine.octet.octet n2 (by show 6<=23;omega) rfl rfl rfl rfl,?_,N.out,N.ats,hi,by rw [if_neg (by omega)];exact N.starts,N.s⟩;rw [hK,es];show (if σ.fmt=2 then _ else _)=_;rw [if_pos hf];rfl
   ·rw [if_neg hk];rw [if_neg hk] at es;unfold SimA;show Tr.obs (σ.K t)=_;refine hz.keep ?_ (Or.inl (by decide));rw [es,N.obs_fail hg];congr 1
    omega
 ·rw [if_neg hf];unfold SimA;refine ⟨t,⟨hg,R.hand,R.lim,R.fine,fun _=>R.om (by omega),fun h=>by have:(23:Nat)<6:=h;omega,R.begun,R.bytes⟩,?_,rfl,rfl,rfl,by rw [if_neg (by omega)],rfl⟩;rw [K_at hst];show (if σ.fmt=2 then _ else _)=(if σ.fmt=2 then _ else _);rw [if_neg hf,if_neg hf]
theorem sim_23{σ:St}{t:Tr}(R:Rel σ t)(hst:σ.st=23)(hc:σ.count%8=0∧σ.count<=8):Sim σ t:=by
 have hg:=R.going;obtain ⟨he,hn⟩:=(Tr.ended_iff t).1 hg;unfold Sim;rw [act_at hst];simp only [actAt,need];have hK:σ.K t=if σ.fmt=2 then Tr.long σ.mem t else t.trail:=K_at hst t;rcases head_count hc with c0 | c8
 ·rw [if_pos (by omega)];unfold SimA;intro hs;rw [c0] at hs;have hi:¬ (t.ended=false∧t.inn<t.s.size):=by omega
  have e:σ.K t=t:=by
   rw [hK];split
   ·exact Tr.long_stop hi
   ·unfold Tr.trail;rw [if_neg hi]
  rw [e,hst];show Tr.Ob.mk t.out t.ats t.inn t.starts t.err t.needs=_;rw [he,hn,show t.inn=t.s.size by omega];rfl
 ·rw [if_neg (by omega)];have hi:=R.hand.inn;rw [c8] at hi;have hlt:t.ended=false∧t.inn<t.s.size:=⟨hg,by omega⟩
  by_cases hf:σ.fmt=2
  ·rw [if_neg (by omega)];rw [if_pos hf] at hK;have hb:=R.begun hf;by_cases hm:σ.mem<=σ.begun
   ·rw [if_pos hm];unfold SimA;show Tr.obs (σ.K t)=_;rw [hK,Tr.long_many hlt (by omega),Tr.obs_fail (by exact hg),c8]
   ·rw [if_neg hm];unfold SimA;refine ⟨{ t with starts:=t.starts++[t.inn],head:=0,many:=0 },?_,?_,rfl,rfl,rfl,by rw [if_pos hst],rfl⟩
    ·have f:=R.fine;have h:=R.hand;exact ⟨hg,⟨h.left,h.cur,h.inn,h.val⟩,R.lim,⟨f.left,f.cur,f.inn,f.frm,f.ats,f.err⟩,fun h=>by have:6<=(0:Nat):=h;omega,fun _=>⟨rfl,rfl⟩,fun _=>by show (t.starts++[t.inn]).length=σ.begun+1;simp [hb],R.bytes⟩
    ·rw [hK,Tr.long_go R.fine hlt (by omega)];show ({ σ with st:=0,om:=[],hsum:=0,hmany:=0,marks:=0,begun:=σ.begun+1 }:St).k2 _=_;unfold k2 k6 fin;simp only [if_pos hf,if_neg (show ¬ σ.fmt=0 by omega),if_neg (show ¬ σ.fmt=1 by omega)];rfl
  ·rw [if_pos hf];rw [if_neg hf] at hK;unfold SimA;show Tr.obs (σ.K t)=_;rw [hK];unfold Tr.trail;rw [if_pos hlt,Tr.obs_fail (by exact hg),c8]
theorem rel_put{σ σ':St}{t:Tr}(R:Rel σ t)(h6:6<=σ.st)(b:Nat)(hb:b<256)(hst:6<=σ'.st)(hh:σ'.held=σ.held)(hc:σ'.count=σ.count)(h1:σ'.lim=σ.lim)(h2:σ'.fmt=σ.fmt)(h3:σ'.om=σ.om++[b])(h4:σ'.begun=σ.begun):Rel σ' (t.put b):=by
 have f:=R.fine.put b;have k:=Tr.put_bytesOk R.bytes hb;rw [Tr.put_going R.going] at f k ⊢;have h:=R.hand;refine ⟨R.going,by rw [hh,hc];exact ⟨h.left,h.cur,h.inn,h.val⟩,R.lim.trans h1.symm,f,fun _=>?_,fun h=>by omega,fun h=>by rw [h4];exact R.begun (h2 ▸ h),k⟩;show (t.out++[b]).drop t.frm=_;rw [h3,List.drop_append_of_le_length R.fine.frm,R.om h6]
theorem sim_15{σ:St}{t:Tr}(R:Rel σ t)(hst:σ.st=15)(hc:σ.count<8)(hl:σ.lit<256):Sim σ t:=by
 have hg:=R.going;unfold Sim;rw [act_at hst];simp only [actAt,SimA];refine ⟨t.put σ.lit,rel_put R (by omega) σ.lit hl (by show 6<=16;omega) rfl rfl rfl rfl rfl rfl,?_,?_,?_,?_,?_,?_⟩
 ·rw [K_at hst];rfl
 ·rw [Tr.put_going hg]
 ·rw [Tr.put_going hg,show σ.count / 8=0 by omega];rfl
 ·rw [Tr.put_going hg]
 ·rw [Tr.put_going hg]
 ·rw [Tr.put_going hg]
structure Full(l:List Int):Prop where
 range:inRange l=true
 whole:jwa gw l=2048
theorem Full.one{l:List Int}(h:Full l):ky9 l=false:=xze h.whole
theorem lng_11(l:List Int):lng l 12<=11:=y4h l 11
theorem symbol_hit{l:List Int}{t:Tr}{h c k m:Nat}(ho:ky9 l=true->lng l 12<=1)(e:jcs l h c= .hit k m)(H:Tr.Hand t h c)(hg:t.ended=false) :
  ∃ t',t.symbol (rset l)=((k:Int),t')∧Tr.Hand t' (h / 2^m) (c - m)∧Tr.Rd t t'∧t'.inn+(c - m) / 8=t.inn+c / 8:=by
 have:=sym_hit l (lng l 12) 11 1 0 h c k m t e H hg (lng_11 l) ho;rw [Nat.add_sub_cancel] at this;exact this
theorem symbol_dry{l:List Int}{t:Tr}{h c:Nat}(ho:ky9 l=true->lng l 12<=1)(e:jcs l h c= .more)(H:Tr.Hand t h c)(hg:t.ended=false)(hs:t.inn+c / 8=t.s.size):(t.symbol (rset l)).1= -1∧Tr.obs (t.symbol (rset l)).2=t.dry:=
 v3j l (lng l 12) 11 1 0 h c t e H hg hs (lng_11 l) ho
theorem sim_16{σ:St}{t:Tr}(R:Rel σ t)(hst:σ.st=16)(hc:y8i σ.la σ.held σ.count)(hA:Full σ.la)(hlen:σ.la.length<=269):Sim σ t:=by
 have hg:=R.going;have ho:ky9 σ.la=true->lng σ.la 12<=1:=fun h=>by rw [hA.one] at h;cases h
 unfold Sim;rw [act_at hst];simp only [actAt,symbol];have hK:σ.K t=σ.after (Tr.content (rset σ.la) (rset σ.lb) t):=K_at hst t;cases e:jcs σ.la σ.held σ.count with
 | none=>exact absurd e (zxu hA.range hA.whole _ _)
 | more=>
  unfold SimA;intro hs;obtain ⟨d1,d2⟩:=symbol_dry ho e R.hand hg hs;refine dry_sim (x:=(t.symbol (rset σ.la)).2) ?_ d2 (by omega);rw [hK,Tr.content_stop hg (Or.inl (Tr.dry_ended d2))];exact frz_after σ _
 | hit k m=>
  obtain ⟨t',d1,d2,d3,d4⟩:=symbol_hit ho e R.hand hg;have hk:=zmq σ.la _ _ _ _ _ _ _ e;have hcm:=hc.1 k m e;have N:=d3.near;have hg2:t'.ended=false:=by rw [N.ended];exact hg
  have F2:Tr.Fine t':=by have:=R.fine.symbol (rset σ.la);rw [d1] at this;exact this
  show SimA ((σ.rd m).literal k) σ t;unfold literal;by_cases k1:k<256
  ·rw [if_pos k1];unfold SimA;refine ⟨t',rel_rd R (by omega) d3 F2 d2 (by show 6<=15;omega) rfl rfl rfl rfl,?_,N.out,N.ats,d4,by rw [if_neg (by omega)];exact N.starts,N.s⟩;have e2:Tr.contentStep t (rset σ.la) (rset σ.lb)=t'.put k:=by
    unfold Tr.contentStep;rw [d1,if_pos (by show (k:Int)<256;omega)];show t'.put ((k:Int)%256).toNat=_;rw [show ((k:Int)%256).toNat=k by omega]
   rw [hK,Tr.content_go (by exact hlen) hg (by rw [d1];exact hg2) (by rw [d1];show (k:Int)≠256;omega),e2];rfl
  ·rw [if_neg k1];by_cases k2:k=256
   ·rw [if_pos k2];refine sim_end R (by omega) (by omega) N F2 d2 (by show σ.count - m<8;omega) d4 rfl rfl rfl rfl ?_;rw [hK,Tr.content_stop hg (Or.inr (by rw [d1];show (k:Int)=256;omega)),d1];rfl
   ·rw [if_neg k2];unfold SimA;refine ⟨t',rel_rd R (by omega) d3 F2 d2 (by show 6<=17;omega) rfl rfl rfl rfl,?_,N.out,N.ats,d4,by rw [if_neg (by omega)];exact N.starts,N.s⟩;have e2:Tr.contentStep t (rset σ.la) (rset σ.lb)=t'.copies (rset σ.lb) (k - 257):=by
     unfold Tr.contentStep;rw [d1,if_neg (by show ¬ (k:Int)<256;omega)];show t'.copies (rset σ.lb) ((k:Int) - 257).toNat=_;rw [show ((k:Int) - 257).toNat=k - 257 by omega]
    rw [hK,Tr.content_go (by exact hlen) hg (by rw [d1];exact hg2) (by rw [d1];show (k:Int)≠256;omega),e2,Tr.copies_copyL];generalize k - 257=j;rfl
theorem sim_17{σ:St}{t:Tr}(R:Rel σ t)(hst:σ.st=17):Sim σ t:=by
 have hg:=R.going;unfold Sim;rw [act_at hst];simp only [actAt,need];have hK:σ.K t=σ.cab (Tr.copyL (rset σ.lb) σ.least σ.bits t):=K_at hst t;by_cases h3:σ.count < σ.bits
 ·rw [if_pos h3];unfold SimA;intro hs;refine dry_sim (x:=(t.number σ.bits).2) ?_ (R.hand.starve hg hs σ.bits h3) (by omega);rw [hK];exact (Tr.frz_copyD _ _ _).trans (frz_cab σ _)
 ·rw [if_neg h3];obtain ⟨n1,n2,n3,n4⟩:=R.hand.number hg σ.bits (by omega);have N:=n3.near;unfold SimA;refine ⟨(t.number σ.bits).2,rel_rd R (by omega) n3 (R.fine.number _) n2 (by show 6<=18;omega) rfl rfl rfl rfl,?_,N.out,N.ats,n4,by rw [if_neg (by omega)];exact N.starts,N.s⟩;rw [hK];unfold Tr.copyL;rw [n1];rfl
theorem sim_18{σ:St}{t:Tr}(R:Rel σ t)(hst:σ.st=18)(hc:y8i σ.lb σ.held σ.count)(hr:inRange σ.lb=true)(hB:okDists σ.lb):Sim σ t:=by
 have hg:=R.going;have ho:ky9 σ.lb=true->lng σ.lb 12<=1:=fun h=>by rw [x8u hr h];omega
 unfold Sim;rw [act_at hst];simp only [actAt,symbol];have hK:σ.K t=σ.cab (Tr.copyD (rset σ.lb) σ.left t):=K_at hst t;by_cases hz:jwa (fun _=>1) σ.lb=0
 ·have e:jcs σ.lb σ.held σ.count= .none:=by unfold jcs;rw [vga hz];rfl
  have hc8:=hc.2 e;rw [vga hz] at hc8;rw [e];unfold SimA;show Tr.obs (σ.K t)=_;have hk:Tr.Frz (t.fail 11) (σ.K t):=by
   rw [hK];refine Tr.Frz.trans ?_ (frz_cab σ _);unfold Tr.copyD;rw [if_pos (show (rset σ.lb).many=0 from hz)];refine (Tr.frz_symbol _ (rset σ.lb)).trans ?_;exact Tr.Frz.ite (Tr.frz_fail _ _) (Tr.frz_copyF _ _ _ _)
  refine hk.keep ?_ (Or.inl (by decide));rw [Tr.obs_fail hg,show σ.count / 8=0 by omega];rfl
 ·have em:(if (rset σ.lb).many=0 then t.fail 11 else t)=t:=by rw [if_neg (show ¬ (rset σ.lb).many=0 from hz)]
  have hK2:σ.K t=σ.cab (if (t.symbol (rset σ.lb)).1<0 then (t.symbol (rset σ.lb)).2.fail 11 else Tr.copyF σ.left (Tr.spanLeast 1 (t.symbol (rset σ.lb)).1.toNat) (Tr.spanBits (t.symbol (rset σ.lb)).1.toNat) (t.symbol (rset σ.lb)).2):=by
   rw [hK];unfold Tr.copyD;rw [em]
  cases e:jcs σ.lb σ.held σ.count with
  | more=>
   unfold SimA;intro hs;obtain ⟨d1,d2⟩:=symbol_dry ho e R.hand hg hs;refine dry_sim (x:=(t.symbol (rset σ.lb)).2) ?_ d2 (by omega);rw [hK2,if_pos (by omega)];exact (Tr.frz_fail _ _).trans (frz_cab σ _)
  | hit k m=>
   obtain ⟨t',d1,d2,d3,d4⟩:=symbol_hit ho e R.hand hg;have N:=d3.near;have F2:Tr.Fine t':=by have:=R.fine.symbol (rset σ.lb);rw [d1] at this;exact this
   unfold SimA;refine ⟨t',rel_rd R (by omega) d3 F2 d2 (by show 6<=19;omega) rfl rfl rfl rfl,?_,N.out,N.ats,d4,by rw [if_neg (by omega)];exact N.starts,N.s⟩;rw [hK2,d1,if_neg (by show ¬ (k:Int)<0;omega)];rfl
  | none=>
   have hone:ky9 σ.lb=true:=by
    rcases hB with h | h | h
    ·exact absurd e (zxu hr h _ _)
    ·exact h
    ·exact absurd h hz
   have hl1:=x8u hr hone;have hc9:=hc.2 e;have e2:=e;unfold jcs at e2;rw [hl1,scan] at e2;by_cases h0:σ.count=0
   ·rw [if_pos h0] at e2;cases e2
   ·rw [if_neg h0] at e2;obtain ⟨b1,b2,b3,b4⟩:=R.hand.bit hg (by omega);have hg2:t.bit.2.ended=false:=by rw [b3.ended];exact hg
    have es:t.symbol (rset σ.lb)=(-1,t.bit.2):=by
     unfold Tr.symbol Tr.sym;rw [if_neg (by rw [hg2];simp),b1];split at e2
     ·cases e2
     ·rename_i hf
      rw [if_neg hf,if_pos (show (rset σ.lb).one=true from hone)]
    unfold SimA;show Tr.obs (σ.K t)=_;rw [hK2,es,if_pos (by show (-1:Int)<0;omega)];refine (frz_cab σ _).keep (a:=t.bit.2.fail 11) ?_ (Or.inl (by decide));rw [b3.near.obs_fail hg];congr 1
    omega
theorem sim_19{σ:St}{t:Tr}(R:Rel σ t)(hst:σ.st=19)(hc:σ.count<8+σ.bits):Sim σ t:=by
 have hg:=R.going;unfold Sim;rw [act_at hst];simp only [actAt,need];have hK:σ.K t=σ.cab (Tr.copyF σ.left σ.least σ.bits t):=K_at hst t;by_cases h3:σ.count < σ.bits
 ·rw [if_pos h3];unfold SimA;intro hs;refine dry_sim (x:=(t.number σ.bits).2) ?_ (R.hand.starve hg hs σ.bits h3) (by omega);rw [hK];exact ((Tr.frz_ite_fail _ _ _).trans (Tr.frz_copyN _ _ _)).trans (frz_cab σ _)
 ·rw [if_neg h3];obtain ⟨n1,n2,n3,n4⟩:=R.hand.number hg σ.bits (by omega);have N:=n3.near;have e:Tr.copyF σ.left σ.least σ.bits t=Tr.copyN (σ.least+σ.num σ.bits) σ.left (if σ.om.length < σ.least+σ.num σ.bits then (t.number σ.bits).2.fail 11 else (t.number σ.bits).2):=by
   unfold Tr.copyF;rw [n1,N.out,N.frm,← om_len R (by omega)];rfl
  rw [e] at hK;by_cases hk:σ.om.length < σ.least+σ.num σ.bits
  ·rw [if_pos hk];rw [if_pos hk] at hK;unfold SimA;show Tr.obs (σ.K t)=_;rw [hK];refine ((Tr.frz_copyN _ _ _).trans (frz_cab σ _)).keep (a:=(t.number σ.bits).2.fail 11) ?_ (Or.inl (by decide));rw [N.obs_fail hg];congr 1
   omega
  ·rw [if_neg hk];rw [if_neg hk] at hK;unfold SimA;refine ⟨(t.number σ.bits).2,rel_rd R (by omega) n3 (R.fine.number _) n2 (by show 6<=20;omega) rfl rfl rfl rfl,?_,N.out,N.ats,n4,by rw [if_neg (by omega)];exact N.starts,N.s⟩;rw [hK];rfl
theorem sim_20{σ:St}{t:Tr}(R:Rel σ t)(hst:σ.st=20)(hc:σ.count<8)(hd:1<=σ.dist∧σ.dist<=σ.om.length):Sim σ t:=by
 have hg:=R.going;unfold Sim;rw [act_at hst];simp only [actAt];have hK:σ.K t=σ.cab (Tr.copyN σ.dist σ.left t):=K_at hst t;by_cases hl:σ.left=0
 ·rw [if_pos hl];unfold SimA;refine ⟨t,⟨hg,R.hand,R.lim,R.fine,fun _=>R.om (by omega),fun h=>by have:(16:Nat)<6:=h;omega,R.begun,R.bytes⟩,?_,rfl,rfl,rfl,by rw [if_neg (by omega)],rfl⟩;rw [hK,hl];rfl
 ·rw [if_neg hl];have hm:=om_len R (by omega);have hget:σ.om.getD (σ.om.length - σ.dist) 0=t.out.getD (t.out.length - σ.dist) 0:=by
   have:=R.fine.frm;rw [← R.om (by omega)];simp only [List.getD_eq_getElem?_getD,List.getElem?_drop,List.length_drop];congr 2
   omega
  have hb:σ.om.getD (σ.om.length - σ.dist) 0<256:=by rw [hget];exact Tr.getD_lt R.bytes _
  obtain ⟨n,hn⟩:∃ n,σ.left=n+1:=⟨σ.left - 1,by omega⟩
  unfold SimA;refine ⟨t.put (σ.om.getD (σ.om.length - σ.dist) 0),rel_put R (by omega) _ hb (by show 6<=σ.st;omega) rfl rfl rfl rfl rfl rfl,?_,?_,?_,?_,?_,?_⟩
  ·rw [hK,hn];have e:Tr.copyN σ.dist (n+1) t=Tr.copyN σ.dist n (t.put (t.out.getD (t.out.length - σ.dist) 0)):=by
    show (if t.ended then t else _)=_;rw [if_neg (by rw [hg];simp)]
   rw [e,← hget,K_at (n:=20) (by exact hst)];show σ.cab (Tr.copyN σ.dist (n+1 - 1) _)=_;rfl
  ·rw [Tr.put_going hg]
  ·rw [Tr.put_going hg,show σ.count / 8=0 by omega];rfl
  ·rw [Tr.put_going hg]
  ·rw [Tr.put_going hg]
  ·rw [Tr.put_going hg]
end St
theorem kvs(x:Int):∀ (hl:List Int) (i:Nat) (l:List Int),xhc (hl++[x]) i l=(xhc hl i l).set (Tr.order.getD (i+hl.length) 0) x
 | [],i,l=>rfl
 | y :: ys,i,l=>by
  show xhc (ys++[x]) (i+1) _=(xhc ys (i+1) _).set _ x;rw [kvs x ys (i+1),show i+1+ys.length=i+(y :: ys).length by simp;omega]
theorem ycx(hl:List Int)(x:Int):hset (hl++[x])=(hset hl).set (Tr.order.getD hl.length 0) x:=by
 have:=kvs x hl 0 (List.replicate 15 0);rw [Nat.zero_add] at this;exact this
namespace St
theorem fin_eq{σ σ':St}(h:σ'.fmt=σ.fmt)(hm:σ'.mem=σ.mem)(t:Tr):σ'.fin t=σ.fin t:=by unfold fin;rw [h,hm]
theorem after_eq{σ σ':St}(h:σ'.fmt=σ.fmt)(hm:σ'.mem=σ.mem)(hl:σ'.last=σ.last)(t:Tr):σ'.after t=σ.after t:=by unfold after;rw [hl,fin_eq h hm]
theorem cont_eq{σ σ':St}(h:σ'.fmt=σ.fmt)(hm:σ'.mem=σ.mem)(hl:σ'.last=σ.last)(x:RSet×RSet×Tr):σ'.cont x=σ.cont x:=by unfold cont;rw [after_eq h hm hl]
theorem K10{σ:St}(h:σ.st=10)(t:Tr):σ.K t=σ.cont (Tr.own1 σ.nl t):=K_at h t
theorem sim_9{σ:St}{t:Tr}(R:Rel σ t)(hst:σ.st=9)(hc:σ.count<12):Sim σ t:=by
 have hg:=R.going;unfold Sim;rw [act_at hst];simp only [actAt,need];have hK:σ.K t=σ.cont (Tr.own1 (257+(t.number 4).1) (if 12<(t.number 4).1 then (t.number 4).2.fail 10 else (t.number 4).2)):=K_at hst t;by_cases h3:σ.count<4
 ·rw [if_pos h3];unfold SimA;intro hs;refine dry_sim (x:=(t.number 4).2) ?_ (R.hand.starve hg hs 4 h3) (by omega);rw [hK];exact ((Tr.frz_ite_fail _ _ _).trans (Tr.frz_own1 _ _)).trans (frz_cont σ _)
 ·rw [if_neg h3];obtain ⟨n1,n2,n3,n4⟩:=R.hand.number hg 4 (by omega);have N:=n3.near;have e:σ.num 4=(t.number 4).1:=n1.symm;rw [e];have F2:=R.fine.number 4;generalize (t.number 4).2=x at *;generalize (t.number 4).1=v at *;by_cases hk:12<v
  ·rw [if_pos hk];rw [if_pos hk] at hK;unfold SimA;show Tr.obs (σ.K t)=_;rw [hK];refine ((Tr.frz_own1 _ _).trans (frz_cont σ _)).keep (a:=x.fail 10) ?_ (Or.inl (by decide));rw [N.obs_fail hg];congr 1
   omega
  ·rw [if_neg hk];rw [if_neg hk] at hK;unfold SimA;refine ⟨x,rel_rd R (by omega) n3 F2 n2 (by show 6<=10;omega) rfl rfl rfl rfl,?_,N.out,N.ats,n4,by rw [if_neg (by omega)];exact N.starts,N.s⟩;rw [hK,K10 rfl];exact cont_eq (σ:=σ) rfl rfl rfl _
theorem sim_10{σ:St}{t:Tr}(R:Rel σ t)(hst:σ.st=10):Sim σ t:=by
 have hg:=R.going;unfold Sim;rw [act_at hst];simp only [actAt,need];have hK:σ.K t=σ.cont (Tr.own2 σ.nl (1+(t.number 4).1) (t.number 4).2):=K_at hst t;by_cases h3:σ.count<4
 ·rw [if_pos h3];unfold SimA;intro hs;refine dry_sim (x:=(t.number 4).2) ?_ (R.hand.starve hg hs 4 h3) (by omega);rw [hK];exact (Tr.frz_own2 _ _ _).trans (frz_cont σ _)
 ·rw [if_neg h3];obtain ⟨n1,n2,n3,n4⟩:=R.hand.number hg 4 (by omega);have N:=n3.near;have e:σ.num 4=(t.number 4).1:=n1.symm;rw [e];have F2:=R.fine.number 4;generalize (t.number 4).2=x at *;generalize (t.number 4).1=v at *;unfold SimA;refine ⟨x,rel_rd R (by omega) n3 F2 n2 (by show 6<=11;omega) rfl rfl rfl rfl,?_,N.out,N.ats,n4,by rw [if_neg (by omega)];exact N.starts,N.s⟩;rw [hK];rfl
theorem sim_11{σ:St}{t:Tr}(R:Rel σ t)(hst:σ.st=11)(hc:σ.count<12)(hl:σ.hl=[]):Sim σ t:=by
 have hg:=R.going;unfold Sim;rw [act_at hst];simp only [actAt,need];have hK:σ.K t=σ.cont (Tr.own3 σ.nl σ.nd (4+(t.number 4).1) 0 (List.replicate 15 0) (if 11<(t.number 4).1 then (t.number 4).2.fail 10 else (t.number 4).2)):=K_at hst t;by_cases h3:σ.count<4
 ·rw [if_pos h3];unfold SimA;intro hs;refine dry_sim (x:=(t.number 4).2) ?_ (R.hand.starve hg hs 4 h3) (by omega);rw [hK];exact ((Tr.frz_ite_fail _ _ _).trans (Tr.frz_own3 _ _ _ _ _ _)).trans (frz_cont σ _)
 ·rw [if_neg h3];obtain ⟨n1,n2,n3,n4⟩:=R.hand.number hg 4 (by omega);have N:=n3.near;have e:σ.num 4=(t.number 4).1:=n1.symm;rw [e];have F2:=R.fine.number 4;generalize (t.number 4).2=x at *;generalize (t.number 4).1=v at *;by_cases hk:11<v
  ·rw [if_pos hk];rw [if_pos hk] at hK;unfold SimA;show Tr.obs (σ.K t)=_;rw [hK];refine ((Tr.frz_own3 _ _ _ _ _ _).trans (frz_cont σ _)).keep (a:=x.fail 10) ?_ (Or.inl (by decide));rw [N.obs_fail hg];congr 1
   omega
  ·rw [if_neg hk];rw [if_neg hk] at hK;unfold SimA;refine ⟨x,rel_rd R (by omega) n3 F2 n2 (by show 6<=12;omega) rfl rfl rfl rfl,?_,N.out,N.ats,n4,by rw [if_neg (by omega)];exact N.starts,N.s⟩;rw [hK];show σ.cont (Tr.own3 σ.nl σ.nd (4+v - σ.hl.length) σ.hl.length (hset σ.hl) _)=_;rw [hl];rfl
theorem sim_12{σ:St}{t:Tr}(R:Rel σ t)(hst:σ.st=12)(hc:σ.count<11∧(σ.hl.length=σ.told->σ.count<8))(hle:σ.hl.length<=σ.told)(hrow:σ.row=[]):Sim σ t:=by
 have hg:=R.going;unfold Sim;rw [act_at hst];simp only [actAt,need];have hK:σ.K t=σ.cont (Tr.own3 σ.nl σ.nd (σ.told - σ.hl.length) σ.hl.length (hset σ.hl) t):=K_at hst t;by_cases hl:σ.hl.length < σ.told
 ·rw [if_pos hl];obtain ⟨r,hr⟩:∃ r,σ.told - σ.hl.length=r+1:=⟨σ.told - σ.hl.length - 1,by omega⟩
  have e1:Tr.own3 σ.nl σ.nd (σ.told - σ.hl.length) σ.hl.length (hset σ.hl) t=Tr.own3 σ.nl σ.nd r (σ.hl.length+1) ((hset σ.hl).set (Tr.order.getD σ.hl.length 0) (t.number 3).1) (t.number 3).2:=by
   unfold Tr.own3;rw [hr];show Tr.helpEnd _ _ (if t.ended then _ else _)=_;rw [if_neg (by rw [hg];simp)]
  rw [e1] at hK;by_cases h3:σ.count<3
  ·rw [if_pos h3];unfold SimA;intro hs;refine dry_sim (x:=(t.number 3).2) ?_ (R.hand.starve hg hs 3 h3) (by omega);rw [hK];exact (Tr.frz_own3 _ _ _ _ _ _).trans (frz_cont σ _)
  ·rw [if_neg h3];obtain ⟨n1,n2,n3,n4⟩:=R.hand.number hg 3 (by omega);have N:=n3.near;have e:σ.num 3=(t.number 3).1:=n1.symm;rw [e];unfold SimA;refine ⟨(t.number 3).2,rel_rd R (by omega) n3 (R.fine.number _) n2 (by show 6<=σ.st;omega) rfl rfl rfl rfl,?_,N.out,N.ats,n4,by rw [if_neg (by omega)];exact N.starts,N.s⟩;rw [hK,K_at (n:=12) (by exact hst)];show σ.cont (Tr.own3 σ.nl σ.nd (σ.told - (σ.hl++[((t.number 3).1:Int)]).length) (σ.hl++[((t.number 3).1:Int)]).length (hset (σ.hl++[((t.number 3).1:Int)])) _)=_;rw [ycx,List.length_append,List.length_singleton,show σ.told - (σ.hl.length+1)=r by omega]
 ·rw [if_neg hl];have e0:σ.told - σ.hl.length=0:=by omega
  have e1:Tr.own3 σ.nl σ.nd (σ.told - σ.hl.length) σ.hl.length (hset σ.hl) t=Tr.helpEnd σ.nl σ.nd (hset σ.hl,t):=by
   unfold Tr.own3;rw [e0];rfl
  rw [e1] at hK;by_cases hk:jwa gw (hset σ.hl)=2048
  ·rw [if_pos hk];unfold SimA;refine ⟨t,⟨hg,R.hand,R.lim,R.fine,fun _=>R.om (by omega),fun h=>by have:(13:Nat)<6:=h;omega,R.begun,R.bytes⟩,?_,rfl,rfl,rfl,by rw [if_neg (by omega)],rfl⟩;rw [hK];unfold Tr.helpEnd;simp only [if_pos hk];rw [if_neg (by rw [hg];simp)];show σ.cont (Tr.rowEnd σ.nl (Tr.row (rset (hset σ.hl)) (σ.nl+σ.nd) σ.row t))=_;rw [hrow]
  ·rw [if_neg hk];unfold SimA;show Tr.obs (σ.K t)=_;rw [hK];refine (Tr.Frz.trans ?_ (frz_cont σ _)).keep (a:=t.fail 10) ?_ (Or.inl (by decide))
   ·unfold Tr.helpEnd;simp only [if_neg hk];rw [if_pos (Tr.ended_fail t (by decide))];exact Tr.Frz.refl _
   ·rw [Tr.obs_fail hg];congr 1
    have:=hc.2 (by omega);omega
theorem sim_13{σ:St}{t:Tr}(R:Rel σ t)(hst:σ.st=13)(hH:Full σ.hs)(hrow:σ.row.length < σ.nl+σ.nd):Sim σ t:=by
 have hg:=R.going;have ho:ky9 σ.hs=true->lng σ.hs 12<=1:=fun h=>by rw [hH.one] at h;cases h
 unfold Sim;rw [act_at hst];simp only [actAt,symbol];have hK:σ.K t=σ.cont (Tr.rowEnd σ.nl (Tr.row (rset σ.hs) (σ.nl+σ.nd) σ.row t)):=K_at hst t;rw [Tr.row_go hrow hg,Tr.rowStep_eq] at hK;cases e:jcs σ.hs σ.held σ.count with
 | none=>exact absurd e (zxu hH.range hH.whole _ _)
 | more=>
  unfold SimA;intro hs;obtain ⟨d1,d2⟩:=symbol_dry ho e R.hand hg hs;refine dry_sim (x:=(t.symbol (rset σ.hs)).2) ?_ d2 (by omega);rw [hK];exact ((((Tr.frz_helped _ _ _).trans (Tr.frz_rowT _ _ _)).trans (Tr.frz_row _ _ _ _)).trans (Tr.frz_rowEnd _ _)).trans (frz_cont σ _)
 | hit k m=>
  obtain ⟨t',d1,d2,d3,d4⟩:=symbol_hit ho e R.hand hg;have N:=d3.near;have F2:Tr.Fine t':=by have:=R.fine.symbol (rset σ.hs);rw [d1] at this;exact this
  unfold SimA;refine ⟨t',rel_rd R (by omega) d3 F2 d2 (by show 6<=14;omega) rfl rfl rfl rfl,?_,N.out,N.ats,d4,by rw [if_neg (by omega)];exact N.starts,N.s⟩;rw [hK,d1];rfl
theorem helped_eq{t:Tr}{k:Nat}{l:List Int}(hk:k<15):Tr.helped t k l=(if k=12∧l.length=0 then 0 else hval k l,hleast k+(t.number (hbits k)).1,if k=12∧l.length=0 then (t.number (hbits k)).2.fail 10 else (t.number (hbits k)).2):=by
 have hn:t.number 0=(0,t):=rfl;have:k=12∨k=13∨k=14∨k<12:=by omega
 rcases this with h | h | h | h
 ·subst h;unfold Tr.helped hval hleast hbits;by_cases hl:l.length=0
  ·simp [hl]
  ·simp [hl]
 ·subst h;rfl
 ·subst h;rfl
 ·unfold Tr.helped hval hleast hbits;have i1:¬ (k:Int)=12:=by omega
  have i2:¬ (k:Int)=13:=by omega
  have i3:¬ (k:Int)=14:=by omega
  have j1:¬ k=12:=by omega
  have j2:¬ k=13:=by omega
  have j3:¬ k=14:=by omega
  simp only [if_neg i1,if_neg i2,if_neg i3,if_neg j1,if_neg j2,if_neg j3,hn];simp [j1]
theorem sim_14{σ:St}{t:Tr}(R:Rel σ t)(hst:σ.st=14)(hc:σ.count<8+hbits σ.hk)(hk:σ.hk<15):Sim σ t:=by
 have hg:=R.going;unfold Sim;rw [act_at hst];simp only [actAt,need];have hK:σ.K t=σ.cont (Tr.rowEnd σ.nl (Tr.rowHelp (rset σ.hs) (σ.nl+σ.nd) σ.hk σ.row t)):=K_at hst t;have eh:=helped_eq (t:=t) (l:=σ.row) hk;have hz0:Tr.Frz (Tr.helped t σ.hk σ.row).2.2 (σ.K t):=by
  rw [hK];exact (((Tr.frz_rowT _ _ _).trans (Tr.frz_row _ _ _ _)).trans (Tr.frz_rowEnd _ _)).trans (frz_cont σ _)
 by_cases h3:σ.count<hbits σ.hk
 ·rw [if_pos h3];unfold SimA;intro hs;refine dry_sim (x:=(t.number (hbits σ.hk)).2) (Tr.Frz.trans ?_ hz0) (R.hand.starve hg hs _ h3) (by omega);rw [eh];exact Tr.Frz.ite (Tr.frz_fail _ _) (Tr.Frz.refl _)
 ·rw [if_neg h3];obtain ⟨n1,n2,n3,n4⟩:=R.hand.number hg (hbits σ.hk) (by omega);have N:=n3.near;have hg2:(t.number (hbits σ.hk)).2.ended=false:=by rw [N.ended];exact hg
  have F2:=R.fine.number (hbits σ.hk);have e:σ.num (hbits σ.hk)=(t.number (hbits σ.hk)).1:=n1.symm;unfold rowNumber;simp only;rw [e];generalize (t.number (hbits σ.hk)).2=x at *;generalize (t.number (hbits σ.hk)).1=v at *;have hfail:∀ o,o=x.inn->Tr.Ob.mk t.out t.ats o t.starts 10 false=⟨t.out,t.ats,t.inn+σ.count / 8,t.starts,10,false⟩:=by
   intro o ho;congr 1
   omega
  by_cases h12:σ.hk=12∧σ.row.length=0
  ·rw [if_pos h12];unfold SimA;show Tr.obs (σ.K t)=_;refine hz0.keep ?_ (Or.inl (by decide));rw [eh];simp only [if_pos h12];rw [N.obs_fail hg];exact hfail _ rfl
  ·rw [if_neg h12];simp only [if_neg h12] at eh;have eT:Tr.rowT (σ.nl+σ.nd) σ.row.length (Tr.helped t σ.hk σ.row)=if σ.nl+σ.nd < σ.row.length+(hleast σ.hk+v) then x.fail 10 else x:=by
    rw [eh];rfl
   by_cases hlong:σ.nl+σ.nd < σ.row.length+(hleast σ.hk+v)
   ·rw [if_pos hlong];rw [if_pos hlong] at eT;unfold SimA;show Tr.obs (σ.K t)=_;have hz1:Tr.Frz (x.fail 10) (σ.K t):=by
     rw [← eT,hK];exact ((Tr.frz_row _ _ _ _).trans (Tr.frz_rowEnd _ _)).trans (frz_cont σ _)
    refine hz1.keep ?_ (Or.inl (by decide));rw [N.obs_fail hg];exact hfail _ rfl
   ·rw [if_neg hlong];rw [if_neg hlong] at eT;have eR:Tr.rowHelp (rset σ.hs) (σ.nl+σ.nd) σ.hk σ.row t=Tr.row (rset σ.hs) (σ.nl+σ.nd) (σ.row++List.replicate (hleast σ.hk+v) (hval σ.hk σ.row)) x:=by
     unfold Tr.rowHelp;rw [eT,if_neg (by rw [hg2];simp),eh]
    rw [eR] at hK;generalize hrow:σ.row++List.replicate (hleast σ.hk+v) (hval σ.hk σ.row)=row' at *;by_cases hw:row'.length=σ.nl+σ.nd
    ·rw [if_pos hw];rw [Tr.row_stop (by omega)] at hK;unfold Tr.rowEnd at hK;simp only at hK;rw [if_neg (by rw [hg2];simp)] at hK;unfold endRow;show SimA (if jcj (row'.take σ.nl) (row'.drop σ.nl) then _ else _) σ t;by_cases hb:jcj (row'.take σ.nl) (row'.drop σ.nl)
     ·rw [if_pos hb];rw [if_pos hb] at hK;unfold SimA;show Tr.obs (σ.K t)=_;rw [hK];refine (frz_cont σ _).keep ?_ (Or.inl (by decide));show Tr.obs (x.fail 10)=_;rw [N.obs_fail hg];exact hfail _ rfl
     ·rw [if_neg hb];rw [if_neg hb] at hK;unfold SimA;refine ⟨x,rel_rd R (by omega) n3 F2 n2 (by show 6<=16;omega) rfl rfl rfl rfl,?_,N.out,N.ats,n4,by rw [if_neg (by omega)];exact N.starts,N.s⟩;rw [hK];rfl
    ·rw [if_neg hw];unfold SimA;refine ⟨x,rel_rd R (by omega) n3 F2 n2 (by show 6<=13;omega) rfl rfl rfl rfl,?_,N.out,N.ats,n4,by rw [if_neg (by omega)];exact N.starts,N.s⟩;rw [hK];rfl
end St
namespace St
theorem cases24{n:Nat}(h:n<24):n=0∨n=1∨n=2∨n=3∨n=4∨n=5∨n=6∨n=7∨n=8∨n=9∨n=10∨n=11∨n=12∨n=13∨n=14∨n=15∨n=16∨n=17∨n=18∨n=19∨n=20∨n=21∨n=22∨n=23:=by omega
theorem sim{σ:St}{t:Tr}(W:Wf σ)(R:Rel σ t):Sim σ t:=by
 have few:=W.few;have at_:=W.at_;rcases cases24 W.st with h | h | h | h | h | h | h | h | h | h | h | h | h | h | h | h | h | h | h | h | h | h | h | h <;> rw [h] at few at_
 ·exact sim_0 R h few
 ·exact sim_1 R h few
 ·exact sim_2 R h few W.marks.2
 ·exact sim_3 R h few
 ·exact sim_4 R h few
 ·exact sim_5 R h few at_
 ·exact sim_6 R h few
 ·exact sim_7 R h few
 ·exact sim_8 R h few
 ·exact sim_9 R h few
 ·exact sim_10 R h
 ·exact sim_11 R h few (W.own (by omega)).1
 ·exact sim_12 R h few at_.2.2.2.1 at_.2.2.2.2.2
 ·exact sim_13 R h ⟨at_.2.2.1.1,at_.2.2.1.2.1⟩ at_.2.2.2.2
 ·exact sim_14 R h few at_.2
 ·exact sim_15 R h few at_.2
 ·exact sim_16 R h few ⟨at_.ra,at_.wa⟩ at_.na.2
 ·exact sim_17 R h
 ·exact sim_18 R h few at_.1.rb at_.1.wb
 ·exact sim_19 R h few
 ·exact sim_20 R h few ⟨at_.2.1,at_.2.2.1⟩
 ·exact sim_21 R h W.fmt few
 ·exact sim_22 R h few
 ·exact sim_23 R h few
def loc(n:Nat)(σ:St):Nat:=
 match n with
 | 0=>11
 | 1=>10
 | 2=>9
 | 3=>8
 | 4=>7
 | 5=>6
 | 6=>5
 | 7=>21
 | 8=>20
 | 9=>4
 | 10=>3
 | 11=>2
 | 12=>30
 | 13=>29
 | 14=>31
 | 15=>17
 | 16=>16
 | 17=>86
 | 18=>85
 | 19=>84
 | 20=>17+σ.left
 | 21=>14
 | 22=>13
 | _=>12
def phi(σ:St):Nat:=100*σ.count+loc σ.st σ
theorem loc_lt{σ:St}(W:Wf σ):loc σ.st σ<100:=by
 have at_:=W.at_;by_cases h:σ.st=20
 ·rw [h] at at_ ⊢;have:(Sets σ∧σ.left<=66)∧_:=at_;show 17+σ.left<100;omega
 ·unfold loc;split <;> omega
def NextA(A:Act)(σ:St):Prop:=
 match A with
 | .take=>∀ b,b<256->Wf (σ.add b)
 | .put b σ'=>Wf σ'∧b<256∧phi σ'<phi σ∧σ'.fmt=σ.fmt∧σ'.mem=σ.mem∧σ'.lim=σ.lim
 | .tau σ'=>Wf σ'∧phi σ'<phi σ∧σ'.fmt=σ.fmt∧σ'.mem=σ.mem∧σ'.lim=σ.lim∧(σ'.st=23->σ'.count=0)
 | .fail e=>4<=e∧e<=14
theorem held_rd{σ:St}(W:Wf σ){k:Nat}(hk:k<=σ.count):σ.held / 2^k<2^(σ.count - k):=by
 have h:=W.held;rw [show σ.count=k+(σ.count - k) by omega,Nat.pow_add] at h;exact Nat.div_lt_of_lt_mul h
theorem held_add{σ:St}(W:Wf σ){b:Nat}(hb:b<256):(σ.add b).held<2^(σ.add b).count:=by
 have h:=W.held;show σ.held+2^σ.count*b<2^(σ.count+8);rw [Nat.pow_add];have:2^σ.count*(b+1)<=2^σ.count*2^8:=Nat.mul_le_mul_left _ (by omega);rw [Nat.mul_add] at this;omega
theorem Wf.take{σ:St}(W:Wf σ){b:Nat}(hb:b<256)(hf:Few σ.st (σ.add b))(ha:At σ.st (σ.add b)):Wf (σ.add b):=⟨W.fmt,W.st,W.raw,held_add W hb,hf,ha,W.own,W.om,W.marks,W.hsum⟩
end St
end Go.Proofs.YtbcjmakpempkiaaGreatDoor
