import Derived.Test.YtbcjmakpempkiaaGreatDoorX12
set_option maxRecDepth 100000
set_option maxHeartbeats 8000000
set_option linter.all false
namespace Go.Proofs.YtbcjmakpempkiaaGreatDoor
namespace Tr
def plainRest(t:Tr):Nat×Tr:=
 let a:=t.octet
 let b:=a.2.octet
 let c:=b.2.octet
 let d:=c.2.octet
 (a.1+256*b.1,if c.1+256*d.1=65535 - (a.1+256*b.1) then d.2 else d.2.fail 9)
theorem frz_plainRest(t:Tr):Frz t t.plainRest.2:=
 ((((frz_octet t).trans (frz_octet _)).trans (frz_octet _)).trans (frz_octet _)).trans (by unfold plainRest;exact frz_ite_fail' _ _ _)
def rowEnd(nl:Nat)(r:List Int×Tr):RSet×RSet×Tr:=
 if r.2.ended then (yk3,yk3,r.2)
 else (rset (r.1.take nl),rset (r.1.drop nl),if jcj (r.1.take nl) (r.1.drop nl) then r.2.fail 10 else r.2)
theorem frz_rowEnd(nl:Nat)(r:List Int×Tr):Frz r.2 (rowEnd nl r).2.2:=by
 unfold rowEnd;split
 ·exact Frz.refl _
 ·exact frz_ite_fail _ _ _
def helpEnd(nl nd:Nat)(h:List Int×Tr):RSet×RSet×Tr:=
 if (if jwa gw h.1=2048 then h.2 else h.2.fail 10).ended then (yk3,yk3,if jwa gw h.1=2048 then h.2 else h.2.fail 10)
 else rowEnd nl (row (rset h.1) (nl+nd) [] (if jwa gw h.1=2048 then h.2 else h.2.fail 10))
theorem frz_helpEnd(nl nd:Nat)(h:List Int×Tr):Frz h.2 (helpEnd nl nd h).2.2:=by
 unfold helpEnd;have hz:=frz_ite_fail' (jwa gw h.1=2048) h.2 10;generalize (if jwa gw h.1=2048 then h.2 else h.2.fail 10)=x at *;by_cases hx:x.ended=true
 ·rw [if_pos hx];exact hz
 ·rw [if_neg hx];exact hz.trans ((frz_row _ _ _ _).trans (frz_rowEnd _ _))
theorem frz_helps(r i:Nat)(L:List Int)(t:Tr):Frz t (helps r i L t).2:=fun h=>by
 cases r with
 | zero=>rfl
 | succ r=>unfold Tr.helps;rw [if_pos h]
def own3(nl nd r i:Nat)(L:List Int)(t:Tr):RSet×RSet×Tr:=helpEnd nl nd (helps r i L t)
theorem frz_own3(nl nd r i:Nat)(L:List Int)(t:Tr):Frz t (own3 nl nd r i L t).2.2:=by
 unfold own3;exact (frz_helps r i L t).trans (frz_helpEnd _ _ _)
def own2(nl nd:Nat)(t:Tr):RSet×RSet×Tr:=
 own3 nl nd (4+(t.number 4).1) 0 (List.replicate 15 0) (if 11<(t.number 4).1 then (t.number 4).2.fail 10 else (t.number 4).2)
theorem frz_own2(nl nd:Nat)(t:Tr):Frz t (own2 nl nd t).2.2:=by
 unfold own2;have h1:=frz_number t 4;generalize t.number 4=c at *;have h2:=frz_ite_fail (11<c.1) c.2 10;generalize (if 11<c.1 then c.2.fail 10 else c.2)=x at *;exact h1.trans (h2.trans (frz_own3 _ _ _ _ _ _))
def own1(nl:Nat)(t:Tr):RSet×RSet×Tr:=own2 nl (1+(t.number 4).1) (t.number 4).2
theorem frz_own1(nl:Nat)(t:Tr):Frz t (own1 nl t).2.2:=by
 unfold own1;exact (frz_number t 4).trans (frz_own2 _ _ _)
def own0(t:Tr):RSet×RSet×Tr:=own1 (257+(t.number 4).1) (if 12<(t.number 4).1 then (t.number 4).2.fail 10 else (t.number 4).2)
theorem own_own0(t:Tr):t.own=own0 t:=by
 unfold own own0 own1 own2 own3 helpEnd rowEnd ownRow ownHelp ownHead;simp only;simp only [Nat.add_assoc,Nat.add_comm 1];congr
def rowHelp(H:RSet)(n k:Nat)(l:List Int)(t:Tr):List Int×Tr:=
 row H n (if (rowT n l.length (helped t k l)).ended then l else l++List.replicate (helped t k l).2.1 (helped t k l).1) (rowT n l.length (helped t k l))
def copyF(n least bits:Nat)(t:Tr):Tr:=
 copyN (least+(t.number bits).1) n (if (t.number bits).2.out.length - (t.number bits).2.frm<least+(t.number bits).1 then (t.number bits).2.fail 11 else (t.number bits).2)
def copyD(b:RSet)(n:Nat)(t:Tr):Tr:=
 if ((if b.many=0 then t.fail 11 else t).symbol b).1<0 then ((if b.many=0 then t.fail 11 else t).symbol b).2.fail 11
 else copyF n (spanLeast 1 ((if b.many=0 then t.fail 11 else t).symbol b).1.toNat) (spanBits ((if b.many=0 then t.fail 11 else t).symbol b).1.toNat) ((if b.many=0 then t.fail 11 else t).symbol b).2
def copyL(b:RSet)(least bits:Nat)(t:Tr):Tr:=copyD b (least+(t.number bits).1) (t.number bits).2
theorem copies_copyL(t:Tr)(b:RSet)(k:Nat):t.copies b k=copyL b (spanLeast 3 k) (spanBits k) t:=rfl
theorem frz_copyF(n least bits:Nat)(t:Tr):Frz t (copyF n least bits t):=by
 unfold copyF;exact (frz_number t bits).trans ((frz_ite_fail _ _ _).trans (frz_copyN _ _ _))
theorem frz_copyD(b:RSet)(n:Nat)(t:Tr):Frz t (copyD b n t):=by
 refine (frz_ite_fail (b.many=0) t 11).trans ((frz_symbol _ b).trans ?_);unfold copyD;generalize (if b.many=0 then t.fail 11 else t)=x;split
 ·exact frz_fail _ _
 ·exact frz_copyF _ _ _ _
theorem frz_helped(t:Tr)(k:Int)(l:List Int):Frz t (helped t k l).2.2:=by
 unfold helped;split
 ·split
  ·exact (frz_number t 2).trans (frz_fail _ _)
  ·exact frz_number t 2
 ·split
  ·exact frz_number t 3
  ·split
   ·exact frz_number t 6
   ·exact Frz.refl t
theorem frz_rowT(n len:Nat)(h:Int×Nat×Tr):Frz h.2.2 (rowT n len h):=by unfold rowT;exact frz_ite_fail _ _ _
theorem Frz.ite{c:Prop}[Decidable c]{t a b:Tr}(ha:Frz t a)(hb:Frz t b):Frz t (if c then a else b):=by
 split
 ·exact ha
 ·exact hb
theorem frz_marked(t:Tr)(m:Nat):Frz t (t.marked m):=by
 unfold marked;dsimp only
 exact (frz_ite_fail (7<m) t 4).trans ((Frz.ite (c:=m%2=1) (frz_text _) (Frz.refl _)).trans ((Frz.ite (c:=m / 2%2=1) (frz_text _) (Frz.refl _)).trans (Frz.ite (c:=m / 4=1) (frz_isB _ _) (Frz.refl _))))
theorem Frz.obs_eq{a b:Tr}{o:Ob}(h:Frz a b)(ho:obs a=o)(he:a.ended=true):obs b=o:=(h he).trans ho
end Tr
namespace St
def fin(σ:St)(t:Tr):Tr:=if σ.fmt=0 then t.trail else if σ.fmt=1 then t.sum.trail else Tr.long σ.mem t.sum.sized
def after(σ:St)(t:Tr):Tr:=σ.fin (if σ.last then (if t.ended then t else t.skip) else Tr.blocksFrom t)
def cont(σ:St)(x:RSet×RSet×Tr):Tr:=σ.after (Tr.content x.1 x.2.1 x.2.2)
def cab(σ:St)(t:Tr):Tr:=σ.cont (rset σ.la,rset σ.lb,t)
def k6(σ:St)(t:Tr):Tr:=σ.fin t.blocks
def k5(σ:St)(t:Tr):Tr:=σ.k6 (if σ.marks / 4=1 then t.isB t.head else t)
def k4(σ:St)(t:Tr):Tr:=σ.k5 (if σ.marks / 2%2=1 then t.text else t)
def k3(σ:St)(t:Tr):Tr:=σ.k4 (if σ.marks%2=1 then t.text else t)
def k2(σ:St)(t:Tr):Tr:=if σ.fmt=2 then σ.k6 (t.crown.2.marked t.crown.1) else σ.k6 t
def Kat(n:Nat)(σ:St)(t:Tr):Tr:=
 match n with
 | 0=>σ.k2 ((t.isB (if σ.fmt=1 then 115 else 76)).isB (if σ.fmt=1 then 1 else 2))
 | 1=>σ.k2 (t.isB (if σ.fmt=1 then 1 else 2))
 | 2=>σ.k2 t
 | 3=>σ.k3 t
 | 4=>σ.k4 t
 | 5=>σ.k5 t
 | 6=>σ.fin (Tr.blocksFrom t)
 | 7=>σ.after (Tr.bytes t.plainRest.1 t.plainRest.2)
 | 8=>σ.after (Tr.bytes σ.left t)
 | 9=>σ.cont (Tr.own0 t)
 | 10=>σ.cont (Tr.own1 σ.nl t)
 | 11=>σ.cont (Tr.own2 σ.nl σ.nd t)
 | 12=>σ.cont (Tr.own3 σ.nl σ.nd (σ.told - σ.hl.length) σ.hl.length (hset σ.hl) t)
 | 13=>σ.cont (Tr.rowEnd σ.nl (Tr.row (rset σ.hs) (σ.nl+σ.nd) σ.row t))
 | 14=>σ.cont (Tr.rowEnd σ.nl (Tr.rowHelp (rset σ.hs) (σ.nl+σ.nd) σ.hk σ.row t))
 | 15=>σ.cab (t.put σ.lit)
 | 16=>σ.cab t
 | 17=>σ.cab (Tr.copyL (rset σ.lb) σ.least σ.bits t)
 | 18=>σ.cab (Tr.copyD (rset σ.lb) σ.left t)
 | 19=>σ.cab (Tr.copyF σ.left σ.least σ.bits t)
 | 20=>σ.cab (Tr.copyN σ.dist σ.left t)
 | 21=>σ.fin t
 | 22=>if σ.fmt=2 then Tr.long σ.mem t.sized else t.trail
 | _=>if σ.fmt=2 then Tr.long σ.mem t else t.trail
def K(σ:St)(t:Tr):Tr:=Kat σ.st σ t
theorem frz_fin(σ:St)(t:Tr):Tr.Frz t (σ.fin t):=by
 unfold fin;split
 ·exact Tr.frz_trail t
 ·split
  ·exact (Tr.frz_sum t).trans (Tr.frz_trail _)
  ·exact ((Tr.frz_sum t).trans (Tr.frz_sized _)).trans (Tr.frz_long _ _)
theorem frz_after(σ:St)(t:Tr):Tr.Frz t (σ.after t):=by
 unfold after;exact (Tr.Frz.ite (c:=σ.last=true) (Tr.Frz.ite (c:=t.ended=true) (Tr.Frz.refl t) (Tr.frz_skip t)) (Tr.frz_blocksFrom t)).trans (frz_fin σ _)
theorem frz_cont(σ:St)(x:RSet×RSet×Tr):Tr.Frz x.2.2 (σ.cont x):=(Tr.frz_content _ _ _).trans (frz_after σ _)
theorem frz_cab(σ:St)(t:Tr):Tr.Frz t (σ.cab t):=frz_cont σ (rset σ.la,rset σ.lb,t)
theorem frz_k6(σ:St)(t:Tr):Tr.Frz t (σ.k6 t):=(Tr.frz_blocks t).trans (frz_fin σ _)
theorem frz_k5(σ:St)(t:Tr):Tr.Frz t (σ.k5 t):=(Tr.Frz.ite (c:=σ.marks / 4=1) (Tr.frz_isB t _) (Tr.Frz.refl t)).trans (frz_k6 σ _)
theorem frz_k4(σ:St)(t:Tr):Tr.Frz t (σ.k4 t):=(Tr.Frz.ite (c:=σ.marks / 2%2=1) (Tr.frz_text t) (Tr.Frz.refl t)).trans (frz_k5 σ _)
theorem frz_k2(σ:St)(t:Tr):Tr.Frz t (σ.k2 t):=by
 unfold k2;split
 ·exact ((Tr.frz_crown t).trans (Tr.frz_marked _ _)).trans (frz_k6 σ _)
 ·exact frz_k6 σ t
structure Rel(σ:St)(t:Tr):Prop where
 going:t.ended=false
 hand:Tr.Hand t σ.held σ.count
 lim:t.limit=σ.lim
 fine:Tr.Fine t
 om:6<=σ.st->t.out.drop t.frm=σ.om
 head:σ.st<6->t.head=σ.hsum∧t.many=σ.hmany
 begun:σ.fmt=2->t.starts.length=σ.begun
 bytes:xeo t
def SimA(A:Act)(σ:St)(t:Tr):Prop:=
 match A with
 | .take=>t.inn+σ.count / 8=t.s.size->Tr.obs (σ.K t)=⟨t.out,t.ats,t.s.size,t.starts,0,decide (σ.st<23)⟩
 | .put b σ'=>∃ t',Rel σ' t'∧σ'.K t'=σ.K t∧t'.out=t.out++[b]∧t'.ats=t.ats++[t.inn+σ.count / 8]∧t'.inn+σ'.count / 8=t.inn+σ.count / 8∧t'.starts=t.starts∧t'.s=t.s
 | .tau σ'=>∃ t',Rel σ' t'∧σ'.K t'=σ.K t∧t'.out=t.out∧t'.ats=t.ats∧t'.inn+σ'.count / 8=t.inn+σ.count / 8∧t'.starts=(if σ.st=23 then t.starts++[t.inn] else t.starts)∧t'.s=t.s
 | .fail e=>Tr.obs (σ.K t)=⟨t.out,t.ats,t.inn+σ.count / 8,t.starts,e,false⟩
def Sim(σ:St)(t:Tr):Prop:=SimA σ.act σ t
end St
namespace Tr
structure Near(t t':Tr):Prop where
 out:t'.out=t.out
 ats:t'.ats=t.ats
 starts:t'.starts=t.starts
 s:t'.s=t.s
 frm:t'.frm=t.frm
 limit:t'.limit=t.limit
 ended:t'.ended=t.ended
theorem Near.refl(t:Tr):Near t t:=⟨rfl,rfl,rfl,rfl,rfl,rfl,rfl⟩
theorem Rd.near{a b:Tr}(h:Rd a b):Near a b:=by
 unfold Rd at h;rw [h];exact ⟨rfl,rfl,rfl,rfl,rfl,rfl,rfl⟩
theorem Rd.head{a b:Tr}(h:Rd a b):b.head=a.head∧b.many=a.many:=by
 unfold Rd at h;rw [h];exact ⟨rfl,rfl⟩
theorem obs_fail{t:Tr}(h:t.ended=false)(e:Nat):obs (t.fail e)=⟨t.out,t.ats,t.inn,t.starts,e,false⟩:=by
 rw [fail_going h];have:=((ended_iff t).1 h).2;unfold obs;simp only;rw [this]
theorem Near.obs_fail{a b:Tr}(h:Near a b)(hg:a.ended=false)(e:Nat):obs (b.fail e)=⟨a.out,a.ats,b.inn,a.starts,e,false⟩:=by
 rw [Tr.obs_fail (by rw [h.ended];exact hg),h.out,h.ats,h.starts]
theorem obs_end{t:Tr}{o a:List Nat}{i:Nat}{s:List Nat}{e:Nat}{n:Bool}(h:obs t=⟨o,a,i,s,e,n⟩)(he:e≠0∨n=true):t.ended=true:=by
 unfold obs at h;injection h with h1 h2 h3 h4 h5 h6
 unfold Tr.ended;rw [h5,h6];rcases he with he | he
 ·simp [he]
 ·simp [he]
theorem Frz.keep{a b:Tr}{o t:List Nat}{i:Nat}{s:List Nat}{e:Nat}{n:Bool}(h:Frz a b)(ho:obs a=⟨o,t,i,s,e,n⟩)(he:e≠0∨n=true):obs b=⟨o,t,i,s,e,n⟩:=(h (obs_end ho he)).trans ho
end Tr
namespace St
theorem Rel.near{σ σ':St}{t t':Tr}(R:Rel σ t)(N:Tr.Near t t')(F:Tr.Fine t')(H:Tr.Hand t' σ'.held σ'.count)(hl:σ'.lim=σ.lim)(ho:6<=σ'.st->t.out.drop t.frm=σ'.om)(hh:σ'.st<6->t'.head=σ'.hsum∧t'.many=σ'.hmany)(hb:σ'.fmt=2->t.starts.length=σ'.begun):Rel σ' t':=⟨N.ended.trans R.going,H,N.limit.trans (R.lim.trans hl.symm),F,fun h=>by rw [N.out,N.frm];exact ho h,hh,fun h=>by rw [N.starts];exact hb h,by unfold xeo;rw [N.out];exact R.bytes⟩
structure Crowned(σ:St)(t x:Tr):Prop where
 near:Tr.Near t x
 fine:Tr.Fine x
 hand:Tr.Hand x σ.crown.held σ.crown.count
 head:x.head=σ.crown.hsum∧x.many=σ.crown.hmany
 inn:x.inn+σ.crown.count / 8=t.inn+σ.count / 8
theorem crown_dry{σ:St}{t:Tr}(R:Rel σ t)(hc:σ.count=0)(hs:t.inn=t.s.size):Tr.obs t.crown.2=t.dry∧t.crown.1=0:=by
 have H:=R.hand;rw [hc] at H;have h1:=H.octet_dry R.going hs;exact ⟨(Tr.frz_crowned _ _).obs_eq h1 (Tr.dry_ended h1),by show t.octet.1=0;rw [Tr.octet_none R.going (by omega)]⟩
theorem crown_long{σ:St}{t:Tr}(R:Rel σ t)(hst:σ.st<6)(hc:σ.count=8)(hl:σ.lim<=σ.hmany):Tr.obs t.crown.2=⟨t.out,t.ats,t.inn+σ.count / 8,t.starts,5,false⟩:=by
 obtain ⟨h1,h2,h3,h4⟩:=R.hand.octet R.going (by omega) (by omega);have N:=h3.near;show Tr.obs (t.octet.2.crowned t.octet.1)=_;have e:Tr.obs (t.octet.2.crowned t.octet.1)=Tr.obs (if t.octet.2.limit<=t.octet.2.many then t.octet.2.fail 5 else t.octet.2):=rfl;rw [e,if_pos (by rw [N.limit,h3.head.2,R.lim,(R.head hst).2];exact hl),N.obs_fail R.going,← h4,hc];rfl
theorem crown_ok{σ:St}{t:Tr}(R:Rel σ t)(hst:σ.st<6)(hc:σ.count=8)(hl:¬ σ.lim<=σ.hmany):t.crown.1=σ.num 8∧Crowned σ t t.crown.2:=by
 obtain ⟨h1,h2,h3,h4⟩:=R.hand.octet R.going (by omega) (by omega);have N:=h3.near;refine ⟨h1,?_⟩;have e:t.crown.2={ t.octet.2 with many:=t.octet.2.many+1,head:=(t.octet.2.head+t.octet.1)%256 }:=by
  show t.octet.2.crowned t.octet.1=_;unfold Tr.crowned;rw [if_neg (by rw [N.limit,h3.head.2,R.lim,(R.head hst).2];exact hl)]
 rw [e];refine ⟨⟨N.out,N.ats,N.starts,N.s,N.frm,N.limit,N.ended⟩,?_,?_,?_,h4⟩
 ·have f:=R.fine.octet;exact ⟨f.left,f.cur,f.inn,f.frm,f.ats,f.err⟩
 ·exact ⟨h2.left,h2.cur,h2.inn,h2.val⟩
 ·refine ⟨?_,?_⟩
  ·show (t.octet.2.head+t.octet.1)%256=_;rw [h3.head.1,(R.head hst).1,h1];rfl
  ·show t.octet.2.many+1=_;rw [h3.head.2,(R.head hst).2];rfl
theorem isB_dry{σ:St}{t:Tr}(R:Rel σ t)(hc:σ.count=0)(hs:t.inn=t.s.size)(w:Nat):Tr.obs (t.isB w)=t.dry:=by
 have h1:=(crown_dry R hc hs).1;unfold Tr.isB;split
 ·exact h1
 ·exact (Tr.frz_fail _ _).obs_eq h1 (Tr.dry_ended h1)
theorem isB_long{σ:St}{t:Tr}(R:Rel σ t)(hst:σ.st<6)(hc:σ.count=8)(hl:σ.lim<=σ.hmany)(w:Nat):Tr.obs (t.isB w)=⟨t.out,t.ats,t.inn+σ.count / 8,t.starts,5,false⟩:=by
 have h1:=crown_long R hst hc hl;unfold Tr.isB;split
 ·exact h1
 ·exact (Tr.frz_fail _ _).keep h1 (Or.inl (by decide))
theorem isB_no{σ:St}{t:Tr}(R:Rel σ t)(hst:σ.st<6)(hc:σ.count=8)(hl:¬ σ.lim<=σ.hmany){w:Nat}(hw:σ.num 8≠w):Tr.obs (t.isB w)=⟨t.out,t.ats,t.inn+σ.count / 8,t.starts,4,false⟩:=by
 obtain ⟨h1,h2⟩:=crown_ok R hst hc hl;unfold Tr.isB;rw [if_neg (by rw [h1];exact hw),h2.near.obs_fail R.going,← h2.inn];have:σ.crown.count=σ.count - 8:=rfl;rw [this,hc];rfl
theorem isB_ok{σ:St}{t:Tr}(R:Rel σ t)(hst:σ.st<6)(hc:σ.count=8)(hl:¬ σ.lim<=σ.hmany){w:Nat}(hw:σ.num 8=w):Crowned σ t (t.isB w):=by
 obtain ⟨h1,h2⟩:=crown_ok R hst hc hl;unfold Tr.isB;rw [if_pos (by rw [h1];exact hw)];exact h2
theorem text_dry{σ:St}{t:Tr}(R:Rel σ t)(hc:σ.count=0)(hs:t.inn=t.s.size):Tr.obs t.text=t.dry:=by
 obtain ⟨h1,h2⟩:=crown_dry R hc hs;rw [Tr.text_stop R.going h2];exact h1
theorem text_long{σ:St}{t:Tr}(R:Rel σ t)(hst:σ.st<6)(hc:σ.count=8)(hl:σ.lim<=σ.hmany):Tr.obs t.text=⟨t.out,t.ats,t.inn+σ.count / 8,t.starts,5,false⟩:=by
 have h1:=crown_long R hst hc hl;by_cases h0:t.crown.1=0
 ·rw [Tr.text_stop R.going h0];exact h1
 ·rw [Tr.text_go R.going h0];exact (Tr.frz_text _).keep h1 (Or.inl (by decide))
theorem dry_sim{σ:St}{t x:Tr}(hf:Tr.Frz x (σ.K t))(hx:Tr.obs x=t.dry)(hst:σ.st<23):Tr.obs (σ.K t)=⟨t.out,t.ats,t.s.size,t.starts,0,decide (σ.st<23)⟩:=by
 rw [hf.obs_eq hx (Tr.dry_ended hx)];unfold Tr.dry;rw [decide_eq_true hst]
theorem head_count{σ:St}(hc:σ.count%8=0∧σ.count<=8):σ.count=0∨σ.count=8:=by omega
theorem Crowned.rel{σ σ':St}{t x:Tr}(C:Crowned σ t x)(R:Rel σ t)(hst':σ'.st<6)(h1:σ'.held=σ.crown.held)(h2:σ'.count=σ.crown.count)(h3:σ'.lim=σ.lim)(h4:σ'.hsum=σ.crown.hsum)(h5:σ'.hmany=σ.crown.hmany)(h6:σ'.fmt=σ.fmt)(h7:σ'.begun=σ.begun):Rel σ' x:=
 R.near C.near C.fine (by rw [h1,h2];exact C.hand) h3 (fun h=>by omega) (fun _=>by rw [h4,h5];exact C.head) (fun h=>by rw [h7];exact R.begun (h6 ▸ h))
theorem sim_fixed{σ:St}{t:Tr}(R:Rel σ t)(hst:σ.st<6)(hc:σ.count%8=0∧σ.count<=8)(w nx:Nat)(hnx:nx<6)(ha:σ.act=σ.need 8 (σ.headByte w nx))(F:Tr->Tr)(hF:∀ x,Tr.Frz x (F x))(hK:σ.K t=F (t.isB w))(hn:∀ x,({ σ.crown with st:=nx }:St).K x=F x):Sim σ t:=by
 unfold Sim SimA;rw [ha];unfold need;rcases head_count hc with c0 | c8
 ·rw [if_pos (by omega)];intro hs;exact dry_sim (x:=t.isB w) (by rw [hK];exact hF _) (isB_dry R c0 (by rw [← hs,c0];rfl) w) (by omega)
 ·rw [if_neg (by omega)];unfold headByte;by_cases hl:σ.lim<=σ.hmany
  ·rw [if_pos hl];show Tr.obs (σ.K t)=_;rw [hK];exact (hF _).keep (isB_long R hst c8 hl w) (Or.inl (by decide))
  ·rw [if_neg hl];by_cases hw:σ.num 8=w
   ·rw [if_pos hw];have C:=isB_ok R hst c8 hl hw;have N:=C.near;exact ⟨t.isB w,C.rel R hnx rfl rfl rfl rfl rfl rfl rfl,by rw [hn,hK],N.out,N.ats,C.inn,by rw [if_neg (by omega)];exact N.starts,N.s⟩
   ·rw [if_neg hw];show Tr.obs (σ.K t)=_;rw [hK];exact (hF _).keep (isB_no R hst c8 hl hw) (Or.inl (by decide))
theorem act_at{σ:St}{n:Nat}(h:σ.st=n):σ.act=actAt n σ:=by unfold act;rw [h]
theorem K_at{σ:St}{n:Nat}(h:σ.st=n)(t:Tr):σ.K t=Kat n σ t:=by unfold K;rw [h]
theorem sim_0{σ:St}{t:Tr}(R:Rel σ t)(hst:σ.st=0)(hc:σ.count%8=0∧σ.count<=8):Sim σ t:=
 sim_fixed R (by omega) hc (if σ.fmt=1 then 115 else 76) 1 (by decide) (act_at hst) (fun x=>σ.k2 (x.isB (if σ.fmt=1 then 1 else 2))) (fun x=>(Tr.frz_isB x _).trans (frz_k2 σ _)) (K_at hst t) (fun x=>rfl)
theorem sim_1{σ:St}{t:Tr}(R:Rel σ t)(hst:σ.st=1)(hc:σ.count%8=0∧σ.count<=8):Sim σ t:=
 sim_fixed R (by omega) hc (if σ.fmt=1 then 1 else 2) 2 (by decide) (act_at hst) (fun x=>σ.k2 x) (fun x=>frz_k2 σ x) (K_at hst t) (fun x=>rfl)
theorem sim_over{σ:St}{t:Tr}(R:Rel σ t)(hst:σ.st<6)(nx:Nat)(hnx:nx<6)(ha:σ.act= .tau { σ with st:=nx })(hK:σ.K t=({ σ with st:=nx }:St).K t):Sim σ t:=by
 unfold Sim SimA;rw [ha];exact ⟨t,⟨R.going,R.hand,R.lim,R.fine,fun h=>by have:6<=nx:=h;omega,fun _=>R.head hst,R.begun,R.bytes⟩,hK.symm,rfl,rfl,rfl,by rw [if_neg (by omega)],rfl⟩
theorem marked_few{t:Tr}{m:Nat}(hm:¬ 7<m)(σ:St):σ.k6 (t.marked m)=({ σ with marks:=m }:St).k3 t:=by
 unfold k3 k4 k5 Tr.marked;simp only [if_neg hm];rfl
theorem sim_2{σ:St}{t:Tr}(R:Rel σ t)(hst:σ.st=2)(hc:σ.count%8=0∧σ.count<=8)(hm:σ.fmt≠2->σ.marks=0):Sim σ t:=by
 by_cases hf:σ.fmt=2
 ·have ha:σ.act=σ.need 8 (if σ.lim<=σ.hmany then .fail 5 else if 7 < σ.num 8 then .fail 4 else .tau { σ.crown with marks:=σ.num 8,st:=3 }):=by
   rw [act_at hst];exact if_pos hf
  have hK:σ.K t=σ.k6 (t.crown.2.marked t.crown.1):=by rw [K_at hst];exact if_pos hf
  have hz:Tr.Frz t.crown.2 (σ.k6 (t.crown.2.marked t.crown.1)):=(Tr.frz_marked _ _).trans (frz_k6 σ _);unfold Sim SimA;rw [ha];unfold need;rcases head_count hc with c0 | c8
  ·rw [if_pos (by omega)];intro hs;exact dry_sim (x:=t.crown.2) (by rw [hK];exact hz) (crown_dry R c0 (by rw [← hs,c0];rfl)).1 (by omega)
  ·rw [if_neg (by omega)];by_cases hl:σ.lim<=σ.hmany
   ·rw [if_pos hl];show Tr.obs (σ.K t)=_;rw [hK];exact hz.keep (crown_long R (by omega) c8 hl) (Or.inl (by decide))
   ·rw [if_neg hl];obtain ⟨h1,C⟩:=crown_ok R (by omega) c8 hl;by_cases h7:7 < σ.num 8
    ·rw [if_pos h7];show Tr.obs (σ.K t)=_;have e:t.crown.2.marked t.crown.1=(t.crown.2.fail 4).marked t.crown.1:=by
      unfold Tr.marked;simp only [h1,if_pos h7];rw [Tr.fail_ended (Tr.ended_fail _ (by decide))]
     rw [hK,e];refine ((Tr.frz_marked _ _).trans (frz_k6 σ _)).keep (a:=t.crown.2.fail 4) ?_ (Or.inl (by decide));rw [C.near.obs_fail R.going,← C.inn];have:σ.crown.count=σ.count - 8:=rfl;rw [this,c8];rfl
    ·rw [if_neg h7];have N:=C.near;refine ⟨t.crown.2,C.rel R (by show 3<6;omega) rfl rfl rfl rfl rfl rfl rfl,?_,N.out,N.ats,C.inn,by rw [if_neg (by omega)];exact N.starts,N.s⟩;rw [hK,h1,marked_few h7];rfl
 ·have ha:σ.act= .tau { σ with st:=3 }:=by rw [act_at hst];exact if_neg hf
  refine sim_over R (by omega) 3 (by decide) ha ?_;rw [K_at hst];show σ.k2 t=σ.k3 t;unfold k2 k3 k4 k5;rw [if_neg hf,hm hf];rfl
theorem sim_text{σ:St}{t:Tr}(R:Rel σ t)(hst:σ.st<6)(hc:σ.count%8=0∧σ.count<=8)(nx:Nat)(hnx:nx<6)(ha:σ.act=σ.need 8 (σ.text nx))(F:Tr->Tr)(hF:∀ x,Tr.Frz x (F x))(hK:σ.K t=F t.text)(hs:∀ x,({ σ.crown with st:=σ.st }:St).K x=F x.text)(hn:∀ x,({ σ.crown with st:=nx }:St).K x=F x):Sim σ t:=by
 unfold Sim SimA;rw [ha];unfold need;rcases head_count hc with c0 | c8
 ·rw [if_pos (by omega)];intro hs;exact dry_sim (x:=t.text) (by rw [hK];exact hF _) (text_dry R c0 (by rw [← hs,c0];rfl)) (by omega)
 ·rw [if_neg (by omega)];unfold text;by_cases hl:σ.lim<=σ.hmany
  ·rw [if_pos hl];show Tr.obs (σ.K t)=_;rw [hK];exact (hF _).keep (text_long R hst c8 hl) (Or.inl (by decide))
  ·rw [if_neg hl];obtain ⟨h1,C⟩:=crown_ok R hst c8 hl;have N:=C.near;by_cases hw:σ.num 8=0
   ·rw [if_pos hw];exact ⟨t.crown.2,C.rel R hnx rfl rfl rfl rfl rfl rfl rfl,by rw [hn,hK,Tr.text_stop R.going (by rw [h1];exact hw)],N.out,N.ats,C.inn,by rw [if_neg (by omega)];exact N.starts,N.s⟩
   ·rw [if_neg hw];exact ⟨t.crown.2,C.rel R hst rfl rfl rfl rfl rfl rfl rfl,by rw [hs,hK,Tr.text_go R.going (by rw [h1];exact hw)],N.out,N.ats,C.inn,by rw [if_neg (by omega)];exact N.starts,N.s⟩
theorem sim_3{σ:St}{t:Tr}(R:Rel σ t)(hst:σ.st=3)(hc:σ.count%8=0∧σ.count<=8):Sim σ t:=by
 by_cases h:σ.marks%2=1
 ·refine sim_text R (by omega) hc 4 (by decide) (by rw [act_at hst];exact if_pos h) σ.k4 (frz_k4 σ) ?_ ?_ (fun x=>rfl)
  ·rw [K_at hst];show σ.k3 t=_;unfold k3;rw [if_pos h]
  ·intro x;refine (K_at (σ:={ σ.crown with st:=σ.st }) (n:=3) hst x).trans ?_;show ({ σ.crown with st:=σ.st }:St).k3 x=_;unfold k3;rw [if_pos (show ({ σ.crown with st:=σ.st }:St).marks%2=1 from h)];rfl
 ·refine sim_over R (by omega) 4 (by decide) (by rw [act_at hst];exact if_neg h) ?_;rw [K_at hst];show σ.k3 t=σ.k4 t;unfold k3;rw [if_neg h]
theorem sim_4{σ:St}{t:Tr}(R:Rel σ t)(hst:σ.st=4)(hc:σ.count%8=0∧σ.count<=8):Sim σ t:=by
 by_cases h:σ.marks / 2%2=1
 ·refine sim_text R (by omega) hc 5 (by decide) (by rw [act_at hst];exact if_pos h) σ.k5 (frz_k5 σ) ?_ ?_ (fun x=>rfl)
  ·rw [K_at hst];show σ.k4 t=_;unfold k4;rw [if_pos h]
  ·intro x;refine (K_at (σ:={ σ.crown with st:=σ.st }) (n:=4) hst x).trans ?_;show ({ σ.crown with st:=σ.st }:St).k4 x=_;unfold k4;rw [if_pos (show ({ σ.crown with st:=σ.st }:St).marks / 2%2=1 from h)];rfl
 ·refine sim_over R (by omega) 5 (by decide) (by rw [act_at hst];exact if_neg h) ?_;rw [K_at hst];show σ.k4 t=σ.k5 t;unfold k4;rw [if_neg h]
theorem Rel.blocks{σ σ':St}{t x:Tr}(R:Rel σ t)(N:Tr.Near t x)(F:Tr.Fine x)(H:Tr.Hand x σ'.held σ'.count)(h8:σ'.count%8=0)(hst:σ'.st=6)(hl:σ'.lim=σ.lim)(ho:σ'.om=[])(hf:σ'.fmt=σ.fmt)(hb:σ'.begun=σ.begun):Rel σ' { x with frm:=x.out.length,left:=0 }:=by
 refine ⟨N.ended.trans R.going,⟨?_,H.cur,H.inn,H.val⟩,N.limit.trans (R.lim.trans hl.symm),⟨Nat.zero_le _,F.cur,F.inn,Nat.le_refl _,F.ats,F.err⟩,fun _=>?_,fun h=>by omega,fun h=>by rw [hb];exact N.starts ▸ R.begun (hf ▸ h),?_⟩
 ·show 0=_;omega
 ·show x.out.drop x.out.length=_;rw [ho];simp
 ·unfold xeo;show ∀ y∈x.out,y<256;rw [N.out];exact R.bytes
theorem sim_5{σ:St}{t:Tr}(R:Rel σ t)(hst:σ.st=5)(hc:σ.count%8=0∧σ.count<=8)(ho:σ.om=[]):Sim σ t:=by
 by_cases h:σ.marks / 4=1
 ·have ha:σ.act=σ.need 8 (σ.headByte σ.hsum 6):=by rw [act_at hst];exact if_pos h
  have hK:σ.K t=σ.k6 (t.isB σ.hsum):=by rw [K_at hst];show σ.k5 t=_;unfold k5;rw [if_pos h,(R.head (by omega)).1]
  unfold Sim SimA;rw [ha];unfold need;rcases head_count hc with c0 | c8
  ·rw [if_pos (by omega)];intro hs;exact dry_sim (x:=t.isB σ.hsum) (by rw [hK];exact frz_k6 σ _) (isB_dry R c0 (by rw [← hs,c0];rfl) _) (by omega)
  ·rw [if_neg (by omega)];unfold headByte;by_cases hl:σ.lim<=σ.hmany
   ·rw [if_pos hl];show Tr.obs (σ.K t)=_;rw [hK];exact (frz_k6 σ _).keep (isB_long R (by omega) c8 hl _) (Or.inl (by decide))
   ·rw [if_neg hl];by_cases hw:σ.num 8=σ.hsum
    ·rw [if_pos hw];have C:=isB_ok R (by omega) c8 hl hw;have N:=C.near;refine ⟨{ t.isB σ.hsum with frm:=(t.isB σ.hsum).out.length,left:=0 },R.blocks N C.fine C.hand (by show (σ.count - 8)%8=0;omega) rfl rfl ho rfl rfl,?_,N.out,N.ats,C.inn,by rw [if_neg (by omega)];exact N.starts,N.s⟩;rw [hK];rfl
    ·rw [if_neg hw];show Tr.obs (σ.K t)=_;rw [hK];exact (frz_k6 σ _).keep (isB_no R (by omega) c8 hl hw) (Or.inl (by decide))
 ·have ha:σ.act= .tau { σ with st:=6 }:=by rw [act_at hst];exact if_neg h
  unfold Sim SimA;rw [ha];refine ⟨{ t with frm:=t.out.length,left:=0 },R.blocks (Tr.Near.refl t) R.fine R.hand hc.1 rfl rfl ho rfl rfl,?_,rfl,rfl,rfl,by rw [if_neg (by omega)],rfl⟩;rw [K_at hst];show _=σ.k5 t;unfold k5;rw [if_neg h];rfl
end St
namespace Tr
def octN:Nat->Tr->Tr
 | 0,t=>t
 | k+1,t=>(octN k t).octet.2
theorem Hand.octN{t:Tr}{h c:Nat}(H:Hand t h c)(hg:t.ended=false)(h0:c%8=0)(k:Nat)(hk:8*k<=c):Hand (Tr.octN k t) (h / 256^k) (c - 8*k)∧Rd t (Tr.octN k t)∧(Tr.octN k t).inn+(c - 8*k) / 8=t.inn+c / 8:=by
 induction k with
 | zero=>exact ⟨by simpa [Tr.octN] using H,Rd.refl t,by simp [Tr.octN]⟩
 | succ k ih=>
  obtain ⟨a,b,e⟩:=ih (by omega);obtain ⟨h1,h2,h3,h4⟩:=a.octet (by rw [b.ended];exact hg) (by omega) (by omega);refine ⟨?_,b.trans h3,?_⟩
  ·have e1:h / 256^(k+1)=h / 256^k / 256:=by rw [Nat.pow_succ,Nat.div_div_eq_div_mul]
   rw [e1,show c - 8*(k+1)=c - 8*k - 8 by omega];exact h2
  ·rw [show c - 8*(k+1)=c - 8*k - 8 by omega];show (Tr.octN k t).octet.2.inn+_=_;omega
theorem Hand.octV{t:Tr}{h c:Nat}(H:Hand t h c)(hg:t.ended=false)(h0:c%8=0)(k:Nat)(hk:8*(k+1)<=c):(Tr.octN k t).octet.1=h / 256^k%256:=by
 obtain ⟨a,b,e⟩:=H.octN hg h0 k (by omega);exact (a.octet (by rw [b.ended];exact hg) (by omega) (by omega)).1
theorem frz_octN(k:Nat)(t:Tr):Frz t (octN k t):=by
 induction k with
 | zero=>exact Frz.refl t
 | succ k ih=>exact ih.trans (frz_octet _)
theorem octN_add(k j:Nat)(t:Tr):octN (k+j) t=octN j (octN k t):=by
 induction j with
 | zero=>rfl
 | succ j ih=>show (octN (k+j) t).octet.2=_;rw [ih];rfl
theorem Hand.octN_dry{t:Tr}{h c:Nat}(H:Hand t h c)(hg:t.ended=false)(h0:c%8=0)(hs:t.inn+c / 8=t.s.size)(k:Nat)(hk:c<8*k):obs (Tr.octN k t)=dry t:=by
 obtain ⟨a,b,e⟩:=H.octN hg h0 (c / 8) (by omega);rw [show c - 8*(c / 8)=0 by omega] at a e;have hsz:(Tr.octN (c / 8) t).s=t.s:=b.near.s;have h1:=a.octet_dry (by rw [b.ended];exact hg) (by rw [hsz];omega);rw [show k=(c / 8+1)+(k - (c / 8+1)) by omega,octN_add];have h2:obs (Tr.octN (c / 8+1) t)=dry t:=by
  show obs (Tr.octN (c / 8) t).octet.2=_;rw [h1];unfold dry;rw [b.near.out,b.near.ats,b.near.s,b.near.starts]
 exact (frz_octN _ _).obs_eq h2 (dry_ended h2)
theorem four_octN(t:Tr)(k:Nat):(t.four k).2=octN k t:=by
 induction k with
 | zero=>rfl
 | succ k ih=>show (t.four k).2.octet.2=_;rw [ih];rfl
theorem four_val(t:Tr):(t.four 4).1=256*(256*(256*t.octet.1+(octN 1 t).octet.1)+(octN 2 t).octet.1)+(octN 3 t).octet.1:=by
 show 256*(256*(256*(256*0+(t.four 0).2.octet.1)+(t.four 1).2.octet.1)+(t.four 2).2.octet.1)+(t.four 3).2.octet.1=_;rw [four_octN,four_octN,four_octN,four_octN];show 256*(256*(256*(256*0+t.octet.1)+_)+_)+_=_;omega
theorem Hand.four{t:Tr}{h c:Nat}(H:Hand t h c)(hg:t.ended=false)(h0:c=32):(t.four 4).1=big4 h:=by
 rw [four_val];have a0:=H.octV hg (by omega) 0 (by omega);have a1:=H.octV hg (by omega) 1 (by omega);have a2:=H.octV hg (by omega) 2 (by omega);have a3:=H.octV hg (by omega) 3 (by omega);have e0:(Tr.octN 0 t).octet.1=t.octet.1:=rfl;rw [e0] at a0;rw [a0,a1,a2,a3];unfold big4;simp
theorem skip_go{t:Tr}{h c:Nat}(H:Hand t h c)(hc:c<8)(h0:h=0):t.skip={ t with left:=0 }∧Hand { t with left:=0 } 0 0:=by
 have e:c / 8=0:=by omega
 have e2:c%8=c:=by omega
 have hv:=H.val;rw [e,e2] at hv;have h1:le t.s t.inn 0=0:=rfl;rw [h1,Nat.mul_zero] at hv;have hcur:t.cur=0:=by omega
 refine ⟨?_,⟨rfl,by show t.cur<1;omega,by have:=H.inn;show t.inn+0<=t.s.size;omega,?_⟩⟩
 ·unfold skip;rw [if_neg (by rw [hcur];simp)]
 ·show 0=t.cur+2^0*0;omega
theorem skip_bad{t:Tr}{h c:Nat}(H:Hand t h c)(hg:t.ended=false)(hc:c<8)(h0:h≠0):obs t.skip=⟨t.out,t.ats,t.inn,t.starts,8,false⟩:=by
 have e:c / 8=0:=by omega
 have e2:c%8=c:=by omega
 have hv:=H.val;rw [e,e2] at hv;have h1:le t.s t.inn 0=0:=rfl;rw [h1,Nat.mul_zero] at hv;have hcur:t.cur≠0:=by omega
 have hl:=H.cur;rw [e2] at hl;have hleft:0<t.left:=by
  rw [H.left,e2];rcases Nat.eq_zero_or_pos c with h | h
  ·subst h;simp at hl;omega
  ·exact h
 unfold skip;rw [if_pos ⟨hleft,hcur⟩];exact obs_fail hg 8
end Tr
namespace St
theorem sim_end{σ τ:St}{t x:Tr}(R:Rel σ t)(h6:6<=σ.st)(h23:σ.st<23)(N:Tr.Near t x)(F:Tr.Fine x)(H:Tr.Hand x τ.held τ.count)(hc:τ.count<8)(hi:x.inn+τ.count / 8=t.inn+σ.count / 8)(h1:τ.lim=σ.lim)(h2:τ.fmt=σ.fmt)(h3:τ.om=σ.om)(h4:τ.begun=σ.begun)(hK:σ.K t=τ.after x):SimA τ.endBlock σ t:=by
 have hx:x.ended=false:=by rw [N.ended];exact R.going
 unfold SimA endBlock;by_cases hl:τ.last=true
 ·rw [if_pos hl];have e:τ.after x=τ.fin x.skip:=by unfold after;rw [if_pos hl,if_neg (by rw [hx];simp)]
  by_cases hh:τ.held≠0
  ·rw [if_pos hh];show Tr.obs (σ.K t)=_;rw [hK,e];refine (frz_fin τ _).keep (a:=x.skip) ?_ (Or.inl (by decide));rw [Tr.skip_bad H hx hc hh,N.out,N.ats,N.starts];congr 1
   omega
  ·rw [if_neg hh];obtain ⟨s1,s2⟩:=Tr.skip_go H hc (by omega);refine ⟨{ x with left:=0 },?_,?_,N.out,N.ats,?_,by rw [if_neg (by omega)];exact N.starts,N.s⟩
   ·refine R.near ⟨N.out,N.ats,N.starts,N.s,N.frm,N.limit,N.ended⟩ ⟨Nat.zero_le _,F.cur,F.inn,F.frm,F.ats,F.err⟩ s2 h1 (fun _=>by rw [R.om h6];exact h3.symm) (fun h=>by have:(21:Nat)<6:=h;omega) (fun h=>by show _=τ.begun;rw [h4];exact R.begun (h2 ▸ h))
   ·rw [hK,e,s1];rfl
   ·show x.inn+0 / 8=_;omega
 ·rw [if_neg hl];have e:τ.after x=τ.fin (Tr.blocksFrom x):=by unfold after;rw [if_neg hl]
  refine ⟨x,?_,?_,N.out,N.ats,hi,by rw [if_neg (by omega)];exact N.starts,N.s⟩
  ·exact R.near N F H h1 (fun _=>by rw [R.om h6];exact h3.symm) (fun h=>by have:(6:Nat)<6:=h;omega) (fun h=>by show _=τ.begun;rw [h4];exact R.begun (h2 ▸ h))
  ·rw [hK,e];rfl
theorem om_len{σ:St}{t:Tr}(R:Rel σ t)(h6:6<=σ.st):σ.om.length=t.out.length - t.frm:=by rw [← R.om h6];simp
theorem rel_rd{σ σ':St}{t t':Tr}(R:Rel σ t)(h6:6<=σ.st)(hd:Tr.Rd t t')(F:Tr.Fine t')(H:Tr.Hand t' σ'.held σ'.count)(hst:6<=σ'.st)(h1:σ'.lim=σ.lim)(h2:σ'.fmt=σ.fmt)(h3:σ'.om=σ.om)(h4:σ'.begun=σ.begun):Rel σ' t':=
 R.near hd.near F H h1 (fun _=>by rw [R.om h6];exact h3.symm) (fun h=>by omega) (fun h=>by rw [h4];exact R.begun (h2 ▸ h))
theorem sim_6{σ:St}{t:Tr}(R:Rel σ t)(hst:σ.st=6)(hc:σ.count<11):Sim σ t:=by
 have hg:=R.going;unfold Sim;rw [act_at hst];simp only [actAt,need];have hK:σ.K t=σ.fin (Tr.blocksFrom t):=K_at hst t;by_cases h3:σ.count<3
 ·rw [if_pos h3];unfold SimA;intro hs;have hd:Tr.obs (t.number 3).2=t.dry:=R.hand.starve hg hs 3 h3;have e:(t.number 3).2=(t.bit.2.number 2).2:=rfl;rw [e] at hd;refine dry_sim (x:=(t.bit.2.number 2).2) ?_ hd (by omega);rw [hK,Tr.blocks_short hg (Tr.dry_ended hd)];exact frz_fin σ _
 ·rw [if_neg h3];obtain ⟨b1,b2,b3,b4⟩:=R.hand.bit hg (by omega);have hg1:t.bit.2.ended=false:=by rw [b3.ended];exact hg
  obtain ⟨n1,n2,n3,n4⟩:=b2.number hg1 2 (by omega);have hg2:(t.bit.2.number 2).2.ended=false:=by rw [n3.ended];exact hg1
  have F2:Tr.Fine (t.bit.2.number 2).2:=R.fine.bit.number 2;have hd:=b3.trans n3;rw [show (2:Nat)^2=4 from rfl] at n1 n2;have hh:σ.held / 2 / 4=σ.held / 2^3:=by rw [Nat.div_div_eq_div_mul]
  have hi:(t.bit.2.number 2).2.inn+(σ.count - 3) / 8=t.inn+σ.count / 8:=by rw [show σ.count - 3=σ.count - 1 - 2 by omega];omega
  rw [hh,show σ.count - 1 - 2=σ.count - 3 by omega] at n2;have hb:σ.K t=({ σ.rd 3 with last:=σ.num 1==1 }:St).after (Tr.block (σ.held / 2%4) (t.bit.2.number 2).2):=by
   rw [hK,← n1];unfold after;show σ.fin _=σ.fin _;by_cases hl:t.bit.1=0
   ·rw [Tr.blocks_go hg hg2 hl,if_neg];show ¬ (σ.held%2^1==1)=true;rw [b1] at hl;simp;omega
   ·have hl1:(σ.num 1==1)=true:=by
     show (σ.held%2^1==1)=true;rw [b1] at hl;simp;omega
    rw [Tr.blocks_last hg hg2 hl,if_pos (show ({ σ.rd 3 with last:=σ.num 1==1 }:St).last=true from hl1)]
  generalize (t.bit.2.number 2).2=x at *;unfold kind;simp only;by_cases k0:σ.held / 2%4=0
  ·rw [if_pos k0];rw [k0] at hb;have e0:Tr.block 0 x=Tr.bytes x.skip.plainRest.1 x.skip.plainRest.2:=rfl;rw [e0] at hb;by_cases hz:(σ.rd 3).held≠0
   ·rw [if_pos hz];unfold SimA;show Tr.obs (σ.K t)=_;rw [hb];refine (((Tr.frz_plainRest _).trans (Tr.frz_bytes _ _)).trans (frz_after _ _)).keep (a:=x.skip) ?_ (Or.inl (by decide));rw [Tr.skip_bad n2 hg2 (by omega) hz,hd.near.out,hd.near.ats,hd.near.starts];congr 1
    omega
   ·rw [if_neg hz];have hz':σ.held / 2^3=0:=by
     have:(σ.rd 3).held=σ.held / 2^3:=rfl;omega
    obtain ⟨s1,s2⟩:=Tr.skip_go n2 (by omega) hz';unfold SimA;have N:=hd.near;refine ⟨{ x with left:=0 },?_,?_,N.out,N.ats,?_,by rw [if_neg (by omega)];exact N.starts,N.s⟩
    ·exact R.near ⟨N.out,N.ats,N.starts,N.s,N.frm,N.limit,N.ended⟩ ⟨Nat.zero_le _,F2.cur,F2.inn,F2.frm,F2.ats,F2.err⟩ s2 rfl (fun _=>R.om (by omega)) (fun h=>by have:(7:Nat)<6:=h;omega) (fun h=>R.begun h)
    ·rw [hb,s1];rfl
    ·show x.inn+0 / 8=_;omega
  ·rw [if_neg k0];by_cases k1:σ.held / 2%4=1
   ·rw [if_pos k1];unfold SimA;have N:=hd.near;refine ⟨x,rel_rd R (by omega) hd F2 n2 (by show 6<=16;omega) rfl rfl rfl rfl,?_,N.out,N.ats,hi,by rw [if_neg (by omega)];exact N.starts,N.s⟩;rw [hb,k1];rfl
   ·rw [if_neg k1];by_cases k2:σ.held / 2%4=2
    ·rw [if_pos k2];unfold SimA;have N:=hd.near;refine ⟨x,rel_rd R (by omega) hd F2 n2 (by show 6<=9;omega) rfl rfl rfl rfl,?_,N.out,N.ats,hi,by rw [if_neg (by omega)];exact N.starts,N.s⟩;rw [hb,k2];have e2:Tr.block 2 x=Tr.content x.own.1 x.own.2.1 x.own.2.2:=rfl;rw [e2,Tr.own_own0];rfl
    ·rw [if_neg k2];unfold SimA;show Tr.obs (σ.K t)=_;have e3:Tr.block (σ.held / 2%4) x=x.fail 7:=by unfold Tr.block;rw [if_neg k0,if_neg k1,if_neg k2]
     rw [hb,e3];refine (frz_after _ _).keep (a:=x.fail 7) ?_ (Or.inl (by decide));rw [hd.near.obs_fail hg];congr 1
     omega
theorem sim_7{σ:St}{t:Tr}(R:Rel σ t)(hst:σ.st=7)(hc:σ.count%8=0∧σ.count<=32):Sim σ t:=by
 have hg:=R.going;unfold Sim;rw [act_at hst];simp only [actAt,need];have hK:σ.K t=σ.after (Tr.bytes t.plainRest.1 t.plainRest.2):=K_at hst t;have ep:t.plainRest=(t.octet.1+256*(Tr.octN 1 t).octet.1,if (Tr.octN 2 t).octet.1+256*(Tr.octN 3 t).octet.1=65535 - (t.octet.1+256*(Tr.octN 1 t).octet.1) then Tr.octN 4 t else (Tr.octN 4 t).fail 9):=rfl;have hz:Tr.Frz (Tr.octN 4 t) (σ.K t):=by
  rw [hK];refine Tr.Frz.trans ?_ ((Tr.frz_bytes _ _).trans (frz_after σ _));rw [ep];exact Tr.frz_ite_fail' _ _ _
 by_cases h3:σ.count<32
 ·rw [if_pos h3];unfold SimA;intro hs;exact dry_sim (x:=Tr.octN 4 t) hz (R.hand.octN_dry hg hc.1 hs 4 (by omega)) (by omega)
 ·rw [if_neg h3];have c32:σ.count=32:=by omega
  have a0:=R.hand.octV hg (by omega) 0 (by omega);have a1:=R.hand.octV hg (by omega) 1 (by omega);have a2:=R.hand.octV hg (by omega) 2 (by omega);have a3:=R.hand.octV hg (by omega) 3 (by omega);obtain ⟨n2,hd,hi⟩:=R.hand.octN hg (by omega) 4 (by omega);have e0:(Tr.octN 0 t).octet.1=t.octet.1:=rfl;rw [e0] at a0;have hn:t.octet.1+256*(Tr.octN 1 t).octet.1=σ.num 16:=by
   rw [a0,a1];show _=σ.held%2^16;simp;omega
  have hn2:(Tr.octN 2 t).octet.1+256*(Tr.octN 3 t).octet.1=σ.held / 65536%65536:=by
   rw [a2,a3];simp;omega
  rw [hn,hn2] at ep;by_cases hk:σ.held / 65536%65536=65535 - σ.num 16
  ·rw [if_pos hk];rw [if_pos hk] at ep;unfold SimA;have N:=hd.near;refine ⟨Tr.octN 4 t,rel_rd R (by omega) hd ?_ ?_ (by show 6<=8;omega) rfl rfl rfl rfl,?_,N.out,N.ats,?_,by rw [if_neg (by omega)];exact N.starts,N.s⟩
   ·exact R.fine.octet.octet.octet.octet
   ·exact n2
   ·rw [hK,ep];rfl
   ·exact hi
  ·rw [if_neg hk];rw [if_neg hk] at ep;unfold SimA;show Tr.obs (σ.K t)=_;rw [hK,ep];refine ((Tr.frz_bytes _ _).trans (frz_after σ _)).keep (a:=(Tr.octN 4 t).fail 9) ?_ (Or.inl (by decide));rw [hd.near.obs_fail hg];congr 1
   omega
theorem sim_8{σ:St}{t:Tr}(R:Rel σ t)(hst:σ.st=8)(hc:σ.count%8=0∧σ.count<=8∧(σ.left=0->σ.count=0)):Sim σ t:=by
 have hg:=R.going;unfold Sim;rw [act_at hst];simp only [actAt,need];have hK:σ.K t=σ.after (Tr.bytes σ.left t):=K_at hst t;by_cases hl:σ.left=0
 ·rw [if_pos hl];exact sim_end R (by omega) (by omega) (Tr.Near.refl t) R.fine R.hand (by omega) rfl rfl rfl rfl rfl (by rw [hK,hl];rfl)
 ·rw [if_neg hl];obtain ⟨n,hn⟩:∃ n,σ.left=n+1:=⟨σ.left - 1,by omega⟩
  have eb:Tr.bytes σ.left t=Tr.bytes n (t.octet.2.put t.octet.1):=by
   rw [hn];show (if t.ended then t else _)=_;rw [if_neg (by rw [hg];simp)]
  rw [eb] at hK;by_cases h8:σ.count<8
  ·rw [if_pos h8];unfold SimA;intro hs;have c0:σ.count=0:=by omega
   have H:=R.hand;rw [c0] at H;refine dry_sim (x:=t.octet.2) ?_ (H.octet_dry hg (by rw [← hs,c0];rfl)) (by omega);rw [hK];exact ((Tr.frz_put _ _).trans (Tr.frz_bytes _ _)).trans (frz_after σ _)
  ·rw [if_neg h8];have c8:σ.count=8:=by omega
   obtain ⟨o1,o2,o3,o4⟩:=R.hand.octet hg (by omega) (by omega);have hg2:t.octet.2.ended=false:=by rw [o3.ended];exact hg
   unfold SimA;have N:=o3.near;have hb:σ.num 8=t.octet.1:=o1.symm;have hlt:=Tr.octet_lt t;refine ⟨t.octet.2.put t.octet.1,?_,?_,?_,?_,?_,?_,?_⟩
   ·have f:=R.fine.octet.put t.octet.1;rw [Tr.put_going hg2] at f ⊢;refine ⟨hg2,⟨o2.left,o2.cur,o2.inn,o2.val⟩,N.limit.trans R.lim,f,fun _=>?_,fun h=>by have:σ.st<6:=h;omega,fun h=>by show t.octet.2.starts.length=_;rw [N.starts];exact R.begun h,?_⟩
    ·show (t.octet.2.out++[t.octet.1]).drop t.octet.2.frm=σ.om++[σ.num 8];rw [N.out,N.frm,hb,List.drop_append_of_le_length R.fine.frm,R.om (by omega)]
    ·have:=Tr.put_bytesOk (t:=t.octet.2) (b:=t.octet.1) (by unfold xeo;rw [N.out];exact R.bytes) hlt;rw [Tr.put_going hg2] at this;exact this
   ·rw [hK,K_at (n:=8) (by exact hst)];show σ.after (Tr.bytes (σ.left - 1) _)=_;rw [show σ.left - 1=n by omega]
   ·rw [Tr.put_going hg2];show t.octet.2.out++_=_;rw [N.out,hb]
   ·rw [Tr.put_going hg2];show t.octet.2.ats++_=_;rw [N.ats,c8];congr 2;rw [c8] at o4;omega
   ·rw [Tr.put_going hg2];show t.octet.2.inn+(σ.count - 8) / 8=_;omega
   ·rw [Tr.put_going hg2];exact N.starts
   ·rw [Tr.put_going hg2];exact N.s
end St
end Go.Proofs.YtbcjmakpempkiaaGreatDoor
