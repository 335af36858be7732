import Derived.Lib.Builder
import Derived.Lib.UnsafeStr
import Derived.Maps.AppendAt
import Derived.Shelf.RegionOpenPlain
import Derived.Test.YtbcjmakpempkiaaGreatDoorX33
import Derived.Test.YtbcjmakpempkiaaGreatDoorX35
set_option maxRecDepth 100000
set_option maxHeartbeats 8000000
set_option linter.all false
namespace Go.Proofs.YtbcjmakpempkiaaGreatDoor
inductive yvw(q:Quo)(D:Nat)(s:ByteArray)(x:MS)(c:Cf):Prop
 | run:Sn q D s x c->yvw q D s x c
 | fresh:Sm q D s x c->x.st=0->x.mb=0->c=Cf.begin c.σ.fmt c.σ.mem c.σ.lim->yvw q D s x c
 | between:Sm q D s x c->x.st=0->x.mb=c.starts.length->c.σ.st=23->c.σ.fmt=2->c.σ.count=8->0<c.pre.length->yvw q D s x c
theorem yvw.sm{q:Quo}{D:Nat}{s:ByteArray}{x:MS}{c:Cf}(h:yvw q D s x c):Sm q D s x c:=by
 cases h with
 | run h=>exact h.sm
 | fresh h=>exact h
 | between h=>exact h
def stN(x:MS):Nat:=if x.st=0 then 0 else 1
def muS(s:ByteArray)(x:MS)(c:Cf):Nat:=2*muC s c+stN x
inductive OutS(q:Quo)(D:Nat)(s:ByteArray)(x:MS)(c:Cf)(r:MS×Nat):Prop
 | go (c':Cf):v44 q D s c c'->r.2=0->yvw q D s r.1 c'->muS s r.1 c'<muS s x c->OutS q D s x c r
 | hungry (c':Cf):v44 q D s c c'->r.2=1->yvw q D s r.1 c'->c'.σ.act= .take->s.size<=c'.pre.length->OutS q D s x c r
 | full (c':Cf) (b:Nat) (σ':St):v44 q D s c c'->r.2=2->yvw q D s r.1 c'->c'.σ.act= .put b σ'->D+64<=c'.outs.length->OutS q D s x c r
 | dead (c':Cf) (e:Nat):v44 q D s c c'->r.2=3->Dead q r.1 c' e->Stop q D s c' e->OutS q D s x c r
theorem Out.turn{q:Quo}{D:Nat}{s:ByteArray}{x:MS}{c c1:Cf}{r:MS×Nat}(O:Out q D s c1 r)(W:St.Wf c.σ)(st:v44 q D s c c1)(h:muC s c1<muC s c∨(c1=c∧x.st≠0)):OutS q D s x c r:=by
 have W1:=(st.mu W).1;have hle:muC s c1<=muC s c:=(st.mu W).2;have hs:∀ y:MS,stN y<=1:=fun y=>by unfold stN;split <;> omega
 cases O with
 | go c' h1 h2 h3 h4=>
  refine .go c' (st.trans h1) h2 (.run h3) ?_;have:=hs r.1;unfold muS;rcases h with h | ⟨rfl,hx⟩
  ·omega
  ·have:stN x=1:=if_neg hx;omega
 | between c' h1 h2 h3 h4 h5 h6 h7 h8 h9=>
  have hl:=(h1.mu W1).2;refine .go c' (st.trans h1) h2 (.between h3 h4 h5 h6 h7 h8 h9) ?_;have e:stN r.1=0:=if_pos h4;unfold muS;rcases h with h | ⟨rfl,hx⟩
  ·omega
  ·have:stN x=1:=if_neg hx;omega
 | hungry c' h1 h2 h3 h4 h5=>exact .hungry c' (st.trans h1) h2 (.run h3) h4 h5
 | full c' b σ' h1 h2 h3 h4 h5=>exact .full c' b σ' (st.trans h1) h2 (.run h3) h4 h5
 | dead c' e h1 h2 h3 h4=>exact .dead c' e (st.trans h1) h2 h3 h4
structure Lim(q:Quo)(mem lim:Nat):Prop where
 sp:q.steps<=9223372036854775807
 quo:q.ratio*q.steps+q.slack<=9223372036854775807
 ou:q.out<=9223372036854775807
 he:lim<=9223372036854775807
 me:mem<=9223372036854775807
theorem xc8{s:ByteArray}{i:Nat}:∀ b∈jlo s i,b<256:=fun b hb=>by
 unfold jlo strN at hb;obtain ⟨u,_,rfl⟩:=List.mem_map.1 (List.mem_of_mem_drop hb);exact u.toNat_lt
theorem yvw.mbs{q:Quo}{D:Nat}{s:ByteArray}{x:MS}{c:Cf}(h:yvw q D s x c):x.mb<=x.me:=by
 rw [h.sm.me];have:=h.sm.mb;cases h with
 | run h=>rw [h.mb];omega
 | fresh _ _ e _=>omega
 | between _ _ e _ _ _ _=>omega
theorem yvw.ok{q:Quo}{D:Nat}{s:ByteArray}{x:MS}{c:Cf}(h:yvw q D s x c)(L:Lim q c.σ.mem c.σ.lim):Ok x:=by
 have S:=h.sm;exact ⟨by rw [S.held,S.count];exact S.wf.held,by rw [S.tk,S.pu,S.sp];exact S.stp,by rw [S.sp];exact L.sp,by rw [S.ra,S.sp,S.sl];exact L.quo,by rw [S.ou];exact L.ou,S.sumle,by rw [S.rest];exact xc8,by rw [S.head.1,S.he];exact ⟨S.head.2,L.he⟩,⟨h.mbs,by rw [S.me];exact L.me⟩,by rw [S.hsum];exact S.wf.hsum,by rw [S.size];omega,by rw [S.marks];have:=S.wf.marks.1;omega,by rw [S.fm];exact S.wf.fmt⟩
theorem kio{l:List Int}{h c:Nat}(F:y8i l h c):c<=20:=by
 have hl:lng l 12<=11:=y4h l 11;cases e:jcs l h c with
 | hit k m=>
  have:=F.1 k m e;have h2:=zmq l _ _ _ _ _ _ _ e;omega
 | more=>
  have:=x53 l _ _ _ _ _ e;omega
 | none=>
  have:=F.2 e;omega
theorem zbm(k:Nat):hbits k<=6∧hleast k<=11:=by
 unfold hbits hleast;(repeat' split) <;> omega
theorem Sn.pre_{q:Quo}{D:Nat}{s:ByteArray}{x:MS}{c:Cf}(N:Sn q D s x c)(L:Lim q c.σ.mem c.σ.lim):Pre x:=by
 have ok:=(yvw.run N).ok L;have S:=N.sm;have W:=S.wf;have few:=W.few;have hat:=W.at_;have hst:=N.st;have hqc:∀ b∈x.qc,b<256:=fun b hb=>by rw [S.qc] at hb;exact W.om b (List.mem_of_mem_drop hb)
 have hsets:∀ {n},c.σ.st=n->15<=n∧n<=20->St.Sets c.σ->x.la≠[]∧x.lb.length<=16∧x.la.length<=269:=fun hn hr hs=>by
  have e:=S.la (by rw [hn];exact hr);rw [e.1,e.2];refine ⟨fun h0=>?_,hs.nb,hs.na.2⟩;have h1:=hs.na.1;rw [h0] at h1;exact absurd h1 (by decide)
 rcases St.cases24 W.st with h | h | h | h | h | h | h | h | h | h | h | h | h | h | h | h | h | h | h | h | h | h | h | h
 ·have f:c.σ.count%8=0∧c.σ.count<=8:=St.few_of (n:=0) (by omega) (h ▸ few);rw [h] at hst;exact ⟨ok,by rw [S.count];omega,by omega,by rw [hst];exact ⟨ok,by rw [S.count];omega⟩⟩
 ·have f:c.σ.count%8=0∧c.σ.count<=8:=St.few_of (n:=1) (by omega) (h ▸ few);rw [h] at hst;exact ⟨ok,by rw [S.count];omega,by omega,by rw [hst];exact ⟨ok,by rw [S.count];omega⟩⟩
 ·have f:c.σ.count%8=0∧c.σ.count<=8:=St.few_of (n:=2) (by omega) (h ▸ few);rw [h] at hst;exact ⟨ok,by rw [S.count];omega,by omega,by rw [hst];exact ⟨ok,by rw [S.count];omega⟩⟩
 ·have f:c.σ.count%8=0∧c.σ.count<=8:=St.few_of (n:=3) (by omega) (h ▸ few);rw [h] at hst;exact ⟨ok,by rw [S.count];omega,by omega,by rw [hst];exact ⟨ok,by rw [S.count];omega⟩⟩
 ·have f:c.σ.count%8=0∧c.σ.count<=8:=St.few_of (n:=4) (by omega) (h ▸ few);rw [h] at hst;exact ⟨ok,by rw [S.count];omega,by omega,by rw [hst];exact ⟨ok,by rw [S.count];omega⟩⟩
 ·have f:c.σ.count%8=0∧c.σ.count<=8:=St.few_of (n:=5) (by omega) (h ▸ few);rw [h] at hst;exact ⟨ok,by rw [S.count];omega,by omega,by rw [hst];exact ⟨ok,by rw [S.count];omega⟩⟩
 ·rw [h] at few hst;exact ⟨ok,by rw [S.count];have f:c.σ.count<11:=few;omega,by omega,by rw [hst];trivial⟩
 ·rw [h] at few hst;exact ⟨ok,by rw [S.count];exact few.2,by omega,by rw [hst];trivial⟩
 ·rw [h] at few hst hat;exact ⟨ok,by rw [S.count];have f:=few.2.1;omega,by omega,by rw [hst];show x.left<=65535;rw [S.left];exact hat⟩
 ·have hl:=W.own (Or.inl (by omega));rw [h] at few hst;exact ⟨ok,by rw [S.count];have f:c.σ.count<12:=few;omega,by omega,by rw [hst];show x.hl=[];rw [S.hl];exact hl.1⟩
 ·have hl:=W.own (Or.inl (by omega));rw [h] at few hst;exact ⟨ok,by rw [S.count];have f:c.σ.count<12:=few;omega,by omega,by rw [hst];show x.hl=[];rw [S.hl];exact hl.1⟩
 ·have hl:=W.own (Or.inl (by omega));rw [h] at few hst;exact ⟨ok,by rw [S.count];have f:c.σ.count<12:=few;omega,by omega,by rw [hst];show x.hl=[];rw [S.hl];exact hl.1⟩
 ·have ht:=S.told (by rw [h];decide);rw [h] at few hst hat;exact ⟨ok,by rw [S.count];have f:=few.1;omega,by omega,by rw [hst];show x.told<=15∧x.hl.length<=x.told∧_;rw [ht,S.hl];exact ⟨hat.2.2.1.2,hat.2.2.2.1,hat.2.2.2.2.1⟩⟩
 ·have e1:=S.nl (by rw [h];decide);have e2:=S.nd (by rw [h];decide);have e3:=S.hs (by rw [h];decide);rw [h] at few hst hat;obtain ⟨a1,a2,a3,a4,a5⟩:=hat;exact ⟨ok,by rw [S.count];have f:=kio few;omega,by omega,by rw [hst];exact ⟨⟨by rw [e1];exact a1,by rw [e2];exact a2,by rw [S.row];exact a4,by rw [e1,e2,S.row];exact a5⟩,by rw [e3];intro h0;have a6:=a3.2.2;rw [h0] at a6;exact absurd a6 (by decide),by rw [e3];have a6:=a3.2.2;omega⟩⟩
 ·have e1:=S.nl (by rw [h];decide);have e2:=S.nd (by rw [h];decide);have e3:=S.hk h;rw [h] at few hst hat;obtain ⟨⟨a1,a2,a3,a4,a5⟩,a6⟩:=hat;obtain ⟨b1,b2⟩:=zbm c.σ.hk;exact ⟨ok,by rw [S.count];have f:c.σ.count<8+hbits c.σ.hk:=few;omega,by omega,by rw [hst];exact ⟨⟨by rw [e1];exact a1,by rw [e2];exact a2,by rw [S.row];exact a4,by rw [e1,e2,S.row];exact a5⟩,by rw [e3.2.2.2];exact b1,by rw [e3.2.2.1];exact b2,by rw [e3.1];split <;> omega⟩⟩
 ·rw [h] at few hst hat;obtain ⟨b1,b2,b3⟩:=hsets h (by decide) hat.1;exact ⟨ok,by rw [S.count];have f:c.σ.count<8:=few;omega,by omega,by rw [hst];exact ⟨b1,b2,hqc,b3,by rw [S.lit];exact hat.2⟩⟩
 ·rw [h] at few hst hat;obtain ⟨b1,b2,b3⟩:=hsets h (by decide) hat;exact ⟨ok,by rw [S.count];have f:=kio few;omega,by omega,by rw [hst];exact ⟨b1,b2,hqc,b3⟩⟩
 ·rw [h] at few hst hat;obtain ⟨b1,b2,b3⟩:=hsets h (by decide) hat.1;obtain ⟨_,a1,a2,a3⟩:=hat;have hp:0<2^c.σ.bits:=Nat.pow_pos (by decide);exact ⟨ok,by rw [S.count];have f:c.σ.count<8+c.σ.bits:=few;omega,by omega,by rw [hst];exact ⟨b1,b2,hqc,by rw [S.span.1,S.span.2];exact ⟨by omega,by omega,by omega⟩⟩⟩
 ·rw [h] at few hst hat;obtain ⟨b1,b2,b3⟩:=hsets h (by decide) hat.1;exact ⟨ok,by rw [S.count];have f:=kio few;omega,by omega,by rw [hst];exact ⟨b1,b2,hqc,by rw [S.left];have f:=hat.2.2;omega⟩⟩
 ·rw [h] at few hst hat;obtain ⟨b1,b2,b3⟩:=hsets h (by decide) hat.1.1;obtain ⟨⟨_,l1,l2⟩,a1,a2,a3⟩:=hat;have hp:0<2^c.σ.bits:=Nat.pow_pos (by decide);exact ⟨ok,by rw [S.count];have f:c.σ.count<8+c.σ.bits:=few;omega,by omega,by rw [hst];exact ⟨b1,b2,hqc,by rw [S.span.1,S.span.2];exact ⟨by omega,by omega,by omega⟩,by rw [S.left];omega⟩⟩
 ·rw [h] at few hst hat;obtain ⟨⟨_,l1⟩,a1,a2,a3⟩:=hat;exact ⟨ok,by rw [S.count];have f:c.σ.count<8:=few;omega,by omega,by rw [hst];exact ⟨by rw [S.left];omega,by rw [S.dist];exact a1,by rw [S.dist,S.qc,List.length_drop];omega,hqc⟩⟩
 ·rw [h] at few hst;exact ⟨ok,by rw [S.count];exact few.2.1,by omega,by rw [hst];trivial⟩
 ·rw [h] at few hst;exact ⟨ok,by rw [S.count];have f:=few.2.1;omega,by omega,by rw [hst];trivial⟩
 ·rw [h] at few hst;have f:c.σ.count%8=0∧c.σ.count<=8:=few;exact ⟨ok,by rw [S.count];omega,by omega,by rw [hst];trivial⟩
theorem Sn.turn{q:Quo}{D:Nat}{s:ByteArray}{x:MS}{c:Cf}(N:Sn q D s x c):Out q D s c x.advance:=by
 have hst:=N.st;rcases St.cases24 N.sm.wf.st with h | h | h | h | h | h | h | h | h | h | h | h | h | h | h | h | h | h | h | h | h | h | h | h
 ·rw [show x.advance=x.h1 by unfold MS.advance;simp only [hst,h]];exact jgq N h
 ·rw [show x.advance=x.h2 by unfold MS.advance;simp only [hst,h]];exact vkw N h
 ·rw [show x.advance=x.h3 by unfold MS.advance;simp only [hst,h]];exact vk5 N h
 ·rw [show x.advance=x.h4 by unfold MS.advance;simp only [hst,h]];exact z57 N h
 ·rw [show x.advance=x.h5 by unfold MS.advance;simp only [hst,h]];exact yj0 N h
 ·rw [show x.advance=x.h6 by unfold MS.advance;simp only [hst,h]];exact x1o N h
 ·rw [show x.advance=x.b7 by unfold MS.advance;simp only [hst,h]];exact j1k N h
 ·rw [show x.advance=x.b8 by unfold MS.advance;simp only [hst,h]];exact xr3 N h
 ·rw [show x.advance=x.b9 by unfold MS.advance;simp only [hst,h]];exact x0v N h
 ·rw [show x.advance=x.o10 by unfold MS.advance;simp only [hst,h]];exact ken N h
 ·rw [show x.advance=x.o11 by unfold MS.advance;simp only [hst,h]];exact jjs N h
 ·rw [show x.advance=x.o12 by unfold MS.advance;simp only [hst,h]];exact y7i N h
 ·rw [show x.advance=x.o13 by unfold MS.advance;simp only [hst,h]];exact z6i N h
 ·rw [show x.advance=x.r14 by unfold MS.advance;simp only [hst,h]];exact ke9 N h
 ·rw [show x.advance=x.r15 by unfold MS.advance;simp only [hst,h]];exact vqi N h
 ·rw [show x.advance=x.c16 by unfold MS.advance;simp only [hst,h]];exact xcf N h
 ·rw [show x.advance=x.c17 by unfold MS.advance;simp only [hst,h]];exact va8 N h
 ·rw [show x.advance=x.c18 by unfold MS.advance;simp only [hst,h]];exact jak N h
 ·rw [show x.advance=x.c19 by unfold MS.advance;simp only [hst,h]];exact yhc N h
 ·rw [show x.advance=x.c20 by unfold MS.advance;simp only [hst,h]];exact xgw N h
 ·rw [show x.advance=x.c21 by unfold MS.advance;simp only [hst,h]];exact ks1 N h
 ·rw [show x.advance=x.e22 by unfold MS.advance;simp only [hst,h]];exact xwk N h
 ·rw [show x.advance=x.e23 by unfold MS.advance;simp only [hst,h]];exact kt5 N h
 ·rw [show x.advance=x.e24 by unfold MS.advance;simp only [hst,h]];exact v1u N h
theorem MS.need_eight{x:MS}(h:x.count=0):MS.need 8 x=match x.rest with | []=>(x,1) | b :: l=>if x.sp<=x.tk+x.pu then x.refuse 16 else (x.fed b l,0):=by
 cases e:x.rest with
 | nil=>exact MS.need_nil' (by omega) e
 | cons b l=>
  rw [MS.need_cons' (by omega) e];by_cases hs:x.sp<=x.tk+x.pu
  ·rw [if_pos hs];exact (if_pos hs).symm
  ·rw [if_neg hs,MS.need_done' (by show 8<=x.count+8;omega)];exact (if_neg hs).symm
theorem k6r{x:MS}(h0:x.fm=0)(hm:x.marks=0):MS.h1 x=({ x with st:=7 },0):=by
 unfold MS.h1 MS.passFixed;rw [if_pos h0,xd7];unfold MS.h2 MS.passFixed;rw [if_pos (show ({ x with st:=2 }:MS).fm=0 from h0),xd7];unfold MS.h3 MS.passMarks;rw [if_neg (show ¬ x.fm=2 by omega),xd7];unfold MS.h4 MS.passText;rw [if_pos (show x.marks / 1%2=0 by rw [hm]),xd7];unfold MS.h5 MS.passText;rw [if_pos (show x.marks / 2%2=0 by rw [hm]),xd7];unfold MS.h6 MS.passCheck;rw [if_pos (show x.marks / 4%2=0 by rw [hm]),xd7]
def j7o(y:MS):MS:={ y with mb:=y.mb+1,marks:=0,head:=0,hsum:=0,sx:=1,sy:=0,size:=0,qc:=[],st:=1 }
theorem vjq{x y:MS}(h:MS.need 8 x=(y,0))(hm:¬ y.mb=y.me):MS.h0 x=MS.h1 (j7o y):=by
 unfold MS.h0 MS.beginMember;rw [xa2,h,xd7,if_neg hm];rfl
theorem jq4{q:Quo}{D:Nat}{s:ByteArray}{x:MS}{c:Cf}(S:Sm q D s x c)(hst:x.st=0)(hmb:x.mb=0)(hc:c=Cf.begin c.σ.fmt c.σ.mem c.σ.lim):OutS q D s x c (MS.h0 x):=by
 have hpre:c.pre=[]:=by rw [hc];rfl
 have houts:c.outs=[]:=by rw [hc];rfl
 have hstarts:c.starts=[0]:=by rw [hc];rfl
 have hcnt:c.σ.count=0:=by rw [hc];rfl
 have hom:c.σ.om=[]:=by rw [hc];rfl
 have hmk:c.σ.marks=0:=by rw [hc];rfl
 have hhm:c.σ.hmany=0:=by rw [hc];rfl
 have hhs:c.σ.hsum=0:=by rw [hc];rfl
 have hs0:c.σ.st=if c.σ.fmt=0 then 6 else 0:=by have:c.σ=St.begin c.σ.fmt c.σ.mem c.σ.lim:=congrArg Cf.σ hc;rw [this];rfl
 have ha:c.σ.act= .take:=by have:=((km3.begin (mem:=c.σ.mem) (lim:=c.σ.lim) S.wf.fmt).act rfl).1;rw [← hc] at this;exact this
 have hx0:x.count=0:=by rw [S.count];exact hcnt
 have hnd:=MS.need_eight hx0;have hpl:c.pre.length=0:=by rw [hpre];rfl
 by_cases hl:c.pre.length<s.size
 ·have e:x.rest=k0w s c.pre.length :: jlo s (c.pre.length+1):=by rw [S.rest];exact ypz hl
  rw [e] at hnd;by_cases hs:x.sp<=x.tk+x.pu
  ·have hnd2:MS.need 8 x=x.refuse 16:=by rw [hnd];exact if_pos hs
   have e0:MS.h0 x=x.refuse 16:=by
    unfold MS.h0 MS.beginMember;rw [hnd2];rfl
   rw [e0];refine .dead c 16 (.refl c) rfl (S.dead (by decide) (by rw [if_pos hpl];exact hmb)) (fun cl=>Halt.steps ha hl ?_);rw [← S.tk,← S.pu,← S.sp];exact hs
  ·have hs':¬ q.steps<=c.pre.length+c.outs.length:=by rw [← S.tk,← S.pu,← S.sp];exact hs
   have hnd2:MS.need 8 x=(x.fed (k0w s c.pre.length) (jlo s (c.pre.length+1)),0):=by rw [hnd];exact if_neg hs
   have S1:=S.fed ha hl hs';have st1:j3w q D s c { c with σ:=c.σ.add (k0w s c.pre.length),pre:=c.pre++[k0w s c.pre.length] }:=j3w.take c ha hl hs';have hme:¬ (x.fed (k0w s c.pre.length) (jlo s (c.pre.length+1))).mb=(x.fed (k0w s c.pre.length) (jlo s (c.pre.length+1))).me:=by
    show ¬ x.mb=x.me;rw [hmb,S.me];have:=S.mb.2;rw [hstarts] at this;have:1<=c.σ.mem:=this;omega
   rw [vjq hnd2 hme];have hmu:=(st1.mu S.wf).2;generalize hY:x.fed (k0w s c.pre.length) (jlo s (c.pre.length+1))=y at *;have hymb:y.mb=0:=by rw [← hY];exact hmb
   obtain ⟨c1,hc1⟩:∃ c1:Cf,c1={ c with σ:=c.σ.add (k0w s c.pre.length),pre:=c.pre++[k0w s c.pre.length] }:=⟨_,rfl⟩
   have hp1:0<c1.pre.length:=by rw [hc1];simp
   have k1:c1.σ.st=c.σ.st:=by rw [hc1];rfl
   have k2:c1.σ.om=[]:=by rw [hc1];exact hom
   have k3:c1.σ.marks=0:=by rw [hc1];exact hmk
   have k4:c1.σ.hmany=0:=by rw [hc1];exact hhm
   have k5:c1.σ.hsum=0:=by rw [hc1];exact hhs
   have k6:c1.starts=[0]:=by rw [hc1];exact hstarts
   have k7:c1.σ.fmt=c.σ.fmt:=by rw [hc1];rfl
   rw [← hc1] at S1 st1 hmu;clear hY hc1;have base:c1.σ.st<10->∀ n,Sm q D s { j7o y with st:=n } c1:=fun h10 n=>{ S1 with
    qc:=by show []=c1.σ.om.drop _;rw [k2];rfl
    marks:=k3.symm
    head:=⟨k4.symm,by rw [k4];exact Nat.zero_le _⟩
    hsum:=k5.symm
    sum:=fun _=>by rw [k2];rfl
    sumle:=⟨by show 1<=65520;omega,by show 0<=65520;omega⟩
    size:=by rw [k2];rfl
    nl:=fun h=>absurd h (by omega)
    nd:=fun h=>absurd h (by omega)
    told:=fun h=>absurd h (by omega)
    hs:=fun h=>absurd h (by omega)
    hk:=fun h=>absurd h (by omega)
    la:=fun h=>absurd h (by omega) }
   have hmb1:(j7o y).mb=c1.starts.length:=by rw [k6];show y.mb+1=1;omega
   by_cases hf:c.σ.fmt=0
   ·have h6:c1.σ.st=6:=by rw [k1,hs0,if_pos hf]
    rw [k6r (x:=j7o y) (by show y.fm=0;rw [S1.fm,k7];exact hf) rfl];have N1:Sn q D s { j7o y with st:=7 } c1:=⟨base (by omega) 7,by rw [h6],hmb1,hp1⟩
    refine .go c1 (v44.one st1) rfl (.run N1) ?_;unfold muS;have h2:stN x=0:=if_pos hst;have h1:stN ({ j7o y with st:=7 }:MS)=1:=rfl;rw [h1,h2];omega
   ·have h6:c1.σ.st=0:=by rw [k1,hs0,if_neg hf]
    have N1:Sn q D s (j7o y) c1:=⟨base (by omega) 1,by rw [h6];rfl,hmb1,hp1⟩
    exact (jgq N1 h6).turn S.wf (v44.one st1) (Or.inl hmu)
 ·have e:x.rest=[]:=by rw [S.rest];exact vq8 (by omega)
  rw [e] at hnd;have e0:MS.h0 x=(x,1):=by
   unfold MS.h0 MS.beginMember;rw [hnd];rfl
  rw [e0];exact .hungry c (.refl c) rfl (.fresh S hst hmb hc) ha (by omega)
theorem znv{q:Quo}{D:Nat}{s:ByteArray}{x:MS}{c:Cf}(S:Sm q D s x c)(hst:x.st=0)(hmb:x.mb=c.starts.length)(h23:c.σ.st=23)(hf:c.σ.fmt=2)(hcnt:c.σ.count=8)(hp:0<c.pre.length):OutS q D s x c (MS.h0 x):=by
 have hnd:MS.need 8 x=(x,0):=MS.need_done' (by rw [S.count];omega);have hact:c.σ.act=if c.σ.mem<=c.σ.begun then .fail 6 else .tau { c.σ with st:=0,om:=[],hsum:=0,hmany:=0,marks:=0,begun:=c.σ.begun+1 }:=by
  rw [St.act_at h23];show St.need c.σ 8 _=_;unfold St.need;rw [if_neg (by omega),if_neg (by simp [hf])]
 have hbg:=S.mb;have hme:x.mb=x.me↔c.σ.mem<=c.σ.begun:=by rw [S.me,hmb];omega
 by_cases h1:c.σ.mem<=c.σ.begun
 ·rw [if_pos h1] at hact;have e0:MS.h0 x=x.refuse 6:=by
   unfold MS.h0 MS.beginMember;rw [xa2,hnd,xd7,if_pos (hme.2 h1)];rfl
  rw [e0];exact .dead c 6 (.refl c) rfl (S.dead (by decide) (by rw [if_neg (by omega)];exact hmb)) (fun cl=>Halt.fail 6 hact)
 ·rw [if_neg h1] at hact;rw [vjq hnd (fun h=>h1 (hme.1 h))];have st1:=j3w.tau (q:=q) (D:=D) (s:=s) c _ hact;rw [if_pos h23] at st1;obtain ⟨W1,hmu⟩:=st1.mu S.wf;have N1:Sn q D s (j7o x) { c with σ:={ c.σ with st:=0,om:=[],hsum:=0,hmany:=0,marks:=0,begun:=c.σ.begun+1 },starts:=c.starts++[c.pre.length - 1] }:=⟨{ S with
    wf:=W1
    qc:=by show ([]:List Nat)=List.drop _ [];simp
    marks:=rfl
    head:=⟨rfl,Nat.zero_le _⟩
    hsum:=rfl
    sum:=fun _=>rfl
    sumle:=⟨by show 1<=65520;omega,by show 0<=65520;omega⟩
    size:=by show 0=([]:List Nat).length%65536;simp
    nl:=fun h=>absurd h (show ¬ (10<=0∧0<=14) by decide)
    nd:=fun h=>absurd h (show ¬ (11<=0∧0<=14) by decide)
    told:=fun h=>absurd h (show ¬ (12<=0∧0<=14) by decide)
    hs:=fun h=>absurd h (show ¬ (13<=0∧0<=14) by decide)
    hk:=fun h=>absurd h (show ¬ (0=14) by decide)
    la:=fun h=>absurd h (show ¬ (15<=0∧0<=20) by decide)
    mb:=⟨by show c.σ.begun+1=(c.starts++[_]).length;rw [List.length_append,List.length_singleton];omega,by show (c.starts++[_]).length<=c.σ.mem;rw [List.length_append,List.length_singleton];omega⟩ },rfl,by show x.mb+1=(c.starts++[_]).length;rw [List.length_append,List.length_singleton,hmb],hp⟩
  exact (jgq N1 rfl).turn S.wf (v44.one st1) (Or.inl hmu)
theorem yvw.turn{q:Quo}{D:Nat}{s:ByteArray}{x:MS}{c:Cf}(h:yvw q D s x c):OutS q D s x c x.advance:=by
 have e0:x.st=0->x.advance=MS.h0 x:=fun h=>by unfold MS.advance;simp only [h]
 cases h with
 | run N=>exact N.turn.turn N.sm.wf (.refl c) (Or.inr ⟨rfl,by rw [N.st];omega⟩)
 | fresh S h1 h2 h3=>rw [e0 h1];exact jq4 S h1 h2 h3
 | between S h1 h2 h3 h4 h5 h6=>rw [e0 h1];exact znv S h1 h2 h3 h4 h5 h6
theorem yvw.pre_{q:Quo}{D:Nat}{s:ByteArray}{x:MS}{c:Cf}(h:yvw q D s x c)(L:Lim q c.σ.mem c.σ.lim):Pre x:=by
 have ok:=h.ok L;cases h with
 | run N=>exact N.pre_ L
 | fresh S h1 h2 h3=>
  have hc:x.count=0:=by rw [S.count,h3];rfl
  exact ⟨ok,by omega,by omega,by rw [h1];exact ⟨ok,Or.inl hc⟩⟩
 | between S h1 h2 h3 h4 h5 h6=>
  have hc:x.count=8:=by rw [S.count];exact h5
  exact ⟨ok,by omega,by omega,by rw [h1];exact ⟨ok,Or.inr hc⟩⟩
theorem v44.lims{q:Quo}{D:Nat}{s:ByteArray}{a b:Cf}(h:v44 q D s a b):St.Wf a.σ->b.σ.mem=a.σ.mem∧b.σ.lim=a.σ.lim∧b.σ.fmt=a.σ.fmt:=by
 induction h with
 | refl=>exact fun _=>⟨rfl,rfl,rfl⟩
 | step a b c h1 _ ih=>
  intro W;have N:=St.next W;obtain ⟨W1,_⟩:=h1.mu W;obtain ⟨e1,e2,e3⟩:=ih W1;have e:b.σ.mem=a.σ.mem∧b.σ.lim=a.σ.lim∧b.σ.fmt=a.σ.fmt:=by
   cases h1 with
   | take g1 g2 g3=>exact ⟨rfl,rfl,rfl⟩
   | put y σ' g1 g2 g3=>rw [g1] at N;exact ⟨N.2.2.2.2.1,N.2.2.2.2.2,N.2.2.2.1⟩
   | tau σ' g1=>rw [g1] at N;exact ⟨N.2.2.2.1,N.2.2.2.2.1,N.2.2.1⟩
  exact ⟨e1.trans e.1,e2.trans e.2.1,e3.trans e.2.2⟩
inductive EndS(q:Quo)(D:Nat)(s:ByteArray)(c:Cf)(r:MS×Nat):Prop
 | hungry (c':Cf):v44 q D s c c'->r.2=1->yvw q D s r.1 c'->c'.σ.act= .take->s.size<=c'.pre.length->EndS q D s c r
 | full (c':Cf) (b:Nat) (σ':St):v44 q D s c c'->r.2=2->yvw q D s r.1 c'->c'.σ.act= .put b σ'->D+64<=c'.outs.length->EndS q D s c r
 | dead (c':Cf) (e:Nat):v44 q D s c c'->r.2=3->Dead q r.1 c' e->Stop q D s c' e->EndS q D s c r
theorem EndS.after{q:Quo}{D:Nat}{s:ByteArray}{c c1:Cf}{r:MS×Nat}(h:EndS q D s c1 r)(st:v44 q D s c c1):EndS q D s c r:=by
 cases h with
 | hungry c' h1 h2 h3 h4 h5=>exact .hungry c' (st.trans h1) h2 h3 h4 h5
 | full c' b σ' h1 h2 h3 h4 h5=>exact .full c' b σ' (st.trans h1) h2 h3 h4 h5
 | dead c' e h1 h2 h3 h4=>exact .dead c' e (st.trans h1) h2 h3 h4
theorem j49{q:Quo}{D:Nat}{s:ByteArray}(m:Nat):∀ {x:MS} {c:Cf},muS s x c<=m->yvw q D s x c->Lim q c.σ.mem c.σ.lim->∃ n r,vgc n x r∧EndS q D s c r:=by
 induction m with
 | zero=>
  intro x c hm H L;have P:=H.pre_ L;have T:=H.turn;cases T with
  | go c' h1 h2 h3 h4=>omega
  | hungry c' h1 h2 h3 h4 h5=>exact ⟨0,_, .stop x P (by omega), .hungry c' h1 h2 h3 h4 h5⟩
  | full c' b σ' h1 h2 h3 h4 h5=>exact ⟨0,_, .stop x P (by omega), .full c' b σ' h1 h2 h3 h4 h5⟩
  | dead c' e h1 h2 h3 h4=>exact ⟨0,_, .stop x P (by omega), .dead c' e h1 h2 h3 h4⟩
 | succ m ih=>
  intro x c hm H L;have P:=H.pre_ L;have T:=H.turn;cases T with
  | go c' h1 h2 h3 h4=>
   have e:=h1.lims H.sm.wf;obtain ⟨n,r,R,E⟩:=ih (by omega) h3 (by rw [e.1,e.2.1];exact L);exact ⟨n+1,r, .go n x r P h2 R,E.after h1⟩
  | hungry c' h1 h2 h3 h4 h5=>exact ⟨0,_, .stop x P (by omega), .hungry c' h1 h2 h3 h4 h5⟩
  | full c' b σ' h1 h2 h3 h4 h5=>exact ⟨0,_, .stop x P (by omega), .full c' b σ' h1 h2 h3 h4 h5⟩
  | dead c' e h1 h2 h3 h4=>exact ⟨0,_, .stop x P (by omega), .dead c' e h1 h2 h3 h4⟩
theorem yvw.runs{q:Quo}{D:Nat}{s:ByteArray}{x:MS}{c:Cf}(h:yvw q D s x c)(L:Lim q c.σ.mem c.σ.lim):∃ n r,vgc n x r∧EndS q D s c r:=j49 _ (Nat.le_refl _) h L
open Go.RowKit
def MS.fresh(fm ou ra sl me he sp:Nat):MS:={ fm:=fm,ou:=ou,ra:=ra,sl:=sl,me:=me,he:=he,sp:=sp,st:=0,er:=0,tk:=0,pu:=0,mb:=0,held:=0,count:=0,marks:=0,head:=0,hsum:=0,sx:=0,sy:=0,size:=0,last:=false,left:=0,nl:=0,nd:=0,told:=0,hlen:=0,hbef:=false,hleast:=0,hbits:=0,lit:=0,least:=0,bits:=0,dist:=0,rest:=[],qa:=[],qc:=[],hl:=[],row:=[],hs:=[],la:=[],lb:=[] }
theorem yys(cs:Array Value)(h:cs.size=7):(Tryz.prog.info? 42).map (·.size)=some cs.size:=by rw [h];kernel_rfl
theorem kec(n:Int)(w:World):Calls Tryz.prog 49 #[.int .i64 n] w fun e w'=>e= .returned (Cfg.val ⟨n,9223372036854775807,0,9223372036854775807,9223372036854775807,9223372036854775807,9223372036854775807⟩)∧Below w.heap.size w w':=by
 unfold Cfg.val;go_enter Tryz.func49,Tryz.ntmps49
 go_wp2_with fail
 refine bodyPost_ret (v:= .agg #[.int .i64 n, .int .i64 9223372036854775807, .int .i64 0, .int .i64 9223372036854775807, .int .i64 9223372036854775807, .int .i64 9223372036854775807, .int .i64 9223372036854775807]) ?_ rfl ?_
 ·exact results_cell_row Tryz.results49 _ _ _ 42 _ _ _ rfl (heap_alloc_new _ _) Tryz.underlying42 rfl (yys _ rfl)
 ·exact ⟨rfl,(Below.refl _ _).alloc (Nat.le_refl _) _⟩
structure CfgB(w W:World)(G fm ou ra sl me he sp:Nat):Prop where
 cs:W.cell? ⟨G,0,none⟩=some (.int .i64 fm)∧W.cell? ⟨G,1,none⟩=some (.int .i64 ou)∧W.cell? ⟨G,2,none⟩=some (.int .i64 ra)∧W.cell? ⟨G,3,none⟩=some (.int .i64 sl)∧W.cell? ⟨G,4,none⟩=some (.int .i64 me)∧W.cell? ⟨G,5,none⟩=some (.int .i64 he)∧W.cell? ⟨G,6,none⟩=some (.int .i64 sp)
 bel:Below w.heap.size w W
 lt:G<W.heap.size
theorem CfgB.step{w W W':World}{G fm ou ra sl me he sp:Nat}(h:CfgB w W G fm ou ra sl me he sp)(f:Below W.heap.size W W'):CfgB w W' G fm ou ra sl me he sp:=by
 obtain ⟨⟨c0,c1,c2,c3,c4,c5,c6⟩,b,l⟩:=h;have k:∀ i,W'.cell? ⟨G,i,none⟩=W.cell? ⟨G,i,none⟩:=fun i=>f.cell l
 exact ⟨⟨by rw [k];exact c0,by rw [k];exact c1,by rw [k];exact c2,by rw [k];exact c3,by rw [k];exact c4,by rw [k];exact c5,by rw [k];exact c6⟩,b.trans (f.mono b.size),Nat.lt_of_lt_of_le l f.size⟩
theorem CfgB.made(w:World)(fm ou ra sl me he sp:Nat):CfgB w (w.alloc (.cells #[.int .i64 fm, .int .i64 ou, .int .i64 ra, .int .i64 sl, .int .i64 me, .int .i64 he, .int .i64 sp] 42)) w.heap.size fm ou ra sl me he sp:=by
 have h:=heap_alloc_new w (.cells #[.int .i64 fm, .int .i64 ou, .int .i64 ra, .int .i64 sl, .int .i64 me, .int .i64 he, .int .i64 sp] 42);refine ⟨⟨?_,?_,?_,?_,?_,?_,?_⟩,(Below.refl _ _).alloc (Nat.le_refl _) _,by simp⟩ <;> (rw [cell_of_row _ _ _ _ _ _ h];rfl)
theorem RgI.below'{w w':World}{r c N o:Nat}{f:Nat->Nat}{q:List Nat}(h:RgI w r c N o f q)(b:Below w.heap.size w w'):RgI w' r c N o f q:=h.kp (R:=fun _=>False) (ρ:=fun _=>0) (Kp.of_below b) (fun e=>e) (fun e=>e)
theorem xi1{w:World}{g i:Nat}(h:g<w.heap.size)(o:Obj):(w.alloc o).cell? ⟨g,i,none⟩=w.cell? ⟨g,i,none⟩:=by
 unfold World.cell?;rw [Go.heap_alloc_old _ _ h]
theorem kaz{w w2:World}{fm ou ra sl me he sp a b c d:Nat}(hs:w.heap.size<=a∧w.heap.size<=b)(h2:a<c∧a<d∧b<c∧b<d)(h3:a<w2.heap.size∧b<w2.heap.size∧c<w2.heap.size∧d<w2.heap.size)(I1:RgI w2 a b 64 0 (fun _=>0) [])(I2:RgI w2 c d 256 0 (fun _=>0) [])(hb:Below w.heap.size w w2) :
  ∃ ρ,MQ ρ (w2.alloc (.cells (k7n (MS.fresh fm ou ra sl me he sp) ⟨a,b,c,d, .slice none 0 0,0, .slice none 0 0, .pointer none, .slice none 0 0, .pointer none, .pointer none⟩).toArray 132)) w2.heap.size (MS.fresh fm ou ra sl me he sp)∧(∀ k,ρ k≠0->w.heap.size<=k):=by
 have n1:=I1.ne;have n2:=I2.ne;obtain ⟨ρ,hρ⟩:∃ ρ:Nat->Nat,ρ=fun k=>if k=w2.heap.size then 1 else if k=a then 2 else if k=b then 3 else if k=c then 4 else if k=d then 5 else 0:=⟨_,rfl⟩
 have e0:ρ w2.heap.size=1:=by rw [hρ];simp
 have e1:ρ a=2:=by rw [hρ];simp;omega
 have e2:ρ b=3:=by
  rw [hρ];show (if b=w2.heap.size then 1 else if b=a then 2 else if b=b then 3 else _)=3;rw [if_neg (by omega),if_neg (Ne.symm n1),if_pos rfl]
 have e3:ρ c=4:=by
  rw [hρ];show (if c=w2.heap.size then 1 else if c=a then 2 else if c=b then 3 else if c=c then 4 else _)=4;rw [if_neg (by omega),if_neg (by omega),if_neg (by omega),if_pos rfl]
 have e4:ρ d=5:=by
  rw [hρ];show (if d=w2.heap.size then 1 else if d=a then 2 else if d=b then 3 else if d=c then 4 else if d=d then 5 else 0)=5;rw [if_neg (by omega),if_neg (by omega),if_neg (by omega),if_neg (Ne.symm n2),if_pos rfl]
 have hz:∀ k,ρ k≠0->k=w2.heap.size∨k=a∨k=b∨k=c∨k=d:=fun k hk=>by
  apply Classical.byContradiction;intro hn;apply hk;rw [hρ];show (if k=w2.heap.size then 1 else if k=a then 2 else if k=b then 3 else if k=c then 4 else if k=d then 5 else 0)=0;rw [if_neg (by omega),if_neg (by omega),if_neg (by omega),if_neg (by omega),if_neg (by omega)]
 have ba:∀ o,Below w2.heap.size w2 (w2.alloc o):=fun o=>(Below.refl _ _).alloc (Nat.le_refl _) o
 have hsz:=hb.size;refine ⟨ρ,⟨⟨a,b,c,d, .slice none 0 0,0, .slice none 0 0, .pointer none, .slice none 0 0, .pointer none, .pointer none⟩,⟨?_,⟨0,_,I1.below' (ba _)⟩,⟨0,_,I2.below' (ba _)⟩,e0,e1,e2,e3,e4⟩,⟨SupI.nil_ _ _,⟨OI.nil _ _,fun g hg=>by cases hg⟩,⟨OI.nil _ _,fun g hg=>by cases hg⟩,Or.inl rfl,Or.inl rfl,Or.inl rfl,fun k hk=>?_⟩,rfl,rfl⟩,fun k hk=>?_⟩
 ·refine World.rowIs_alloc w2 _ 132 _ fun i hi=>?_
  have hi':i<(k7n (MS.fresh fm ou ra sl me he sp) ⟨a,b,c,d, .slice none 0 0,0, .slice none 0 0, .pointer none, .slice none 0 0, .pointer none, .pointer none⟩).length:=by simpa using hi
  unfold lrow;rw [List.getElem?_toArray,List.getD_eq_getElem?_getD,List.getElem?_eq_getElem hi'];rfl
 ·have:=hz k hk;simp;omega
 ·have:=hz k hk;omega
theorem j54(fm ou ra sl me he sp:Nat)(w:World):Calls Tryz.prog 46 #[Cfg.val ⟨fm,ou,ra,sl,me,he,sp⟩] w fun e w'=>∃ p ρ,e= .returned (.pointer (some ⟨p,0,none⟩))∧MQ ρ w' p (MS.fresh fm ou ra sl me he sp)∧(∀ k,ρ k≠0->w.heap.size<=k)∧Below w.heap.size w w':=by
 unfold Cfg.val;go_enter Tryz.func46,Tryz.ntmps46
 go_wp2_with fail
 have HT:Hid (CfgB w (w.alloc (.cells #[.int .i64 fm, .int .i64 ou, .int .i64 ra, .int .i64 sl, .int .i64 me, .int .i64 he, .int .i64 sp] 42)) w.heap.size fm ou ra sl me he sp):=CfgB.made w fm ou ra sl me he sp;generalize (w.alloc (.cells #[.int .i64 fm, .int .i64 ou, .int .i64 ra, .int .i64 sl, .int .i64 me, .int .i64 he, .int .i64 sp] 42))=W at *;obtain ⟨G,hG⟩:∃ G,G=w.heap.size:=⟨_,rfl⟩
 rw [← hG] at HT ⊢;have HG:Hid (G=w.heap.size):=hG;clear hG;obtain ⟨c0,c1,c2,c3,c4,c5,c6⟩:=HT.out.cs;go_region_held3 (fun wv=>wv.cell? ⟨G,0,none⟩=some (.int .i64 fm)∧wv.cell? ⟨G,1,none⟩=some (.int .i64 ou)∧wv.cell? ⟨G,2,none⟩=some (.int .i64 ra)∧wv.cell? ⟨G,3,none⟩=some (.int .i64 sl)∧wv.cell? ⟨G,4,none⟩=some (.int .i64 me)∧wv.cell? ⟨G,5,none⟩=some (.int .i64 he)∧wv.cell? ⟨G,6,none⟩=some (.int .i64 sp)) (first | exact ⟨c0,c1,c2,c3,c4,c5,c6⟩ | exact ⟨d0,d1,d2,d3,d4,d5,d6⟩ | exact ⟨f0,f1,f2,f3,f4,f5,f6⟩ | exact ⟨(xi1 hGl _).trans f0,(xi1 hGl _).trans f1,(xi1 hGl _).trans f2,(xi1 hGl _).trans f3,(xi1 hGl _).trans f4,(xi1 hGl _).trans f5,(xi1 hGl _).trans f6⟩)
  (first
   | (go_at_call 74;refine (joa 64 _ (by decide) (by decide)).mono ?_;rintro e w1 ⟨r1,q1,rfl,I1,a1,b1,k1⟩;have H1:Hid (CfgB w w1 G fm ou ra sl me he sp∧RgI w1 r1 q1 64 0 (fun _=>0) []∧W.heap.size<=r1∧W.heap.size<=q1∧W.heap.size<=w1.heap.size):=⟨HT.out.step ⟨k1.os,k1.tape,k1.output,k1.size,k1.block⟩,I1,a1,b1,k1.size⟩;obtain ⟨d0,d1,d2,d3,d4,d5,d6⟩:=H1.out.1.cs;clear I1 a1 b1 k1)
   | (go_at_call 74;refine (joa 256 _ (by decide) (by decide)).mono ?_;rintro e w2 ⟨r2,q2,rfl,I2,a2,b2,k2⟩;have H2:Hid (CfgB w w2 G fm ou ra sl me he sp∧RgI w2 r2 q2 256 0 (fun _=>0) []∧w1.heap.size<=r2∧w1.heap.size<=q2∧Below w1.heap.size w1 w2):=⟨H1.out.1.step k2,I2,a2,b2,k2⟩;obtain ⟨f0,f1,f2,f3,f4,f5,f6⟩:=H2.out.1.cs;have hGl:=H2.out.1.lt;clear I2 a2 b2 k2))
 all_goals
  go_wp2_with fail
  go_ret
  have g1:=H1.out;have g2:=H2.out;have hl1:=g1.2.1.row.lt;have hl2:=g1.2.1.cells.lt;have hl3:=g2.2.1.row.lt;have hl4:=g2.2.1.cells.lt;have hsz:=g2.2.2.2.2.size;have hWl:=HT.out.lt;have hGw:=HG.out;obtain ⟨ρ,M,hk⟩:=kaz (w:=w) (w2:=w2) (fm:=fm) (ou:=ou) (ra:=ra) (sl:=sl) (me:=me) (he:=he) (sp:=sp) (a:=r1) (b:=q1) (c:=r2) (d:=q2) ⟨by omega,by omega⟩ ⟨by omega,by omega,by omega,by omega⟩ ⟨by omega,by omega,by omega,by omega⟩ (g1.2.1.below' g2.2.2.2.2) g2.2.1 g2.1.bel;exact ⟨_,ρ,rfl,M,hk,g2.1.bel.alloc (by have:=g2.1.bel.size;omega) _⟩
structure BlI(B b:Nat)(p v:Value)(l:List Nat)(w:World):Prop where
 le:B<=b
 at_:w.rowIs b 106 2 (lrow [p,v])
 own:w.ownsRow B 5 1 v l.length (keg l)
 ne:v.ownBlock≠some b
 self:p= .pointer none∨p= .pointer (some ⟨b,0,none⟩)
theorem BlI.lt{B b:Nat}{p v:Value}{l:List Nat}{w:World}(h:BlI B b p v l w):b<w.heap.size:=h.at_.lt
theorem BlI.cell0{B b:Nat}{p v:Value}{l:List Nat}{w:World}(h:BlI B b p v l w):w.cell? ⟨b,0,none⟩=some p:=h.at_.cell (i:=0) (by omega)
theorem BlI.cell1{B b:Nat}{p v:Value}{l:List Nat}{w:World}(h:BlI B b p v l w):w.cell? ⟨b,1,none⟩=some v:=h.at_.cell (i:=1) (by omega)
theorem BlI.frozen{B b:Nat}{p v:Value}{l:List Nat}{w:World}(h:BlI B b p v l w)(i:Nat):w.frozen? ⟨b,i,none⟩=false:=h.at_.frozen i
theorem vp1:(Tryz.prog.info? 106).map (·.size)=some 2:=by kernel_rfl
theorem jex:liesAt Tryz.prog Tryz.prog.depth 106 (2 / Tryz.prog.cellsOf 106) 0 106 1=true:=by kernel_rfl
theorem yuq:Tryz.prog.cellsOf 5=1:=by kernel_rfl
theorem BlI.shape{B b:Nat}{p v:Value}{l:List Nat}{w:World}(h:BlI B b p v l w):w.shape? b=some (106,2):=by
 obtain ⟨cs,h1,h2,_⟩:=h.at_;simp [World.shape?,h1,h2]
theorem BlI.used{B b:Nat}{p v:Value}{l:List Nat}{w:World}(h:BlI B b p v l w):BlI B b (.pointer (some ⟨b,0,none⟩)) v l (w.setCell ⟨b,0,none⟩ (.pointer (some ⟨b,0,none⟩))):=by
 refine ⟨h.le,?_,?_,h.ne,Or.inr rfl⟩
 ·exact ypd h.at_ 0 _ rfl
 ·exact kcz h.own (R:=fun k=>k=b) (ρ:=fun k=>k) (Kp.of_set w ⟨b,0,none⟩ _ rfl) (fun g hg e=>h.ne (by rw [hg];exact congrArg some e))
theorem y1a{B b:Nat}{p v:Value}{l:List Nat}{w:World}(h:BlI B b p v l w):Calls Tryz.prog 77 #[.pointer (some ⟨b,0,none⟩)] w fun e w'=>e= .returned (.tuple #[])∧BlI B b (.pointer (some ⟨b,0,none⟩)) v l w'∧(w'=w∨w'=w.setCell ⟨b,0,none⟩ (.pointer (some ⟨b,0,none⟩))):=by
 obtain ⟨j,hj,hjs⟩:=Option.map_eq_some_iff.1 vp1;have c0:=h.cell0;have z0:=h.frozen 0;have hsh:=h.shape;have HB:Hid (BlI B b p v l w):=h;have hs:=h.self;clear h;rcases hs with rfl | rfl
 ·go_enter Tryz.func77,Tryz.ntmps77
  go_wp2_with fail
  rw [Lib.run_to_unsafe w ⟨b,0,none⟩ Tryz.underlying104 Tryz.underlying191 hj (by rw [hjs];decide) hsh (Nat.zero_lt_succ 1)];simp only [Result.andThen];rw [Oper.upon_value];go_wp2_with fail
  rw [run_callFunc_extern Tryz.func107 (by kernel_rfl) (by kernel_rfl) (by kernel_rfl) (e:=Extern.AbiNoEscape.same) (by kernel_rfl)];rw [Lib.run_noEscape];simp only [Result.andThen];rw [Oper.upon_value];go_wp2_with fail
  rw [Lib.run_from_unsafe w ⟨b,0,none⟩ Tryz.underlying191 Tryz.underlying104 hj hsh jex];simp only [Result.andThen];rw [Oper.upon_value];go_wp2_with fail
  go_end0
  exact ⟨rfl,HB.out.used,Or.inr rfl⟩
 ·go_enter Tryz.func77,Tryz.ntmps77
  go_wp2_with fail
  rw [Lib.run_neq_ptr_same w _ Tryz.underlying104 hj];go_wp2_with fail
  go_end0
  exact ⟨rfl,HB.out,Or.inl rfl⟩
structure BFr(b:Nat)(o:Option Nat)(w w':World):Prop where
 size:w.heap.size<=w'.heap.size
 block:∀ k,k<w.heap.size->k≠b->o≠some k->w'.heap[k]?=w.heap[k]?
 os:w'.os=w.os
 tape:w'.tape=w.tape
 output:w'.output=w.output
def WrE(B b:Nat)(v:Value)(l news:List Nat)(w:World)(e:Ending)(w':World):Prop:=
 ∃ v',e= .returned (.tuple #[.int .i64 news.length, .nilIface])∧BlI B b (.pointer (some ⟨b,0,none⟩)) v' (l++news) w'∧(v'.ownBlock=v.ownBlock∨v'.ownBlock=some w.heap.size)∧BFr b v.ownBlock w w'
theorem vt5{w:World}{g m:Nat}{news:List Nat}(h:w.rowIs g 5 m (fun j=> .int .u8 (news.getD j 0:Nat)))(hm:news.length=m):∀ j u,(keg news)[j]?=some u->w.cell? (Addr.add ⟨g,0,none⟩ j)=some u:=fun j u hu=>by
 have hj:j<m:=by have:=(List.getElem?_eq_some_iff.1 hu).1;simp [keg] at this;omega
 have e1:Addr.add ⟨g,0,none⟩ j=⟨g,j,none⟩:=by unfold Addr.add;by_cases hj0:j=0 <;> simp [hj0]
 rw [e1,h.cell hj];unfold keg at hu;rw [List.getElem?_map,List.getElem?_eq_getElem (by omega)] at hu;rw [← hu];simp [List.getD_eq_getElem?_getD,List.getElem?_eq_getElem (show j<news.length by omega)]
theorem x4f{B b:Nat}{p v:Value}{l news:List Nat}{w:World}{g m:Nat}(h:BlI B b p v l w)(hB:B<=w.heap.size)(hr:w.rowIs g 5 m (fun j=> .int .u8 (news.getD j 0:Nat)))(hm:news.length=m)(hgb:g≠b)(hlen:l.length+m<=10000000000000) :
  Calls Tryz.prog 51 #[.pointer (some ⟨b,0,none⟩), .slice (some ⟨g,0,none⟩) m m] w fun e w'=>WrE B b v l news w e w':=by
 have HB:Hid (BlI B b p v l w∧w.rowIs g 5 m (fun j=> .int .u8 (news.getD j 0:Nat))):=⟨h,hr⟩
 clear h hr;obtain ⟨i5,hi5,hx0,hx1,hx2⟩:=info_parts kh5;go_enter Tryz.func51,Tryz.ntmps51
 go_wp2_with fail
 refine (y1a HB.out.1).mono ?_;rintro e w1 ⟨rfl,I1,hw1⟩;have HF1:Hid (BFr b none w w1∧w1.rowIs g 5 m (fun j=> .int .u8 (news.getD j 0:Nat))∧w1.heap.size=w.heap.size):=by
  rcases hw1 with rfl | rfl
  ·exact ⟨⟨Nat.le_refl _,fun _ _ _ _=>rfl,rfl,rfl,rfl⟩,HB.out.2,rfl⟩
  ·exact ⟨⟨by simp,fun k _ hk _=>Below.heap_setCell _ _ _ _ hk,rfl,rfl,rfl⟩,HB.out.2.setOther (a:=⟨b,0,none⟩) hgb _,by simp⟩
 clear hw1;obtain ⟨v',w2,hrun,hown,hgrow,_,hat⟩:=run_append_own_at (P:=Tryz.prog) w1 B 34 34 5 i5 (.int .u8 0) 1 1 Tryz.underlying34 hi5 hx0 hx1 hx2 rfl (by decide) v l.length (keg l) I1.own ⟨g,0,none⟩ m m (keg news) (by simp [keg,hm]) (vt5 HF1.out.2.1 hm) (fun u hu=>by unfold keg at hu;obtain ⟨x,_,rfl⟩:=List.mem_map.1 hu;rfl) (by unfold maxLen;omega) (by omega) (by rw [HF1.out.2.2];exact hB);have c1:=I1.cell1;have hb1:=I1.lt;have hbk:w2.heap[b]?=w1.heap[b]?:=hgrow.block b hb1 (fun e=>I1.ne e.symm);have hI2:w2.rowIs b 106 2 (lrow [.pointer (some ⟨b,0,none⟩),v]):=I1.at_.of_block hbk;have hv'b:v'.ownBlock≠some b:=by
  rcases hat with e | e
  ·rw [e];exact I1.ne
  ·rw [e];intro e2;injection e2 with e2;omega
 have HN:Hid (BlI B b (.pointer (some ⟨b,0,none⟩)) v' (l++news) (w2.setCell ⟨b,1,none⟩ v')∧(v'.ownBlock=v.ownBlock∨v'.ownBlock=some w.heap.size)∧BFr b v.ownBlock w (w2.setCell ⟨b,1,none⟩ v')):=by
  refine ⟨⟨I1.le,ypd hI2 1 v' rfl,?_,hv'b,Or.inr rfl⟩,?_,?_⟩
  ·have e1:(l++news).length=l.length+m:=by rw [List.length_append,hm]
   rw [e1,show keg (l++news)=keg l++keg news by simp [keg]];exact kcz hown (R:=fun k=>k=b) (ρ:=fun k=>k) (Kp.of_set w2 ⟨b,1,none⟩ _ rfl) (fun g hg e=>hv'b (by rw [hg];exact congrArg some e))
  ·rw [← HF1.out.2.2];exact hat
  ·refine ⟨by rw [← HF1.out.2.2];simpa using hgrow.size,fun k hk hkb hkv=>?_,hgrow.os.trans HF1.out.1.os,hgrow.tape.trans HF1.out.1.tape,hgrow.output.trans HF1.out.1.output⟩;rw [Below.heap_setCell _ _ _ _ hkb,hgrow.block k (by rw [HF1.out.2.2];exact hk) (Ne.symm hkv)];exact HF1.out.1.block k hk hkb (by simp)
 have d1:w2.cell? ⟨b,1,none⟩=some v:=hI2.cell (i:=1) (by omega);have z1:w2.frozen? ⟨b,1,none⟩=false:=hI2.frozen 1;obtain ⟨ao,n',cap',rfl⟩:∃ ao n' cap,v'= .slice ao n' cap:=by
  rcases hown.2 with ⟨hv,_⟩ | ⟨g,cap,cur,hv,_⟩
  ·exact ⟨_,_,_,hv⟩
  ·exact ⟨_,_,_,hv⟩
 clear hI2 hbk I1 hat hgrow hown hv'b;go_wp2_with (at_builtin;refine Lib.wpList_append_run w1 rfl _ _ 34 34 rfl _ _ rfl rfl _ w2 hrun ?_)
 go_ret2
 exact ⟨_,by rw [hm];rfl,HN.out⟩
end Go.Proofs.YtbcjmakpempkiaaGreatDoor
