import Derived.Test.YtbcjmakpempkiaaGreatDoorX23
set_option maxRecDepth 100000
set_option maxHeartbeats 8000000
set_option linter.all false
namespace Go.Proofs.YtbcjmakpempkiaaGreatDoor
def jlo(s:ByteArray)(i:Nat):List Nat:=(strN s).drop i
theorem ksn(s:ByteArray):(strN s).length=s.size:=by unfold strN;rw [List.length_map];rfl
theorem xul(s:ByteArray)(i:Nat)(h:i<s.size):(strN s)[i]?=some (k0w s i):=by
 have h':i<s.data.size:=h;simp [strN,k0w,List.getD_eq_getElem?_getD];exact ⟨s.data[i],by simp [h'],by rw [Array.getElem?_eq_getElem h'];rfl⟩
theorem ypz{s:ByteArray}{i:Nat}(h:i<s.size):jlo s i=k0w s i :: jlo s (i+1):=by
 unfold jlo;have hl:i<(strN s).length:=by rw [ksn];exact h
 rw [List.drop_eq_getElem_cons hl];congr 1
 have:=xul s i h;rw [List.getElem?_eq_getElem hl] at this;exact Option.some.inj this
theorem vq8{s:ByteArray}{i:Nat}(h:s.size<=i):jlo s i=[]:=List.drop_eq_nil_of_le (by rw [ksn];exact h)
theorem zli(s:ByteArray)(i:Nat):(jlo s i).length=s.size - i:=by unfold jlo;rw [List.length_drop,ksn]
def sums:List Nat->Nat×Nat
 | l=>l.foldl (fun z b=>((z.1+b)%65521,(z.2+(z.1+b)%65521)%65521)) (1,0)
structure Sm(q:Quo)(D:Nat)(s:ByteArray)(x:MS)(c:Cf):Prop where
 wf:St.Wf c.σ
 fm:x.fm=c.σ.fmt
 me:x.me=c.σ.mem
 he:x.he=c.σ.lim
 ou:x.ou=q.out
 ra:x.ra=q.ratio
 sl:x.sl=q.slack
 sp:x.sp=q.steps
 er:x.er=0
 tk:x.tk=c.pre.length
 pu:x.pu=c.outs.length
 rest:x.rest=jlo s c.pre.length
 le:c.pre.length<=s.size
 held:x.held=c.σ.held
 count:x.count=c.σ.count
 qa:x.qa=c.outs.drop D
 dle:D<=c.outs.length∧c.outs.length<=D+64
 qc:x.qc=c.σ.om.drop (c.σ.om.length - 256)
 marks:x.marks=c.σ.marks
 head:x.head=c.σ.hmany∧c.σ.hmany<=c.σ.lim
 hsum:x.hsum=c.σ.hsum
 sum:x.st≠0->(x.sx,x.sy)=sums c.σ.om
 sumle:x.sx<=65520∧x.sy<=65520
 stp:c.pre.length+c.outs.length<=q.steps
 size:x.size=c.σ.om.length%65536
 last:x.last=c.σ.last
 left:x.left=c.σ.left
 nl:10<=c.σ.st∧c.σ.st<=14->x.nl=c.σ.nl
 nd:11<=c.σ.st∧c.σ.st<=14->x.nd=c.σ.nd
 told:12<=c.σ.st∧c.σ.st<=14->x.told=c.σ.told
 hl:x.hl=c.σ.hl
 row:x.row=c.σ.row
 hs:13<=c.σ.st∧c.σ.st<=14->x.hs=c.σ.hs
 hk:c.σ.st=14->x.hlen=(if c.σ.hk=12∨c.σ.hk=13∨c.σ.hk=14 then 0 else c.σ.hk)∧x.hbef=decide (c.σ.hk=12)∧x.hleast=hleast c.σ.hk∧x.hbits=hbits c.σ.hk
 la:15<=c.σ.st∧c.σ.st<=20->x.la=c.σ.la∧x.lb=c.σ.lb
 lit:x.lit=c.σ.lit
 span:x.least=c.σ.least∧x.bits=c.σ.bits
 dist:x.dist=c.σ.dist
 mb:c.σ.begun=c.starts.length∧c.starts.length<=c.σ.mem
structure Sn(q:Quo)(D:Nat)(s:ByteArray)(x:MS)(c:Cf):Prop where
 sm:Sm q D s x c
 st:x.st=c.σ.st+1
 mb:x.mb=c.starts.length
 pre:0<c.pre.length
structure Dead(q:Quo)(x:MS)(c:Cf)(e:Nat):Prop where
 er:x.er=e
 ne:e≠0
 tk:x.tk=c.pre.length
 pu:x.pu=c.outs.length
 qa:x.qa=[]
 mb:x.mb=if c.pre.length=0 then 0 else c.starts.length
def muC(s:ByteArray)(c:Cf):Nat:=1000*(s.size - c.pre.length)+St.phi c.σ
theorem j3w.mu{q:Quo}{D:Nat}{s:ByteArray}{a b:Cf}(W:St.Wf a.σ)(h:j3w q D s a b):St.Wf b.σ∧muC s b<muC s a:=by
 have N:=St.next W;cases h with
 | take h1 h2 h3=>
  rw [h1] at N;have W':=N _ (z5g s a.pre.length);refine ⟨W',?_⟩;unfold muC;show 1000*(s.size - (a.pre++[_]).length)+St.phi (a.σ.add _)<_;rw [List.length_append,List.length_singleton];have h4:=St.loc_lt W';unfold St.phi;show _+(100*(a.σ.count+8)+St.loc (a.σ.add _).st (a.σ.add _))<_;omega
 | put y σ' h1 h2 h3=>rw [h1] at N;exact ⟨N.1,by unfold muC;have:=N.2.2.1;show 1000*(s.size - a.pre.length)+St.phi σ'<_;omega⟩
 | tau σ' h1=>rw [h1] at N;exact ⟨N.1,by unfold muC;have:=N.2.1;show 1000*(s.size - a.pre.length)+St.phi σ'<_;omega⟩
theorem v44.mu{q:Quo}{D:Nat}{s:ByteArray}{a b:Cf}(h:v44 q D s a b):St.Wf a.σ->St.Wf b.σ∧muC s b<=muC s a:=by
 induction h with
 | refl=>exact fun W=>⟨W,Nat.le_refl _⟩
 | step a b c h1 _ ih=>
  intro W;obtain ⟨W1,l1⟩:=h1.mu W;obtain ⟨W2,l2⟩:=ih W1;exact ⟨W2,by omega⟩
def Stop(q:Quo)(D:Nat)(s:ByteArray)(c:Cf)(e:Nat):Prop:=∀ cl,Halt q D s cl c e none
inductive Out(q:Quo)(D:Nat)(s:ByteArray)(c:Cf)(r:MS×Nat):Prop
 | go (c':Cf):v44 q D s c c'->r.2=0->Sn q D s r.1 c'->muC s c'<muC s c->Out q D s c r
 | between (c':Cf):v44 q D s c c'->r.2=0->Sm q D s r.1 c'->r.1.st=0->r.1.mb=c'.starts.length->c'.σ.st=23->c'.σ.fmt=2->c'.σ.count=8->0<c'.pre.length->Out q D s c r
 | hungry (c':Cf):v44 q D s c c'->r.2=1->Sn q D s r.1 c'->c'.σ.act= .take->s.size<=c'.pre.length->Out q D s c r
 | full (c':Cf) (b:Nat) (σ':St):v44 q D s c c'->r.2=2->Sn q D s r.1 c'->c'.σ.act= .put b σ'->D+64<=c'.outs.length->Out q D s c r
 | dead (c':Cf) (e:Nat):v44 q D s c c'->r.2=3->Dead q r.1 c' e->Stop q D s c' e->Out q D s c r
theorem Out.after{q:Quo}{D:Nat}{s:ByteArray}{c c1:Cf}{r:MS×Nat}(h:Out q D s c1 r)(st:v44 q D s c c1)(W:St.Wf c.σ):Out q D s c r:=by
 have l:=(st.mu W).2;cases h with
 | go c' h1 h2 h3 h4=>exact .go c' (st.trans h1) h2 h3 (by omega)
 | between c' h1 h2 h3 h4 h5 h6 h7 h8 h9=>exact .between c' (st.trans h1) h2 h3 h4 h5 h6 h7 h8 h9
 | hungry c' h1 h2 h3 h4 h5=>exact .hungry c' (st.trans h1) h2 h3 h4 h5
 | full c' b σ' h1 h2 h3 h4 h5=>exact .full c' b σ' (st.trans h1) h2 h3 h4 h5
 | dead c' e h1 h2 h3 h4=>exact .dead c' e (st.trans h1) h2 h3 h4
def xkr(k:Nat)(σ:St):Prop:=∀ h c,σ.count<=c->h%2^σ.count=σ.held->h<2^c->c<k->({ σ with held:=h,count:=c }:St).act= .take
structure Fed(c c':Cf):Prop where
 σ:c'.σ={ c.σ with held:=c'.σ.held,count:=c'.σ.count }
 outs:c'.outs=c.outs
 ats:c'.ats=c.ats
 starts:c'.starts=c.starts
 cnt:c.σ.count<=c'.σ.count
 mod:c'.σ.held%2^c.σ.count=c.σ.held
 pre:c.pre.length<=c'.pre.length
 tot:8*c'.pre.length+c.σ.count=8*c.pre.length+c'.σ.count
theorem Fed.refl{c:Cf}(W:St.Wf c.σ):Fed c c:=⟨rfl,rfl,rfl,rfl,Nat.le_refl _,Nat.mod_eq_of_lt W.held,Nat.le_refl _,rfl⟩
theorem Sm.fed{q:Quo}{D:Nat}{s:ByteArray}{x:MS}{c:Cf}(S:Sm q D s x c)(ha:c.σ.act= .take)(hl:c.pre.length<s.size)(hs:¬ q.steps<=c.pre.length+c.outs.length):Sm q D s (x.fed (k0w s c.pre.length) (jlo s (c.pre.length+1))) { c with σ:=c.σ.add (k0w s c.pre.length),pre:=c.pre++[k0w s c.pre.length] }:=by
 have N:=St.next S.wf;rw [ha] at N;have e:(c.pre++[k0w s c.pre.length]).length=c.pre.length+1:=by simp
 exact { S with
  wf:=N _ (z5g _ _)
  tk:=by show x.tk+1=(c.pre++[_]).length;rw [e,S.tk]
  rest:=by show jlo s (c.pre.length+1)=jlo s (c.pre++[_]).length;rw [e]
  le:=by show (c.pre++[_]).length<=s.size;rw [e];omega
  stp:=by show (c.pre++[_]).length+c.outs.length<=q.steps;rw [e];omega
  held:=by show x.held+2^x.count*_=c.σ.held+2^c.σ.count*_;rw [S.held,S.count]
  count:=by show x.count+8=c.σ.count+8;rw [S.count] }
theorem Sm.dead{q:Quo}{D:Nat}{s:ByteArray}{x:MS}{c:Cf}(S:Sm q D s x c){e:Nat}(he:e≠0)(hm:x.mb=if c.pre.length=0 then 0 else c.starts.length):Dead q (x.refuse e).1 c e:=⟨rfl,he,S.tk,S.pu,rfl,hm⟩
structure ylw(q:Quo)(D:Nat)(s:ByteArray)(k:Nat)(x:MS)(c:Cf)(y:MS)(c':Cf):Prop where
 steps:v44 q D s c c'
 fed:Fed c c'
 sm:Sm q D s y c'
 st:y.st=x.st
 mb:y.mb=x.mb
 res:(MS.need k x=(y,0)∧k<=c'.σ.count∧(c.σ.count<k->c.pre.length<c'.pre.length)∧(k<=c.σ.count->c'=c))∨(MS.need k x=(y,1)∧c'.σ.act= .take∧s.size<=c'.pre.length)∨(MS.need k x=y.refuse 16∧Stop q D s c' 16)
theorem xy4{h a b c:Nat}(hh:h%2^(c+8)=a+2^c*b)(ha:a<2^c):h%2^c=a:=by
 have h1:h%2^(c+8)%2^c=h%2^c:=Nat.mod_mod_of_dvd h (Nat.pow_dvd_pow 2 (by omega));rw [← h1,hh,Nat.add_mul_mod_self_left,Nat.mod_eq_of_lt ha]
theorem xkr.add{k:Nat}{σ:St}(h:xkr k σ)(W:St.Wf σ)(b:Nat):xkr k (σ.add b):=fun H C hc hm hl hk=>
 h H C (by have:σ.count+8<=C:=hc;omega) (xy4 (show H%2^(σ.count+8)=σ.held+2^σ.count*b from hm) W.held) hl hk
theorem Fed.step{a b c:Cf}{s:ByteArray}(h:Fed { a with σ:=a.σ.add (k0w s a.pre.length),pre:=a.pre++[k0w s a.pre.length] } c)(W:St.Wf a.σ):Fed a c:=by
 obtain ⟨h1,h2,h3,h4,h5,h6,h7,h8⟩:=h;refine ⟨by rw [h1];rfl,h2,h3,h4,?_,?_,?_,?_⟩
 ·have:a.σ.count+8<=c.σ.count:=h5;omega
 ·exact xy4 h6 W.held
 ·have:(a.pre++[k0w s a.pre.length]).length<=c.pre.length:=h7;simp at this;omega
 ·have h9:8*c.pre.length+(a.σ.count+8)=8*(a.pre++[k0w s a.pre.length]).length+c.σ.count:=h8;simp at h9;omega
theorem MS.need_done'{k:Nat}{x:MS}(h:k<=x.count):MS.need k x=(x,0):=by
 unfold MS.need;cases x.rest with
 | nil=>unfold MS.needL;rw [if_pos h]
 | cons b l=>unfold MS.needL;rw [if_pos h]
theorem MS.need_nil'{k:Nat}{x:MS}(h:¬ k<=x.count)(e:x.rest=[]):MS.need k x=(x,1):=by
 unfold MS.need;rw [e];show (if k<=x.count then _ else _)=_;rw [if_neg h]
theorem MS.need_cons'{k:Nat}{x:MS}{b:Nat}{l:List Nat}(h:¬ k<=x.count)(e:x.rest=b :: l):MS.need k x=if x.sp<=x.tk+x.pu then x.refuse 16 else MS.need k (x.fed b l):=by
 unfold MS.need;rw [e];show (if k<=x.count then _ else _)=_;rw [if_neg h];rfl
theorem yc2{q:Quo}{D:Nat}{s:ByteArray}{k:Nat}(n:Nat):∀ {x:MS} {c:Cf},s.size - c.pre.length<=n->Sm q D s x c->xkr k c.σ->∃ y c',ylw q D s k x c y c':=by
 induction n with
 | zero=>
  intro x c hn S A;by_cases h:k<=x.count
  ·exact ⟨x,c, .refl c,Fed.refl S.wf,S,rfl,rfl,Or.inl ⟨MS.need_done' h,by rw [← S.count];exact h,fun hc=>by have:=S.count;omega,fun _=>rfl⟩⟩
  ·have ha:c.σ.act= .take:=A c.σ.held c.σ.count (Nat.le_refl _) (Nat.mod_eq_of_lt S.wf.held) S.wf.held (by have:=S.count;omega);have hle:=S.le;exact ⟨x,c, .refl c,Fed.refl S.wf,S,rfl,rfl,Or.inr (Or.inl ⟨MS.need_nil' h (by rw [S.rest];exact vq8 (by omega)),ha,by omega⟩)⟩
 | succ n ih=>
  intro x c hn S A;by_cases h:k<=x.count
  ·exact ⟨x,c, .refl c,Fed.refl S.wf,S,rfl,rfl,Or.inl ⟨MS.need_done' h,by rw [← S.count];exact h,fun hc=>by have:=S.count;omega,fun _=>rfl⟩⟩
  ·have ha:c.σ.act= .take:=A c.σ.held c.σ.count (Nat.le_refl _) (Nat.mod_eq_of_lt S.wf.held) S.wf.held (by have:=S.count;omega);by_cases hl:c.pre.length<s.size
   ·have e:x.rest=k0w s c.pre.length :: jlo s (c.pre.length+1):=by rw [S.rest];exact ypz hl
    by_cases hs:x.sp<=x.tk+x.pu
    ·refine ⟨x,c, .refl c,Fed.refl S.wf,S,rfl,rfl,Or.inr (Or.inr ⟨by rw [MS.need_cons' h e,if_pos hs],fun cl=>?_⟩)⟩;exact Halt.steps ha hl (by rw [← S.tk,← S.pu,← S.sp];exact hs)
    ·have S1:=S.fed ha hl (by rw [← S.tk,← S.pu,← S.sp];exact hs);obtain ⟨y,c',N⟩:=ih (x:=x.fed (k0w s c.pre.length) (jlo s (c.pre.length+1))) (c:={ c with σ:=c.σ.add (k0w s c.pre.length),pre:=c.pre++[k0w s c.pre.length] }) (by show s.size - (c.pre++[_]).length<=n;simp;omega) S1 (A.add S.wf _);have st1:j3w q D s c { c with σ:=c.σ.add (k0w s c.pre.length),pre:=c.pre++[k0w s c.pre.length] }:=j3w.take c ha hl (by rw [← S.tk,← S.pu,← S.sp];exact hs);have eN:MS.need k x=MS.need k (x.fed (k0w s c.pre.length) (jlo s (c.pre.length+1))):=by rw [MS.need_cons' h e,if_neg hs]
     have hp:c.pre.length<c'.pre.length:=by have:=N.fed.pre;have:(c.pre++[k0w s c.pre.length]).length<=c'.pre.length:=this;simp at this;omega
     refine ⟨y,c',(v44.one st1).trans N.steps,Fed.step (b:=c') N.fed S.wf,N.sm,N.st,N.mb,?_⟩;rcases N.res with r | r | r
     ·exact Or.inl ⟨eN.trans r.1,r.2.1,fun _=>hp,fun hk=>absurd hk (by have:=S.count;omega)⟩
     ·exact Or.inr (Or.inl ⟨eN.trans r.1,r.2⟩)
     ·exact Or.inr (Or.inr ⟨eN.trans r.1,r.2⟩)
   ·have hle:=S.le;exact ⟨x,c, .refl c,Fed.refl S.wf,S,rfl,rfl,Or.inr (Or.inl ⟨MS.need_nil' h (by rw [S.rest];exact vq8 (by omega)),ha,by omega⟩)⟩
theorem Sm.need{q:Quo}{D:Nat}{s:ByteArray}{x:MS}{c:Cf}(S:Sm q D s x c){k:Nat}(A:xkr k c.σ):∃ y c',ylw q D s k x c y c':=yc2 _ (Nat.le_refl _) S A
theorem Sn.fed{q:Quo}{D:Nat}{s:ByteArray}{k:Nat}{x y:MS}{c c':Cf}(N:Sn q D s x c)(O:ylw q D s k x c y c'):Sn q D s y c':=⟨O.sm,by rw [O.st,N.st,O.fed.σ],by rw [O.mb,N.mb,O.fed.starts],Nat.lt_of_lt_of_le N.pre O.fed.pre⟩
theorem Sn.mbd{q:Quo}{D:Nat}{s:ByteArray}{x:MS}{c:Cf}(N:Sn q D s x c):x.mb=if c.pre.length=0 then 0 else c.starts.length:=by
 rw [if_neg (by have:=N.pre;omega)];exact N.mb
theorem j18{q:Quo}{D:Nat}{s:ByteArray}{x:MS}{c:Cf}{k:Nat}(N:Sn q D s x c)(A:xkr k c.σ)(f:MS->MS×Nat)
  (hf:∀ y c',Sn q D s y c'->Fed c c'->k<=c'.σ.count->Out q D s c' (f y)):Out q D s c (MS.andThen (MS.need k x) f):=by
 obtain ⟨y,c',O⟩:=N.sm.need A;have Y:=N.fed O;rcases O.res with ⟨e,hk,_⟩ | ⟨e,h1,h2⟩ | ⟨e,h1⟩
 ·rw [e];exact (hf y c' Y O.fed hk).after O.steps N.sm.wf
 ·rw [e];exact .hungry c' O.steps rfl Y h1 h2
 ·rw [e];exact .dead c' 16 O.steps rfl (O.sm.dead (by decide) Y.mbd) h1
theorem zyc{q:Quo}{D:Nat}{s:ByteArray}{x:MS}{c:Cf}{k:Nat}(least:Nat)(N:Sn q D s x c)(A:xkr k c.σ)(f:MS->Nat->MS×Nat)
  (hf:∀ y c',Sn q D s y c'->Fed c c'->k<=c'.σ.count->Out q D s c' (f (y.rd k) (least+y.num k))):Out q D s c (MS.symThen (x.spanR least k) f):=by
 obtain ⟨y,c',O⟩:=N.sm.need A;have Y:=N.fed O;unfold MS.spanR;rcases O.res with ⟨e,hk,_⟩ | ⟨e,h1,h2⟩ | ⟨e,h1⟩
 ·rw [e];exact (hf y c' Y O.fed hk).after O.steps N.sm.wf
 ·rw [e];exact .hungry c' O.steps rfl Y h1 h2
 ·rw [e];exact .dead c' 16 O.steps rfl (O.sm.dead (by decide) Y.mbd) h1
theorem xgk{q:Quo}{D:Nat}{s:ByteArray}{x:MS}{c:Cf}(N:Sn q D s x c)(A:xkr 8 c.σ)(f:MS->Nat->MS×Nat)
  (hf:∀ y c',Sn q D s y c'->Fed c c'->8<=c'.σ.count->(c.σ.count<8->c.pre.length<c'.pre.length)->Out q D s c' (if y.head=y.he then y.refuse 5 else f y.headRead (y.num 8))):Out q D s c (MS.symThen x.takeHead f):=by
 obtain ⟨y,c',O⟩:=N.sm.need A;have Y:=N.fed O;unfold MS.takeHead;rcases O.res with ⟨e,hk,hp,_⟩ | ⟨e,h1,h2⟩ | ⟨e,h1⟩
 ·rw [e];have H:=(hf y c' Y O.fed hk hp).after O.steps N.sm.wf;rw [if_neg (by simp)];by_cases h5:y.head=y.he
  ·rw [if_pos h5] at H;rw [if_pos h5];exact H
  ·rw [if_neg h5] at H;rw [if_neg h5];exact H
 ·rw [e,if_pos (by simp)];exact .hungry c' O.steps rfl Y h1 h2
 ·rw [e,if_pos (by simp [MS.refuse])];exact .dead c' 16 O.steps rfl (O.sm.dead (by decide) Y.mbd) h1
theorem vmk{q:Quo}{D:Nat}{s:ByteArray}{c:Cf}{σ':St}(ha:c.σ.act= .tau σ')(h:c.σ.st≠23):j3w q D s c { c with σ:=σ' }:=by
 have:=j3w.tau (q:=q) (D:=D) (s:=s) c σ' ha;rw [if_neg h] at this;exact this
theorem xuc{q:Quo}{D:Nat}{s:ByteArray}{c:Cf}{σ':St}{r:MS×Nat}(W:St.Wf c.σ)(ha:c.σ.act= .tau σ')(h:c.σ.st≠23)(O:Out q D s { c with σ:=σ' } r):Out q D s c r:=O.after (v44.one (vmk ha h)) W
theorem jyp{q:Quo}{D:Nat}{s:ByteArray}{c:Cf}{σ':St}{z:MS}(W:St.Wf c.σ)(ha:c.σ.act= .tau σ')(h:c.σ.st≠23)(N:Sn q D s z { c with σ:=σ' }):Out q D s c (z,0):=
 .go _ (v44.one (vmk ha h)) rfl N ((vmk (q:=q) (D:=D) (s:=s) ha h).mu W).2
theorem ja5{q:Quo}{D:Nat}{s:ByteArray}{c:Cf}{x z:MS}{e:Nat}(N:Sn q D s x c)(ha:c.σ.act= .fail e)(he:e≠0)(h1:z.tk=x.tk)(h2:z.pu=x.pu)(h3:z.mb=x.mb):Out q D s c (z.refuse e):=
 .dead c e (.refl c) rfl ⟨rfl,he,h1.trans N.sm.tk,h2.trans N.sm.pu,rfl,h3.trans N.mbd⟩ (fun _=>Halt.fail e ha)
theorem jod(l:List Nat)(b:Nat):sums (l++[b])=(((sums l).1+b)%65521,((sums l).2+((sums l).1+b)%65521)%65521):=by
 unfold sums;rw [List.foldl_append];rfl
theorem zuc{l:List Nat}{b:Nat}:MS.pushed (l.drop (l.length - 256)) b=(l++[b]).drop ((l++[b]).length - 256):=by
 unfold MS.pushed;rw [List.length_drop,List.length_append,List.length_singleton];by_cases h:256<=l.length
 ·rw [if_pos (by omega),List.tail_drop,List.drop_append_of_le_length (by omega)];rw [show l.length - 256+1=l.length+1 - 256 by omega]
 ·rw [if_neg (by omega),show l.length - 256=0 by omega,show l.length+1 - 256=0 by omega];simp
structure PutF(x:MS)(b:Nat)(q:Quo)(D:Nat)(c:Cf):Prop where
 qa:(x.putted b).qa=(c.outs++[b]).drop D
 dle:D<=(c.outs++[b]).length∧(c.outs++[b]).length<=D+64
 qc:(x.putted b).qc=(c.σ.om++[b]).drop ((c.σ.om++[b]).length - 256)
 sum:((x.putted b).sx,(x.putted b).sy)=sums (c.σ.om++[b])
 sumle:(x.putted b).sx<=65520∧(x.putted b).sy<=65520
 size:(x.putted b).size=(c.σ.om++[b]).length%65536
 pu:(x.putted b).pu=(c.outs++[b]).length
 stp:c.pre.length+(c.outs++[b]).length<=q.steps
theorem z9q{q:Quo}{D:Nat}{s:ByteArray}{x:MS}{c:Cf}{b:Nat}{σ':St}(N:Sn q D s x c)(ha:c.σ.act= .put b σ')(f:MS->MS×Nat)
  (hf:PutF x b q D c->Out q D s { c with σ:=σ',outs:=c.outs++[b],ats:=c.ats++[c.pre.length] } (f (x.putted b))):Out q D s c (MS.andThen (x.put b) f):=by
 have S:=N.sm;have hql:x.qa.length=c.outs.length - D:=by rw [S.qa,List.length_drop]
 have hpe:x.putE=vcn q c.pre.length c.outs.length:=by unfold MS.putE vcn;rw [S.tk,S.pu,S.sp,S.ou,S.ra,S.sl]
 have hd:=S.dle;unfold MS.put;by_cases h1:x.qa.length=64
 ·rw [if_pos h1];exact .full c b σ' (.refl c) rfl N ha (by omega)
 ·rw [if_neg h1];by_cases h2:x.putE=0
  ·rw [if_neg (by omega)];have h3:vcn q c.pre.length c.outs.length=0:=by rw [← hpe];exact h2
   have st:j3w q D s c { c with σ:=σ',outs:=c.outs++[b],ats:=c.ats++[c.pre.length] }:=j3w.put c b σ' ha (by omega) h3;refine (hf ?_).after (v44.one st) S.wf;have hst0:x.st≠0:=by rw [N.st];omega
   have hsm:=S.sum hst0;have hs1:x.sx=(sums c.σ.om).1:=by rw [← hsm]
   have hs2:x.sy=(sums c.σ.om).2:=by rw [← hsm]
   refine ⟨?_,?_,?_,?_,?_,?_,?_,?_⟩
   ·show x.qa++[b]=_;rw [S.qa,List.drop_append_of_le_length hd.1]
   ·rw [List.length_append,List.length_singleton];omega
   ·show MS.pushed x.qc b=_;rw [S.qc,zuc]
   ·rw [jod,← hs1,← hs2];rfl
   ·refine ⟨?_,?_⟩
    ·show (x.sx+b)%65521<=65520;omega
    ·show (x.sy+(x.sx+b)%65521)%65521<=65520;omega
   ·show (x.size+1)%65536=_;rw [S.size,List.length_append,List.length_singleton];omega
   ·show x.pu+1=_;rw [S.pu,List.length_append,List.length_singleton]
   ·rw [List.length_append,List.length_singleton];unfold vcn at h3;by_cases h4:q.steps<=c.pre.length+c.outs.length
    ·rw [if_pos h4] at h3;omega
    ·omega
  ·rw [if_pos h2];have h3:vcn q c.pre.length c.outs.length≠0:=by rw [← hpe];exact h2
   refine .dead c _ (.refl c) rfl (S.dead h2 N.mbd) (fun cl=>?_);rw [hpe];exact Halt.quota b σ' ha (by omega) h3
def ScI(l:List Int)(σ:St)(r n code:Nat):Prop:=n<=σ.count+1∧1<=n∧∀ h C,σ.count<=C->h%2^σ.count=σ.held->h<2^C->jcs l h C=scan l r n code (h / 2^(n - 1)) (C - (n - 1))
theorem ScI.start(l:List Int)(σ:St):ScI l σ (lng l 12) 1 0:=⟨by omega,Nat.le_refl _,fun h C _ _ _=>by show scan l (lng l 12) 1 0 h C=_;simp⟩
theorem kx6{h H c n:Nat}(hm:h%2^c=H)(hn:1<=n∧n<=c):h / 2^(n - 1)%2=H / 2^(n - 1)%2:=by
 subst hm;have e:2^c=2^(n - 1)*2^(c - (n - 1)):=by rw [← Nat.pow_add];congr 1;omega
 rw [e,Nat.mod_mul_right_div_self];have e2:2 ∣ 2^(c - (n - 1)):=by
  rw [show c - (n - 1)=(c - n)+1 by omega,Nat.pow_succ];exact Nat.dvd_mul_left _ _
 rw [Nat.mod_mod_of_dvd _ e2]
theorem ScI.next{l:List Int}{σ τ:St}{r n code:Nat}(I:ScI l σ (r+1) n code)(hc:σ.count<=τ.count)(hm:τ.held%2^σ.count=σ.held)(hn:n<=τ.count)(hf:¬ 0<=find (rset l) n ((2*code+τ.held / 2^(n - 1)%2:Nat):Int)) :
  ScI l τ r (n+1) (2*code+τ.held / 2^(n - 1)%2):=by
 obtain ⟨i1,i2,i3⟩:=I;refine ⟨by omega,by omega,fun h C h1 h2 h3=>?_⟩;have hmod:h%2^σ.count=σ.held:=by
  rw [← hm,← h2,Nat.mod_mod_of_dvd _ (Nat.pow_dvd_pow 2 hc)]
 rw [i3 h C (by omega) hmod h3,scan,if_neg (by omega),kx6 h2 ⟨i2,hn⟩,if_neg hf];congr 1
 ·rw [Nat.div_div_eq_div_mul];congr 1
  rw [← Nat.pow_succ];congr 1;omega
 ·omega
theorem kgv{q:Quo}{D:Nat}{s:ByteArray}{l:List Int}{g:St->Nat->Act}(f:MS->Nat->MS×Nat){c0:Cf}(r:Nat):∀ (n code:Nat) (x:MS) (c:Cf),Sn q D s x c->Fed c0 c->ScI l c.σ r n code->(∀ h C,({ c.σ with held:=h,count:=C }:St).act=({ c.σ with held:=h,count:=C }:St).symbol l g)->
  (∀ y c' k m,Sn q D s y c'->Fed c0 c'->jcs l c'.σ.held c'.σ.count= .hit k m->Out q D s c' (f (y.rd m) k))->Out q D s c (MS.symThen (MS.symL l r n code x) f):=by
 induction r with
 | zero=>
  intro n code x c N F I hA hf;have ha:c.σ.act= .fail 11:=by
   have h1:=hA c.σ.held c.σ.count;have h2:({ c.σ with held:=c.σ.held,count:=c.σ.count }:St)=c.σ:=rfl;rw [h2] at h1;rw [h1];unfold St.symbol;rw [I.2.2 c.σ.held c.σ.count (Nat.le_refl _) (Nat.mod_eq_of_lt N.sm.wf.held) N.sm.wf.held];rfl
  show Out q D s c ((x.refuse 11).1,3);exact ja5 (z:=x) N ha (by decide) rfl rfl rfl
 | succ r ih=>
  intro n code x c N F I hA hf;have A:xkr n c.σ:=fun h C h1 h2 h3 h4=>by
   rw [hA h C];show (match jcs l h C with | .hit k m=>_ | .more=>Act.take | .none=>_)=Act.take;rw [I.2.2 h C h1 h2 h3,scan,if_pos (by omega)]
  obtain ⟨y,c',O⟩:=N.sm.need A;have Y:=N.fed O;have eσ:=O.fed.σ;rw [MS.symL];rcases O.res with ⟨e,hk,_⟩ | ⟨e,h1,h2⟩ | ⟨e,h1⟩
  ·rw [e];have F':Fed c0 c':=⟨by rw [O.fed.σ,F.σ],O.fed.outs.trans F.outs,O.fed.ats.trans F.ats,O.fed.starts.trans F.starts,Nat.le_trans F.cnt O.fed.cnt,by rw [← F.mod,← O.fed.mod,Nat.mod_mod_of_dvd _ (Nat.pow_dvd_pow 2 F.cnt)],Nat.le_trans F.pre O.fed.pre,by have a:=F.tot;have b:=O.fed.tot;omega⟩
   rw [if_neg (by simp)];have hh:y.held=c'.σ.held:=O.sm.held;have hsc:=I.2.2 c'.σ.held c'.σ.count O.fed.cnt O.fed.mod O.sm.wf.held;have hn1:=I.2.1;rw [scan,if_neg (by omega)] at hsc;show Out q D s c (MS.symThen (if 0<=find (rset l) n ((2*code+y.held / 2^(n - 1)%2:Nat):Int) then _ else _) f);rw [hh];by_cases hfd:0<=find (rset l) n ((2*code+c'.σ.held / 2^(n - 1)%2:Nat):Int)
   ·rw [if_pos hfd] at hsc ⊢;exact (hf y c' _ _ Y F' hsc).after O.steps N.sm.wf
   ·rw [if_neg hfd];have hA':∀ h C,({ c'.σ with held:=h,count:=C }:St).act=({ c'.σ with held:=h,count:=C }:St).symbol l g:=fun h C=>by rw [eσ];exact hA h C
    exact (ih (n+1) _ y c' Y F' (I.next O.fed.cnt O.fed.mod hk hfd) hA' hf).after O.steps N.sm.wf
  ·rw [e,if_pos (by simp)];exact .hungry c' O.steps rfl Y h1 h2
  ·rw [e,if_pos (by simp [MS.refuse])];exact .dead c' 16 O.steps rfl (O.sm.dead (by decide) Y.mbd) h1
theorem y82{q:Quo}{D:Nat}{s:ByteArray}{l:List Int}{g:St->Nat->Act}{x:MS}{c:Cf}(N:Sn q D s x c)(hA:∀ h C,({ c.σ with held:=h,count:=C }:St).act=({ c.σ with held:=h,count:=C }:St).symbol l g)(f:MS->Nat->MS×Nat)
  (hf:∀ y c' k m,Sn q D s y c'->Fed c c'->jcs l c'.σ.held c'.σ.count= .hit k m->Out q D s c' (f (y.rd m) k)):Out q D s c (MS.symThen (x.sym l) f):=by
 unfold MS.sym;rw [vux];exact kgv f _ 1 0 x c N (Fed.refl N.sm.wf) (ScI.start l c.σ) hA hf
theorem xa2(r:MS×Nat)(f g:MS->MS×Nat):MS.andThen (MS.andThen r f) g=MS.andThen r (fun y=>MS.andThen (f y) g):=by
 unfold MS.andThen;by_cases h:r.2=0
 ·rw [if_pos h,if_pos h]
 ·rw [if_neg h,if_neg h,if_neg h]
theorem y9c(r:MS×Nat×Nat)(f:MS->Nat->MS×Nat)(g:MS->MS×Nat):MS.andThen (MS.symThen r f) g=MS.symThen r (fun y k=>MS.andThen (f y k) g):=by
 unfold MS.andThen MS.symThen;by_cases h:r.2.1=0
 ·rw [if_pos h,if_pos h]
 ·rw [if_neg h,if_neg h,if_neg h]
theorem xd7(x:MS)(g:MS->MS×Nat):MS.andThen (x,0) g=g x:=rfl
theorem zj4(x:MS)(e:Nat)(g:MS->MS×Nat):MS.andThen (x.refuse e) g=x.refuse e:=rfl
theorem Fed.st{c c':Cf}(F:Fed c c'):c'.σ.st=c.σ.st:=by rw [F.σ]
theorem Fed.fmt{c c':Cf}(F:Fed c c'):c'.σ.fmt=c.σ.fmt:=by rw [F.σ]
theorem yij{k n:Nat}{σ:St}(hst:σ.st=n)(h:∀ h c,c<k->St.actAt n { σ with held:=h,count:=c }= .take):xkr k σ:=fun H C _ _ _ hk=>by
 rw [St.act_at (show ({ σ with held:=H,count:=C }:St).st=n from hst)];exact h H C hk
theorem veo{σ σ':St}(W:St.Wf σ)(ha:σ.act= .tau σ'):St.Wf σ':=by
 have N:=St.next W;rw [ha] at N;exact N.1
theorem v1u{q:Quo}{D:Nat}{s:ByteArray}{x:MS}{c:Cf}(N:Sn q D s x c)(hst:c.σ.st=23):Out q D s c x.e24:=by
 refine j18 N (yij hst fun h C hk=>if_pos hk) _ fun y c' Y F hk=>?_
 have hst':c'.σ.st=23:=F.st.trans hst;have hc:c'.σ.count=8:=by
  have few:=Y.sm.wf.few;rw [hst'] at few;have few':c'.σ.count%8=0∧c'.σ.count<=8:=few;omega
 by_cases h2:y.fm=2
 ·rw [if_pos h2];exact .between c' (.refl c') rfl { Y.sm with sum:=fun h=>absurd rfl h } rfl Y.mb hst' (by rw [← Y.sm.fm];exact h2) hc Y.pre
 ·rw [if_neg h2];refine ja5 Y ?_ (by decide) rfl rfl rfl;rw [St.act_at hst'];show St.need c'.σ 8 _=_;unfold St.need;rw [if_neg (by omega),if_pos (by rw [← Y.sm.fm];exact h2)]
theorem kt5{q:Quo}{D:Nat}{s:ByteArray}{x:MS}{c:Cf}(N:Sn q D s x c)(hst:c.σ.st=22):Out q D s c x.e23:=by
 unfold MS.e23 MS.passSize;by_cases h2:x.fm=2
 ·have hf2:c.σ.fmt=2:=by rw [← N.sm.fm];exact h2
  rw [if_pos h2,xa2];refine j18 N (yij hst fun h C hk=>by simp only [St.actAt];rw [if_pos hf2];exact if_pos hk) _ fun y c' Y F hk=>?_
  have hst':c'.σ.st=22:=F.st.trans hst;have hact:c'.σ.act=if c'.σ.num 16=c'.σ.om.length%65536 then .tau { c'.σ.rd 16 with st:=23 } else .fail 13:=by
   rw [St.act_at hst'];simp only [St.actAt,St.need];rw [if_pos (F.fmt.trans hf2),if_neg (by omega)]
  have en:y.num 16=c'.σ.num 16:=by unfold MS.num St.num;rw [Y.sm.held]
  by_cases h3:y.num 16=y.size
  ·rw [if_pos h3,xd7];rw [if_pos (by rw [← en,h3,Y.sm.size])] at hact;refine xuc Y.sm.wf hact (by omega) (v1u ?_ rfl);exact ⟨{ Y.sm with
    wf:=veo Y.sm.wf hact
    sum:=fun _=>Y.sm.sum (by rw [Y.st];omega)
    held:=by show y.held / 2^16=c'.σ.held / 2^16;rw [Y.sm.held]
    count:=by show y.count - 16=c'.σ.count - 16;rw [Y.sm.count]
    nl:=fun h=>absurd h (show ¬ (10<=23∧23<=14) by decide)
    nd:=fun h=>absurd h (show ¬ (11<=23∧23<=14) by decide)
    told:=fun h=>absurd h (show ¬ (12<=23∧23<=14) by decide)
    hs:=fun h=>absurd h (show ¬ (13<=23∧23<=14) by decide)
    hk:=fun h=>absurd h (show ¬ (23=14) by decide)
    la:=fun h=>absurd h (show ¬ (15<=23∧23<=20) by decide) },rfl,Y.mb,Y.pre⟩
  ·rw [if_neg h3,zj4];rw [if_neg (by rw [← en,← Y.sm.size];exact h3)] at hact;exact ja5 Y hact (by decide) rfl rfl rfl
 ·rw [if_neg h2,xd7];have hact:c.σ.act= .tau { c.σ with st:=23 }:=by
   rw [St.act_at hst];simp only [St.actAt];rw [if_neg (by rw [← N.sm.fm];exact h2)]
  refine xuc N.sm.wf hact (by omega) (v1u ?_ rfl);exact ⟨{ N.sm with
   wf:=veo N.sm.wf hact
   sum:=fun _=>N.sm.sum (by rw [N.st];omega)
   nl:=fun h=>absurd h (show ¬ (10<=23∧23<=14) by decide)
   nd:=fun h=>absurd h (show ¬ (11<=23∧23<=14) by decide)
   told:=fun h=>absurd h (show ¬ (12<=23∧23<=14) by decide)
   hs:=fun h=>absurd h (show ¬ (13<=23∧23<=14) by decide)
   hk:=fun h=>absurd h (show ¬ (23=14) by decide)
   la:=fun h=>absurd h (show ¬ (15<=23∧23<=20) by decide) },rfl,N.mb,N.pre⟩
theorem jct(l:List Nat):∀ k,k<=l.length->sxy (fun k=>((l.getD k 0:Nat):Int)) k=(((sums (l.take k)).1:Int),((sums (l.take k)).2:Int)):=by
 intro k;induction k with
 | zero=>intro _;rfl
 | succ k ih=>
  intro hk;have e:l.take (k+1)=l.take k++[l.getD k 0]:=by
   rw [List.take_succ,List.getD_eq_getElem?_getD,List.getElem?_eq_getElem (by omega)];rfl
  rw [e,jod,sxy,ih (by omega)];simp
theorem khr(om:List Nat):Tr.sumL om=65536*((sums om).2:Int)+(sums om).1:=by
 unfold Tr.sumL;rw [jct om om.length (Nat.le_refl _),List.take_length]
theorem xwk{q:Quo}{D:Nat}{s:ByteArray}{x:MS}{c:Cf}(N:Sn q D s x c)(hst:c.σ.st=21):Out q D s c x.e22:=by
 unfold MS.e22 MS.passSum;by_cases h2:x.fm=0
 ·rw [if_pos h2,xd7];have hact:c.σ.act= .tau { c.σ with st:=22 }:=by
   rw [St.act_at hst];simp only [St.actAt];rw [if_pos (by rw [← N.sm.fm];exact h2)]
  refine xuc N.sm.wf hact (by omega) (kt5 ?_ rfl);exact ⟨{ N.sm with
   wf:=veo N.sm.wf hact
   sum:=fun _=>N.sm.sum (by rw [N.st];omega)
   nl:=fun h=>absurd h (show ¬ (10<=22∧22<=14) by decide)
   nd:=fun h=>absurd h (show ¬ (11<=22∧22<=14) by decide)
   told:=fun h=>absurd h (show ¬ (12<=22∧22<=14) by decide)
   hs:=fun h=>absurd h (show ¬ (13<=22∧22<=14) by decide)
   hk:=fun h=>absurd h (show ¬ (22=14) by decide)
   la:=fun h=>absurd h (show ¬ (15<=22∧22<=20) by decide) },rfl,N.mb,N.pre⟩
 ·have hf2:¬ c.σ.fmt=0:=by rw [← N.sm.fm];exact h2
  rw [if_neg h2,xa2];refine j18 N (yij hst fun h C hk=>by simp only [St.actAt];rw [if_neg hf2];exact if_pos hk) _ fun y c' Y F hk=>?_
  have hst':c'.σ.st=21:=F.st.trans hst;have hact:c'.σ.act=if (big4 c'.σ.held:Int)=Tr.sumL c'.σ.om then .tau { c'.σ.rd 32 with st:=22 } else .fail 12:=by
   rw [St.act_at hst'];simp only [St.actAt,St.need];rw [if_neg (by rw [F.fmt];exact hf2),if_neg (by omega)]
  have hsm:=Y.sm.sum (by rw [Y.st];omega);have hs1:y.sx=(sums c'.σ.om).1:=by rw [← hsm]
  have hs2:y.sy=(sums c'.σ.om).2:=by rw [← hsm]
  have en:big4 y.held=65536*y.sy+y.sx↔(big4 c'.σ.held:Int)=Tr.sumL c'.σ.om:=by
   rw [khr,Y.sm.held,hs1,hs2];omega
  by_cases h3:big4 y.held=65536*y.sy+y.sx
  ·rw [if_pos h3,xd7];rw [if_pos (en.1 h3)] at hact;refine xuc Y.sm.wf hact (by omega) (kt5 ?_ rfl);exact ⟨{ Y.sm with
    wf:=veo Y.sm.wf hact
    sum:=fun _=>Y.sm.sum (by rw [Y.st];omega)
    held:=by show y.held / 2^32=c'.σ.held / 2^32;rw [Y.sm.held]
    count:=by show y.count - 32=c'.σ.count - 32;rw [Y.sm.count]
    nl:=fun h=>absurd h (show ¬ (10<=22∧22<=14) by decide)
    nd:=fun h=>absurd h (show ¬ (11<=22∧22<=14) by decide)
    told:=fun h=>absurd h (show ¬ (12<=22∧22<=14) by decide)
    hs:=fun h=>absurd h (show ¬ (13<=22∧22<=14) by decide)
    hk:=fun h=>absurd h (show ¬ (22=14) by decide)
    la:=fun h=>absurd h (show ¬ (15<=22∧22<=20) by decide) },rfl,Y.mb,Y.pre⟩
  ·rw [if_neg h3,zj4];rw [if_neg (fun h=>h3 (en.2 h))] at hact;exact ja5 Y hact (by decide) rfl rfl rfl
theorem sim_end{q:Quo}{D:Nat}{s:ByteArray}{x:MS}{c:Cf}(N:Sn q D s x c)(σ0:St)(y:MS)(h0:σ0={ c.σ with held:=σ0.held,count:=σ0.count })(hy:y={ x with held:=σ0.held,count:=σ0.count })(hact:c.σ.act=σ0.endBlock)(h23:c.σ.st≠23)(hh:σ0.held<2^σ0.count):Out q D s c y.endBlock:=by
 have hl:y.last=σ0.last:=by rw [hy,h0];exact N.sm.last
 unfold MS.endBlock;unfold St.endBlock at hact;by_cases h1:y.last=true
 ·rw [if_pos h1];rw [if_pos (by rw [← hl];exact h1)] at hact;unfold MS.skipBits;have en:({ y with st:=22 }:MS).num ({ y with st:=22 }:MS).count=σ0.held:=by
   show y.held%2^y.count=σ0.held;rw [hy];exact Nat.mod_eq_of_lt hh
  rw [en];by_cases h2:σ0.held=0
  ·rw [if_neg (by simp [h2])] at hact;rw [if_pos h2];refine jyp N.sm.wf hact h23 ?_
   have e1:({ y with st:=22 }:MS).rd ({ y with st:=22 }:MS).count={ x with held:=0,count:=0,st:=22 }:=by
    unfold MS.rd;rw [hy];simp [h2]
   rw [e1];rw [h0] at hact ⊢;exact ⟨{ N.sm with
    wf:=veo N.sm.wf hact
    sum:=fun _=>N.sm.sum (by rw [N.st];omega)
    held:=rfl
    count:=rfl
    nl:=fun h=>absurd h (show ¬ (10<=21∧21<=14) by decide)
    nd:=fun h=>absurd h (show ¬ (11<=21∧21<=14) by decide)
    told:=fun h=>absurd h (show ¬ (12<=21∧21<=14) by decide)
    hs:=fun h=>absurd h (show ¬ (13<=21∧21<=14) by decide)
    hk:=fun h=>absurd h (show ¬ (21=14) by decide)
    la:=fun h=>absurd h (show ¬ (15<=21∧21<=20) by decide) },rfl,N.mb,N.pre⟩
  ·rw [if_pos h2] at hact;rw [if_neg h2];exact ja5 N hact (by decide) (by rw [hy];rfl) (by rw [hy];rfl) (by rw [hy];rfl)
 ·rw [if_neg h1];rw [if_neg (by rw [← hl];exact h1)] at hact;refine jyp N.sm.wf hact h23 ?_
  rw [hy];rw [h0] at hact ⊢;exact ⟨{ N.sm with
   wf:=veo N.sm.wf hact
   sum:=fun _=>N.sm.sum (by rw [N.st];omega)
   held:=rfl
   count:=rfl
   nl:=fun h=>absurd h (show ¬ (10<=6∧6<=14) by decide)
   nd:=fun h=>absurd h (show ¬ (11<=6∧6<=14) by decide)
   told:=fun h=>absurd h (show ¬ (12<=6∧6<=14) by decide)
   hs:=fun h=>absurd h (show ¬ (13<=6∧6<=14) by decide)
   hk:=fun h=>absurd h (show ¬ (6=14) by decide)
   la:=fun h=>absurd h (show ¬ (15<=6∧6<=20) by decide) },rfl,N.mb,N.pre⟩
theorem j6i{σ σ':St}{b:Nat}(W:St.Wf σ)(ha:σ.act= .put b σ'):St.Wf σ':=by
 have N:=St.next W;rw [ha] at N;exact N.1
theorem kjh{q:Quo}{D:Nat}{s:ByteArray}{x:MS}{c:Cf}(N:Sn q D s x c):x={ x with held:=c.σ.held,count:=c.σ.count }:=by rw [← N.sm.held,← N.sm.count]
theorem Fed.left{c c':Cf}(F:Fed c c'):c'.σ.left=c.σ.left:=by rw [F.σ]
theorem y6a{q:Quo}{D:Nat}{s:ByteArray}(n:Nat):∀ {x:MS} {c:Cf},Sn q D s x c->c.σ.st=8->x.left=n->Out q D s c (MS.plainL n x):=by
 induction n with
 | zero=>
  intro x c N hst hl;have hl':c.σ.left=0:=by rw [← N.sm.left];exact hl
  refine sim_end N c.σ x rfl (kjh N) ?_ (by omega) N.sm.wf.held;rw [St.act_at hst];exact if_pos hl'
 | succ n ih=>
  intro x c N hst hl;have hl':c.σ.left=n+1:=by rw [← N.sm.left];exact hl
  refine j18 N (yij hst fun h C hk=>by simp only [St.actAt];rw [if_neg (by rw [hl'];omega)];exact if_pos hk) _ fun y c' Y F hk=>?_
  have hst':c'.σ.st=8:=F.st.trans hst;have hl2:c'.σ.left=n+1:=F.left.trans hl';have en:y.num 8=c'.σ.num 8:=by unfold MS.num St.num;rw [Y.sm.held]
  have hact:c'.σ.act= .put (y.num 8) { c'.σ.rd 8 with left:=c'.σ.left - 1,om:=c'.σ.om++[y.num 8] }:=by
   rw [St.act_at hst'];simp only [St.actAt,St.need];rw [if_neg (by omega),if_neg (by omega),en]
  refine z9q Y hact _ fun P=>ih ?_ hst' rfl
  exact ⟨{ Y.sm with
   wf:=j6i Y.sm.wf hact
   sum:=fun _=>P.sum
   held:=by show y.held / 2^8=c'.σ.held / 2^8;rw [Y.sm.held]
   count:=by show y.count - 8=c'.σ.count - 8;rw [Y.sm.count]
   pu:=P.pu
   qa:=P.qa
   dle:=P.dle
   qc:=P.qc
   sumle:=P.sumle
   size:=P.size
   stp:=P.stp
   left:=by show n=c'.σ.left - 1;omega
   nl:=fun h=>absurd h (show ¬ (10<=c'.σ.st∧c'.σ.st<=14) by omega)
   nd:=fun h=>absurd h (show ¬ (11<=c'.σ.st∧c'.σ.st<=14) by omega)
   told:=fun h=>absurd h (show ¬ (12<=c'.σ.st∧c'.σ.st<=14) by omega)
   hs:=fun h=>absurd h (show ¬ (13<=c'.σ.st∧c'.σ.st<=14) by omega)
   hk:=fun h=>absurd h (show ¬ (c'.σ.st=14) by omega)
   la:=fun h=>absurd h (show ¬ (15<=c'.σ.st∧c'.σ.st<=20) by omega) },Y.st,Y.mb,Y.pre⟩
theorem x0v{q:Quo}{D:Nat}{s:ByteArray}{x:MS}{c:Cf}(N:Sn q D s x c)(hst:c.σ.st=8):Out q D s c x.b9:=y6a x.left N hst rfl
theorem xr3{q:Quo}{D:Nat}{s:ByteArray}{x:MS}{c:Cf}(N:Sn q D s x c)(hst:c.σ.st=7):Out q D s c x.b8:=by
 refine j18 N (yij hst fun h C hk=>if_pos hk) _ fun y c' Y F hk=>?_
 have hst':c'.σ.st=7:=F.st.trans hst;have en:y.num 16=c'.σ.num 16:=by unfold MS.num St.num;rw [Y.sm.held]
 have hact:c'.σ.act=if c'.σ.held / 65536%65536=65535 - c'.σ.num 16 then .tau { c'.σ.rd 32 with left:=c'.σ.num 16,st:=8 } else .fail 9:=by
  rw [St.act_at hst'];simp only [St.actAt,St.need];rw [if_neg (by omega)]
 rw [Y.sm.held,en];by_cases h3:c'.σ.held / 65536%65536=65535 - c'.σ.num 16
 ·rw [if_pos h3] at hact ⊢;refine xuc Y.sm.wf hact (by omega) (x0v ?_ rfl);exact ⟨{ Y.sm with
   wf:=veo Y.sm.wf hact
   sum:=fun _=>Y.sm.sum (by rw [Y.st];omega)
   held:=by show y.held / 2^32=c'.σ.held / 2^32;rw [Y.sm.held]
   count:=by show y.count - 32=c'.σ.count - 32;rw [Y.sm.count]
   left:=rfl
   nl:=fun h=>absurd h (show ¬ (10<=8∧8<=14) by decide)
   nd:=fun h=>absurd h (show ¬ (11<=8∧8<=14) by decide)
   told:=fun h=>absurd h (show ¬ (12<=8∧8<=14) by decide)
   hs:=fun h=>absurd h (show ¬ (13<=8∧8<=14) by decide)
   hk:=fun h=>absurd h (show ¬ (8=14) by decide)
   la:=fun h=>absurd h (show ¬ (15<=8∧8<=20) by decide) },rfl,Y.mb,Y.pre⟩
 ·rw [if_neg h3] at hact ⊢;exact ja5 Y hact (by decide) rfl rfl rfl
theorem j1k{q:Quo}{D:Nat}{s:ByteArray}{x:MS}{c:Cf}(N:Sn q D s x c)(hst:c.σ.st=6):Out q D s c x.b7:=by
 refine j18 N (yij hst fun h C hk=>if_pos hk) _ fun y c' Y F hk=>?_
 have hst':c'.σ.st=6:=F.st.trans hst;have e1:y.num 1=c'.σ.num 1:=by unfold MS.num St.num;rw [Y.sm.held]
 have hact:c'.σ.act=c'.σ.kind:=by
  rw [St.act_at hst'];simp only [St.actAt,St.need];rw [if_neg (by omega)]
 unfold MS.kind;unfold St.kind at hact;rw [Y.sm.held];have hhd:=Y.sm.wf.held;by_cases h0:c'.σ.held / 2%4=0
 ·rw [if_pos h0] at hact ⊢;unfold MS.skipBits;have en:({ y.rd 3 with last:=y.num 1==1,st:=8 }:MS).num ({ y.rd 3 with last:=y.num 1==1,st:=8 }:MS).count=c'.σ.held / 2^3:=by
   show y.held / 2^3%2^(y.count - 3)=c'.σ.held / 2^3;rw [Y.sm.held,Y.sm.count];exact Nat.mod_eq_of_lt (St.held_rd Y.sm.wf hk)
  rw [en];by_cases h2:c'.σ.held / 2^3=0
  ·rw [if_neg (by show ¬ c'.σ.held / 2^3≠0;simp [h2])] at hact;rw [if_pos h2];refine jyp Y.sm.wf hact (by omega) ?_
   have e3:({ y.rd 3 with last:=y.num 1==1,st:=8 }:MS).rd ({ y.rd 3 with last:=y.num 1==1,st:=8 }:MS).count={ y with held:=0,count:=0,last:=y.num 1==1,st:=8 }:=by
    unfold MS.rd;simp [Y.sm.held,h2]
   rw [e3,e1];exact ⟨{ Y.sm with
    wf:=veo Y.sm.wf hact
    sum:=fun _=>Y.sm.sum (by rw [Y.st];omega)
    held:=rfl
    count:=rfl
    last:=rfl
    nl:=fun h=>absurd h (show ¬ (10<=7∧7<=14) by decide)
    nd:=fun h=>absurd h (show ¬ (11<=7∧7<=14) by decide)
    told:=fun h=>absurd h (show ¬ (12<=7∧7<=14) by decide)
    hs:=fun h=>absurd h (show ¬ (13<=7∧7<=14) by decide)
    hk:=fun h=>absurd h (show ¬ (7=14) by decide)
    la:=fun h=>absurd h (show ¬ (15<=7∧7<=20) by decide) },rfl,Y.mb,Y.pre⟩
  ·have hact2:c'.σ.act= .fail 8:=by rw [hact];exact if_pos h2
   rw [if_neg h2];exact ja5 Y hact2 (by decide) rfl rfl rfl
 ·rw [if_neg h0] at hact ⊢;by_cases h1:c'.σ.held / 2%4=1
  ·rw [if_pos h1] at hact ⊢;refine jyp Y.sm.wf hact (by omega) ?_
   rw [e1];exact ⟨{ Y.sm with
    wf:=veo Y.sm.wf hact
    sum:=fun _=>Y.sm.sum (by rw [Y.st];omega)
    held:=by show y.held / 2^3=c'.σ.held / 2^3;rw [Y.sm.held]
    count:=by show y.count - 3=c'.σ.count - 3;rw [Y.sm.count]
    last:=rfl
    nl:=fun h=>absurd h (show ¬ (10<=16∧16<=14) by decide)
    nd:=fun h=>absurd h (show ¬ (11<=16∧16<=14) by decide)
    told:=fun h=>absurd h (show ¬ (12<=16∧16<=14) by decide)
    hs:=fun h=>absurd h (show ¬ (13<=16∧16<=14) by decide)
    hk:=fun h=>absurd h (show ¬ (16=14) by decide)
    la:=fun _=>⟨rfl,rfl⟩ },rfl,Y.mb,Y.pre⟩
  ·rw [if_neg h1] at hact ⊢;by_cases h2:c'.σ.held / 2%4=2
   ·rw [if_pos h2] at hact ⊢;refine jyp Y.sm.wf hact (by omega) ?_
    rw [e1];exact ⟨{ Y.sm with
     wf:=veo Y.sm.wf hact
     sum:=fun _=>Y.sm.sum (by rw [Y.st];omega)
     held:=by show y.held / 2^3=c'.σ.held / 2^3;rw [Y.sm.held]
     count:=by show y.count - 3=c'.σ.count - 3;rw [Y.sm.count]
     last:=rfl
     nl:=fun h=>absurd h (show ¬ (10<=9∧9<=14) by decide)
     nd:=fun h=>absurd h (show ¬ (11<=9∧9<=14) by decide)
     told:=fun h=>absurd h (show ¬ (12<=9∧9<=14) by decide)
     hs:=fun h=>absurd h (show ¬ (13<=9∧9<=14) by decide)
     hk:=fun h=>absurd h (show ¬ (9=14) by decide)
     la:=fun h=>absurd h (show ¬ (15<=9∧9<=20) by decide) },rfl,Y.mb,Y.pre⟩
   ·rw [if_neg h2] at hact ⊢;exact ja5 Y hact (by decide) rfl rfl rfl
end Go.Proofs.YtbcjmakpempkiaaGreatDoor
