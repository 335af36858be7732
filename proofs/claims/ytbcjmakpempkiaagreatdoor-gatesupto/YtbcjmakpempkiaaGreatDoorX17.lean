import Derived.Test.YtbcjmakpempkiaaGreatDoorX13
set_option maxRecDepth 100000
set_option maxHeartbeats 8000000
set_option linter.all false
namespace Go.Proofs.YtbcjmakpempkiaaGreatDoor
variable {s:ByteArray} {q:Cm} {D i k:Nat} {a b c:Cf} {x:MS}
open Go.Proofs.Tryz
def Cb(s:ByteArray)(i:Nat):List Nat:=(ES s).drop i
theorem IM(s:ByteArray):(ES s).length=s.size:=by unfold ES;rw [AS];rfl
theorem eL(s:ByteArray)(i:Nat)(h:i<s.size):(ES s)[i]?=some (Bm s i):=by
 have a:i<s.data.size:=h;simp [ES,Bm,yF];exact ⟨s.data[i],by simp [a],by rw [vY a];rfl⟩
theorem OA(h:i<s.size):Cb s i=Bm s i :: Cb s (i+1):=by
 unfold Cb;have hl:i<(ES s).length:=by rw [IM];exact h
 rw [BY hl];congr 1
 have:=eL s i h;rw [xR hl] at this;exact xE this
theorem JF(h:s.size<=i):Cb s i=[]:=BX (by rw [IM];exact h)
theorem Kd(s:ByteArray)(i:Nat):(Cb s i).length=s.size - i:=by unfold Cb;rw [xI,IM]
def LL:List Nat->Nat×Nat
 | l=>l.foldl (fun z b=>((z.1+b)%65521,(z.2+(z.1+b)%65521)%65521)) (1,0)
structure Sm(q:Cm)(D:Nat)(s:ByteArray)(x:MS)(c:Cf):Prop where
 wf:St.Wf c.σ
 fm:x.fm=c.σ.fmt
 me:x.me=c.σ.mem
 he:x.he=c.σ.lim
 ou:x.ou=q.out
 ra:x.ra=q.ratio
 sl:x.sl=q.CH
 sp:x.sp=q.steps
 er:x.er=0
 tk:x.tk=c.pre.length
 pu:x.pu=c.outs.length
 rest:x.rest=Cb s c.pre.length
 le:c.pre.length<=s.size
 held:x.held=c.σ.held
 count:x.count=c.σ.count
 qa:x.qa=c.outs.drop D
 Zu:D<=c.outs.length/\c.outs.length<=D+64
 qc:x.qc=c.σ.om.drop (c.σ.om.length - 256)
 marks:x.marks=c.σ.marks
 head:x.head=c.σ.Bq/\c.σ.Bq<=c.σ.lim
 Az:x.Az=c.σ.Az
 sum:x.st≠0->(x.sx,x.sy)=LL c.σ.om
 Jx:x.sx<=65520/\x.sy<=65520
 ej:c.pre.length+c.outs.length<=q.steps
 size:x.size=c.σ.om.length%65536
 last:x.last=c.σ.last
 left:x.left=c.σ.left
 nl:10<=c.σ.st/\c.σ.st<=14->x.nl=c.σ.nl
 nd:11<=c.σ.st/\c.σ.st<=14->x.nd=c.σ.nd
 told:12<=c.σ.st/\c.σ.st<=14->x.told=c.σ.told
 hl:x.hl=c.σ.hl
 row:x.row=c.σ.row
 hs:13<=c.σ.st/\c.σ.st<=14->x.hs=c.σ.hs
 hk:c.σ.st=14->x.hlen=(if c.σ.hk=12\/c.σ.hk=13\/c.σ.hk=14 then 0 else c.σ.hk)/\x.En=decide (c.σ.hk=12)/\x.Aq=Aq c.σ.hk/\x.Am=Am c.σ.hk
 la:15<=c.σ.st/\c.σ.st<=20->x.la=c.σ.la/\x.lb=c.σ.lb
 lit:x.lit=c.σ.lit
 span:x.least=c.σ.least/\x.bits=c.σ.bits
 Cc:x.Cc=c.σ.Cc
 mb:c.σ.begun=c.Aa.length/\c.Aa.length<=c.σ.mem
structure Sn(q:Cm)(D:Nat)(s:ByteArray)(x:MS)(c:Cf):Prop where
 sm:Sm q D s x c
 st:x.st=c.σ.st+1
 mb:x.mb=c.Aa.length
 pre:0<c.pre.length
structure ZY(q:Cm)(x:MS)(c:Cf)(e:Nat):Prop where
 er:x.er=e
 ne:e≠0
 tk:x.tk=c.pre.length
 pu:x.pu=c.outs.length
 qa:x.qa=[]
 mb:x.mb=if c.pre.length=0 then 0 else c.Aa.length
def SO(s:ByteArray)(c:Cf):Nat:=1000*(s.size - c.pre.length)+St.Gn c.σ
theorem DL.mu(W:St.Wf a.σ)(h:DL q D s a b):St.Wf b.σ/\SO s b<SO s a:=by
 have N:=St.next W;cases h with
 | take h1 h2 h3=>
  rw [h1] at N;have W':=N _ (Ex s a.pre.length);refine ⟨W',?_⟩;unfold SO;show 1000*(s.size - (a.pre++[_]).length)+St.Gn (a.σ.add _)<_;rw [zI,yO];have h4:=St.dH W';unfold St.Gn;show _+(100*(a.σ.count+8)+St.loc (a.σ.add _).st (a.σ.add _))<_;omega
 | put y σ' h1 h2 h3=>rw [h1] at N;exact ⟨N.1,by unfold SO;have:=N.2.2.1;show 1000*(s.size - a.pre.length)+St.Gn σ'<_;omega⟩
 | DF σ' h1=>rw [h1] at N;exact ⟨N.1,by unfold SO;have:=N.2.1;show 1000*(s.size - a.pre.length)+St.Gn σ'<_;omega⟩
theorem Steps.mu(h:Steps q D s a b):St.Wf a.σ->St.Wf b.σ/\SO s b<=SO s a:=by
 induction h with
 | refl=>exact fun W=>⟨W,zE _⟩
 | step a b c h1 _ ih=>
  intro W;obtain ⟨d,f⟩:=h1.mu W;obtain ⟨e,g⟩:=ih d;exact ⟨e,zO⟩
def Stop(q:Cm)(D:Nat)(s:ByteArray)(c:Cf)(e:Nat):Prop:=∀ cl,Halt q D s cl c e none
inductive Out(q:Cm)(D:Nat)(s:ByteArray)(c:Cf)(r:MS×Nat):Prop
 | go (c':Cf):Steps q D s c c'->r.2=0->Sn q D s r.1 c'->SO s c'<SO s c->Out q D s c r
 | between (c':Cf):Steps q D s c c'->r.2=0->Sm q D s r.1 c'->r.1.st=0->r.1.mb=c'.Aa.length->c'.σ.st=23->c'.σ.fmt=2->c'.σ.count=8->0<c'.pre.length->Out q D s c r
 | Cr (c':Cf):Steps q D s c c'->r.2=1->Sn q D s r.1 c'->c'.σ.act= .take->s.size<=c'.pre.length->Out q D s c r
 | full (c':Cf) (b:Nat) (σ':St):Steps q D s c c'->r.2=2->Sn q D s r.1 c'->c'.σ.act= .put b σ'->D+64<=c'.outs.length->Out q D s c r
 | dead (c':Cf) (e:Nat):Steps q D s c c'->r.2=3->ZY q r.1 c' e->Stop q D s c' e->Out q D s c r
theorem Out.after{c1:Cf}{r:MS×Nat}(h:Out q D s c1 r)(st:Steps q D s c c1)(W:St.Wf c.σ):Out q D s c r:=by
 have l:=(st.mu W).2;cases h with
 | go c' h1 h2 h3 h4=>exact .go c' (st.trans h1) h2 h3 zO
 | between c' h1 h2 h3 h4 h5 h6 h7 h8 h9=>exact .between c' (st.trans h1) h2 h3 h4 h5 h6 h7 h8 h9
 | Cr c' h1 h2 h3 h4 h5=>exact .Cr c' (st.trans h1) h2 h3 h4 h5
 | full c' b σ' h1 h2 h3 h4 h5=>exact .full c' b σ' (st.trans h1) h2 h3 h4 h5
 | dead c' e h1 h2 h3 h4=>exact .dead c' e (st.trans h1) h2 h3 h4
def KU(k:Nat)(σ:St):Prop:=∀ h c,σ.count<=c->h%2^σ.count=σ.held->h<2^c->c<k->({ σ with held:=h,count:=c }:St).act= .take
structure KV(c c':Cf):Prop where
 σ:c'.σ={ c.σ with held:=c'.σ.held,count:=c'.σ.count }
 outs:c'.outs=c.outs
 Br:c'.Br=c.Br
 Aa:c'.Aa=c.Aa
 Cq:c.σ.count<=c'.σ.count
 mod:c'.σ.held%2^c.σ.count=c.σ.held
 pre:c.pre.length<=c'.pre.length
 nm:8*c'.pre.length+c.σ.count=8*c.pre.length+c'.σ.count
theorem KV.refl(W:St.Wf c.σ):KV c c:=⟨rfl,rfl,rfl,rfl,zE _,yR W.held,zE _,rfl⟩
theorem Sm.Fv(S:Sm q D s x c)(a:c.σ.act= .take)(hl:c.pre.length<s.size)(hs:¬ q.steps<=c.pre.length+c.outs.length):Sm q D s (x.Fv (Bm s c.pre.length) (Cb s (c.pre.length+1))) { c with σ:=c.σ.add (Bm s c.pre.length),pre:=c.pre++[Bm s c.pre.length] }:=by
 have N:=St.next S.wf;rw [a] at N;have e:(c.pre++[Bm s c.pre.length]).length=c.pre.length+1:=zS;exact { S with
  wf:=N _ (Ex _ _)
  tk:=by show x.tk+1=(c.pre++[_]).length;rw [e,S.tk]
  rest:=by show Cb s (c.pre.length+1)=Cb s (c.pre++[_]).length;rw [e]
  le:=by show (c.pre++[_]).length<=s.size;rw [e];omega
  ej:=by show (c.pre++[_]).length+c.outs.length<=q.steps;rw [e];omega
  held:=by show x.held+2^x.count*_=c.σ.held+2^c.σ.count*_;rw [S.held,S.count]
  count:=by show x.count+8=c.σ.count+8;rw [S.count] }
theorem Sm.dead(S:Sm q D s x c){e:Nat}(he:e≠0)(hm:x.mb=if c.pre.length=0 then 0 else c.Aa.length):ZY q (x.refuse e).1 c e:=⟨rfl,he,S.tk,S.pu,rfl,hm⟩
structure bU(q:Cm)(D:Nat)(s:ByteArray)(k:Nat)(x:MS)(c:Cf)(y:MS)(c':Cf):Prop where
 steps:Steps q D s c c'
 Fv:KV c c'
 sm:Sm q D s y c'
 st:y.st=x.st
 mb:y.mb=x.mb
 res:(MS.Ab k x=(y,0)/\k<=c'.σ.count/\(c.σ.count<k->c.pre.length<c'.pre.length)/\(k<=c.σ.count->c'=c))\/(MS.Ab k x=(y,1)/\c'.σ.act= .take/\s.size<=c'.pre.length)\/(MS.Ab k x=y.refuse 16/\Stop q D s c' 16)
theorem ZD{h a b c:Nat}(e:h%2^(c+8)=a+2^c*b)(d:a<2^c):h%2^c=a:=by
 have h1:h%2^(c+8)%2^c=h%2^c:=AM h (Nat.pow_dvd_pow 2 zO);rw [<- h1,e,Nat.add_mul_mod_self_left,yR d]
theorem KU.add{σ:St}(h:KU k σ)(W:St.Wf σ)(b:Nat):KU k (σ.add b):=fun H C hc hm hl hk=>
 h H C (by have:σ.count+8<=C:=hc;omega) (ZD (show H%2^(σ.count+8)=σ.held+2^σ.count*b from hm) W.held) hl hk
theorem KV.step(h:KV { a with σ:=a.σ.add (Bm s a.pre.length),pre:=a.pre++[Bm s a.pre.length] } c)(W:St.Wf a.σ):KV a c:=by
 obtain ⟨h1,h2,h3,h4,h5,h6,b,d⟩:=h;refine ⟨by rw [h1];rfl,h2,h3,h4,?_,?_,?_,?_⟩
 ·have:a.σ.count+8<=c.σ.count:=h5;omega
 ·exact ZD h6 W.held
 ·have:(a.pre++[Bm s a.pre.length]).length<=c.pre.length:=b;simp at this;omega
 ·have e:8*c.pre.length+(a.σ.count+8)=8*(a.pre++[Bm s a.pre.length]).length+c.σ.count:=d;simp at e;omega
theorem MS.JC(h:k<=x.count):MS.Ab k x=(x,0):=by
 unfold MS.Ab;cases x.rest with
 | nil=>unfold MS.needL;rw [zC h]
 | cons b l=>unfold MS.needL;rw [zC h]
theorem MS.NP(h:¬ k<=x.count)(e:x.rest=[]):MS.Ab k x=(x,1):=by
 unfold MS.Ab;rw [e];show (if k<=x.count then _ else _)=_;rw [zA h]
theorem MS.LA{b:Nat}{l:List Nat}(h:¬ k<=x.count)(e:x.rest=b :: l):MS.Ab k x=if x.sp<=x.tk+x.pu then x.refuse 16 else MS.Ab k (x.Fv b l):=by
 unfold MS.Ab;rw [e];show (if k<=x.count then _ else _)=_;rw [zA h];rfl
theorem dX(n:Nat):∀ {x:MS} {c:Cf},s.size - c.pre.length<=n->Sm q D s x c->KU k c.σ->∃ y b,bU q D s k x c y b:=by
 induction n with
 | zero=>
  intro x c j S A;by_cases h:k<=x.count
  ·exact ⟨x,c, .refl c,KV.refl S.wf,S,rfl,rfl,Or.inl ⟨MS.JC h,by rw [<- S.count];exact h,fun hc=>by have:=S.count;omega,fun _=>rfl⟩⟩
  ·have a:c.σ.act= .take:=A c.σ.held c.σ.count zL (yR S.wf.held) S.wf.held (by have:=S.count;omega);have f:=S.le;exact ⟨x,c, .refl c,KV.refl S.wf,S,rfl,rfl,Or.inr (Or.inl ⟨MS.NP h (by rw [S.rest];exact JF zO),a,zO⟩)⟩
 | succ n ih=>
  intro x c j S A;by_cases h:k<=x.count
  ·exact ⟨x,c, .refl c,KV.refl S.wf,S,rfl,rfl,Or.inl ⟨MS.JC h,by rw [<- S.count];exact h,fun hc=>by have:=S.count;omega,fun _=>rfl⟩⟩
  ·have a:c.σ.act= .take:=A c.σ.held c.σ.count zL (yR S.wf.held) S.wf.held (by have:=S.count;omega);by_cases hl:c.pre.length<s.size
   ·have e:x.rest=Bm s c.pre.length :: Cb s (c.pre.length+1):=by rw [S.rest];exact OA hl
    by_cases hs:x.sp<=x.tk+x.pu
    ·refine ⟨x,c, .refl c,KV.refl S.wf,S,rfl,rfl,Or.inr (Or.inr ⟨by rw [MS.LA h e,zC hs],fun cl=>?_⟩)⟩;exact Halt.steps a hl (by rw [<- S.tk,<- S.pu,<- S.sp];exact hs)
    ·have i:=S.Fv a hl (by rw [<- S.tk,<- S.pu,<- S.sp];exact hs);obtain ⟨y,b,N⟩:=ih (x:=x.Fv (Bm s c.pre.length) (Cb s (c.pre.length+1))) (c:={ c with σ:=c.σ.add (Bm s c.pre.length),pre:=c.pre++[Bm s c.pre.length] }) (by show s.size - (c.pre++[_]).length<=n;simp;omega) i (A.add S.wf _);have g:DL q D s c { c with σ:=c.σ.add (Bm s c.pre.length),pre:=c.pre++[Bm s c.pre.length] }:=DL.take c a hl (by rw [<- S.tk,<- S.pu,<- S.sp];exact hs);have d:MS.Ab k x=MS.Ab k (x.Fv (Bm s c.pre.length) (Cb s (c.pre.length+1))):=by rw [MS.LA h e,zA hs]
     have hp:c.pre.length<b.pre.length:=by have:=N.Fv.pre;have:(c.pre++[Bm s c.pre.length]).length<=b.pre.length:=this;simp at this;omega
     refine ⟨y,b,(Steps.one g).trans N.steps,KV.step N.Fv S.wf,N.sm,N.st,N.mb,?_⟩;rcases N.res with r | r | r
     ·exact Or.inl ⟨d.trans r.1,r.2.1,fun _=>hp,fun hk=>absurd hk (by have:=S.count;omega)⟩
     ·exact Or.inr (Or.inl ⟨d.trans r.1,r.2⟩)
     ·exact Or.inr (Or.inr ⟨d.trans r.1,r.2⟩)
   ·have f:=S.le;exact ⟨x,c, .refl c,KV.refl S.wf,S,rfl,rfl,Or.inr (Or.inl ⟨MS.NP h (by rw [S.rest];exact JF zO),a,zO⟩)⟩
theorem Sm.Ab(S:Sm q D s x c)(A:KU k c.σ):∃ y a,bU q D s k x c y a:=dX _ zL S A
end Go.Proofs.YtbcjmakpempkiaaGreatDoor
