import Derived.Test.YtbcjmakpempkiaaGreatDoorX13
set_option maxRecDepth 100000
set_option maxHeartbeats 8000000
set_option linter.all false
namespace Go.Proofs.YtbcjmakpempkiaaGreatDoor
variable {s s':ByteArray} {D D' L M e fm k lim mem:Nat} {σ σ':St} {q:Cm} {a b c c':Cf} {pre:List Nat} {A A':Act}
open Go.Proofs.Tryz
theorem Hb(s:ByteArray)(k:Nat)(h:k<s.size):Bm s k=(s[k]).toNat:=(Ut s k h).symm
theorem Le(s p:ByteArray)(k:Nat)(h:k<s.size):Bm (s++p) k=Bm s k:=by
 rw [Hb _ _ (by rw [vX];omega),Hb _ _ h,ByteArray.getElem_append_left h]
theorem RP(s:ByteArray)(n k:Nat)(a:n<=s.size)(h:k<n):Bm (s.extract 0 n) k=Bm s k:=by
 rw [Hb _ _ (by rw [xG];omega),Hb _ _ zO,ByteArray.getElem_extract];simp
theorem CI.nil(s:ByteArray):CI [] s:=⟨zH _,fun k hk=>by simp at hk⟩
theorem CI.append(h:CI pre s)(p:ByteArray):CI pre (s++p):=⟨by rw [vX];have:=h.len;omega,fun k hk=>by have:=h.len;rw [Le _ _ _ zO];exact h.at_ k hk⟩
theorem CI.cut(h:CI pre s):CI pre (s.extract 0 pre.length)/\(s.extract 0 pre.length).size=pre.length:=by
 have hl:=h.len;have e:(s.extract 0 pre.length).size=pre.length:=by rw [xG];omega
 exact ⟨⟨zO,fun k hk=>by rw [RP _ _ _ hl hk];exact h.at_ k hk⟩,e⟩
theorem CI.prefix{a b:List Nat}(h:CI (a++b) s):CI a s:=by
 have hl:=h.len;rw [zI] at hl;refine ⟨zO,fun k hk=>?_⟩;rw [h.at_ k (by rw [zI];omega)];simp [yF,kE hk]
structure KW(a b:Cf):Prop where
 pre:∃ l,b.pre=a.pre++l
 outs:∃ l,b.outs=a.outs++l
theorem KW.refl(a:Cf):KW a a:=⟨⟨[],zS⟩,⟨[],zS⟩⟩
theorem KW.trans(h:KW a b)(k:KW b c):KW a c:=by
 obtain ⟨⟨l,hl⟩,⟨m,hm⟩⟩:=h;obtain ⟨⟨x,hx⟩,⟨y,d⟩⟩:=k;exact ⟨⟨l++x,by rw [hx,hl,yI]⟩,⟨m++y,by rw [d,hm,yI]⟩⟩
theorem DL.Lx(h:DL q D s a b):KW a b:=by
 cases h with
 | take=>exact ⟨⟨_,rfl⟩,⟨[],zS⟩⟩
 | put=>exact ⟨⟨[],zS⟩,⟨_,rfl⟩⟩
 | DF=>exact ⟨⟨[],zS⟩,⟨[],zS⟩⟩
theorem Steps.Lx(h:Steps q D s a b):KW a b:=by
 induction h with
 | refl=>exact KW.refl _
 | step a b c h1 _ ih=>exact h1.Lx.trans ih
theorem DL.mono(h:DL q D s a b)(c:CI b.pre s')(d:D<=D'):DL q D' s' a b:=by
 cases h with
 | take h1 h2 h3=>
  obtain ⟨_,t2,t3⟩:=c.snoc;have:=DL.take (q:=q) (D:=D') (s:=s') a h1 t2 h3;rw [t3] at this;exact this
 | put b σ' h1 h2 h3=>exact .put a b σ' h1 zO h3
 | DF σ' h1=>exact .DF a σ' h1
theorem Steps.mono(h:Steps q D s a b)(e:D<=D'):CI b.pre s'->Steps q D' s' a b:=by
 induction h with
 | refl=>exact fun _=> .refl _
 | step a b c h1 h2 ih=>
  intro d;obtain ⟨⟨l,hl⟩,_⟩:=h2.Lx;exact .step a b c (h1.mono (by rw [hl] at d;exact d.prefix) e) (ih d)
structure Nh(c:Cf):Prop where
 act:c.pre=[]->c.σ.act= .take/\c.outs=[]/\c.σ.st<23
theorem Nh.begin(h:fm<3):Nh (Cf.begin fm mem lim):=by
 refine ⟨fun _=>⟨?_,rfl,?_⟩⟩
 ·have h3:fm=0\/fm=1\/fm=2:=zO;rcases h3 with rfl | rfl | rfl <;> rfl
 ·show (if fm=0 then 6 else 0)<23;split <;> omega
theorem Nh.step(h:Nh c)(st:DL q D s c c'):Nh c':=by
 cases st with
 | take h1 h2 h3=>exact ⟨fun h0=>by simp at h0⟩
 | put b σ' h1 h2 h3=>exact ⟨fun h0=>by have:=(h.act h0).1;rw [h1] at this;cases this⟩
 | DF σ' h1=>exact ⟨fun h0=>by have:=(h.act h0).1;rw [h1] at this;cases this⟩
structure Dr(fm mem lim:Nat)(c:Cf):Prop where
 gi:GI fm mem lim c
 bg:PC c
 fs:Nh c
theorem Dr.begin(h:fm<3)(hm:1<=mem):Dr fm mem lim (Cf.begin fm mem lim):=⟨GI.begin h hm,PC.begin _ _ _,Nh.begin h⟩
theorem Dr.step(h:Dr fm mem lim c)(st:DL q D s c c')(a:CI c.pre s):Dr fm mem lim c'/\CI c'.pre s:=⟨⟨(h.gi.step st a).1,h.bg.step h.gi st,h.fs.step st⟩,(h.gi.step st a).2⟩
theorem Dr.steps(st:Steps q D s c c'):Dr fm mem lim c->CI c.pre s->Dr fm mem lim c'/\CI c'.pre s:=by
 induction st with
 | refl=>exact fun h d=>⟨h,d⟩
 | step a b c h1 _ ih=>exact fun h d=>ih (h.step h1 d).1 (h.step h1 d).2
structure RG where
 fm:Nat
 mem:Nat
 lim:Nat
 q:Cm
 taken:ByteArray
 Ac:Nat
 out:Nat
 steps:Nat
 members:Nat
 closed:Bool
 acc:Bool
 err:Nat
 all:List Nat
namespace RG
def trace(g:RG)(s:ByteArray):Tr.Ob:=Tr.DJ (Tr.read g.fm g.mem g.lim s)
def DI(g:RG)(s:ByteArray):Nat×Nat×Nat×Option Bool:=play (g.trace s) g.q g.Ac g.closed ((g.trace s).Aw+(g.trace s).out.length+1) 0 0
def Cs(l:List Nat)(i:Nat):Nat:=(l.filter fun x=>x<i).length
def DK(g:RG)(s:ByteArray):RG:=
 { g with err:=(g.DI s).2.2.1,acc:=(g.DI s).2.2.2.getD g.acc,out:=(g.DI s).2.1,steps:=(g.DI s).1+(g.DI s).2.1,all:=(g.trace s).out,members:=Cs (g.trace s).Aa (g.DI s).1,taken:=s.extract 0 (g.DI s).1 }
end RG
structure MG where
 c:Cf
 q:Cm
 Ac:Nat
 closed:Bool
 err:Nat
 acc:Bool
structure Twin(g:RG)(m:MG):Prop where
 Hv:Dr g.fm g.mem g.lim m.c
 mem:1<=g.mem
 q:g.q=m.q
 closed:g.closed=m.closed
 err:g.err=m.err
 acc:g.acc=m.acc
 Ac:g.Ac=m.Ac
 le:m.Ac<=m.c.outs.length
 taken:CI m.c.pre g.taken/\g.taken.size=m.c.pre.length
 out:g.out=m.c.outs.length
 steps:g.steps=m.c.pre.length+m.c.outs.length
 members:g.members=if m.c.pre.length=0 then 0 else m.c.Aa.length
 all:∃ l,g.all=m.c.outs++l
 path:∀ s D,CI m.c.pre s->m.Ac<=D->Steps m.q D s (Cf.begin g.fm g.mem g.lim) m.c
theorem filter_all{l:List Nat}{p:Nat->Bool}(h:∀ x∈l,p x=true):l.filter p=l:=List.filter_eq_self.2 h
theorem We(h:Dr fm mem lim c){T:Tr.Ob}(O:On c T)(hl:c.σ.st≠23\/c.σ.count=0\/T.Aa=c.Aa):RG.Cs T.Aa c.pre.length=if c.pre.length=0 then 0 else c.Aa.length:=by
 obtain ⟨l,e,hx⟩:=O.Aa;have a:∀ x∈l,c.pre.length<=x:=by
  rcases hl with hl | hl | hl
  ·exact hx (Or.inl hl)
  ·exact hx (Or.inr hl)
  ·have:l=[]:=by rw [e] at hl;simpa using hl
   subst this;exact fun x hx=>by cases hx
 unfold RG.Cs;have h1:(l.filter fun x=>decide (x<c.pre.length))=[]:=List.filter_eq_nil_iff.2 fun x hx=>by have:=a x hx;simp;omega
 rw [e,BV,h1,xV];by_cases h0:c.pre.length=0
 ·rw [zC h0,h0];simp
 ·rw [zA h0,filter_all];intro x hx;have:=h.bg.below x hx;simp;omega
theorem VX{closed:Bool}{a:Option Bool}(h:GI fm mem lim c)(hs:s.size≠0)(n:CI c.pre s)(l:Halt q D s closed c e a):c.σ.st≠23\/c.σ.count=0\/(Tr.DJ (Tr.read fm mem lim s)).Aa=c.Aa:=by
 have k:c.σ.st=23->c.σ.act≠ .take->(∀ b σ',c.σ.act≠ .put b σ')->∃ e,c.σ.act= .fail e\/∃ σ',c.σ.act= .DF σ':=by
  intro _ h1 h2;cases f:c.σ.act with
  | take=>exact absurd f h1
  | put b σ'=>exact absurd f (h2 b σ')
  | DF σ'=>exact ⟨0,Or.inr ⟨σ',rfl⟩⟩
  | fail e=>exact ⟨e,Or.inl rfl⟩
 have i:∀ b σ',c.σ.act= .put b σ'->c.σ.st≠23:=fun b σ' f d=>by
  rw [St.Af d] at f;simp only [St.actAt,St.Ab] at f;(repeat' split at f) <;> cases f
 have g:c.σ.act= .take->c.σ.st=23->c.σ.count=0:=fun f d=>by
  rcases Ym h d with j | o
  ·exact j
  ·rw [St.Af d] at f;simp only [St.actAt,St.Ab] at f;rw [zA zO] at f;(repeat' split at f) <;> cases f
 by_cases d:c.σ.st=23
 ·cases l with
  | Cr h1 _=>exact Or.inr (Or.inl (g h1 d))
  | steps h1 _ _=>exact Or.inr (Or.inl (g h1 d))
  | full b σ' h1 _=>exact absurd d (i b σ' h1)
  | quota b σ' h1 _ _=>exact absurd d (i b σ' h1)
  | fail _ h1=>exact Or.inr (Or.inr (by rw [(h.fail h1 hs n).1]))
 ·exact Or.inl d
theorem aH{g:RG}{m:MG}{a:Option Bool}(w:Twin g m)(r:CI m.c.pre s)(st:Steps m.q m.Ac s m.c c')(o:Halt m.q m.Ac s m.closed c' e a) :
  (g.DI s).1=c'.pre.length/\Twin (g.DK s) { m with c:=c',err:=e,acc:=a.getD m.acc }:=by
 obtain ⟨h,d⟩:=Dr.steps st w.Hv r;have f:=(w.path s m.Ac r zL).trans st;have t:=st.Lx;have j:∃ l,(g.trace s).out=c'.outs++l:=by
  by_cases hs:s.size=0
  ·have h0:c'.pre=[]:=by
    have:=d.len;exact vV.1 zO
   have h1:=(h.fs.act h0).2.1;exact ⟨(g.trace s).out,by rw [h1];rfl⟩
  ·exact (h.gi.on hs d).1.out
 have i:g.DI s=(c'.pre.length,c'.outs.length,e,a)/\RG.Cs (g.trace s).Aa c'.pre.length=if c'.pre.length=0 then 0 else c'.Aa.length:=by
  unfold RG.DI;by_cases hs:s.size=0
  ·have h0:c'.pre=[]:=by
    have:=d.len;exact vV.1 zO
   obtain ⟨h1,h2,h3⟩:=h.fs.act h0;have v:g.trace s=⟨[],[],0,[],0,true⟩:=by
    unfold RG.trace Tr.read Tr.Gb Tr.Ej Tr.FD;simp only [zC hs];split
    ·rfl
    ·split <;> rfl
   rw [v,h0,h2];refine ⟨?_,rfl⟩;have he:e=(if m.closed=true then 15 else 0)/\a=(if m.closed=true then some false else none):=by
    cases o with
    | Cr g1 g2=>
     refine ⟨by simp [h3],?_⟩;have:decide (¬ c'.σ.st<23)=false:=by simp;omega
     rw [this]
    | steps g1 g2 g3=>omega
    | full b σ' g1 g2=>rw [g1] at h1;cases h1
    | quota b σ' g1 g2 g3=>rw [g1] at h1;cases h1
    | fail _ g1=>rw [g1] at h1;cases h1
   rw [he.1,he.2,w.closed];cases m.closed <;> rfl
  ·have n:g.fm<3:=by rw [<- h.gi.fM];exact h.gi.wf.fmt
   have hp:=Xl (closed:=m.closed) hs f (GI.begin n w.mem) (CI.nil s) o ((g.trace s).Aw+(g.trace s).out.length+1) (by unfold leftOf;show ((g.trace s).Aw - 0)+((g.trace s).out.length - 0)<_;omega);refine ⟨?_,?_⟩
   ·rw [w.q,w.Ac,w.closed];exact hp
   ·exact We h (h.gi.on hs d).1 (VX h.gi hs d o)
 obtain ⟨hp,y⟩:=i;obtain ⟨⟨l,hl⟩,⟨k,hk⟩⟩:=t;refine ⟨by rw [hp],⟨h,w.mem,w.q,w.closed,?_,?_,w.Ac,?_,?_,?_,?_,?_,?_,?_⟩⟩
 ·show (g.DI s).2.2.1=e;rw [hp]
 ·show (g.DI s).2.2.2.getD g.acc=a.getD m.acc;rw [hp,w.acc]
 ·show m.Ac<=c'.outs.length;rw [hk,zI];have:=w.le;omega
 ·show CI c'.pre (s.extract 0 (g.DI s).1)/\(s.extract 0 (g.DI s).1).size=c'.pre.length;rw [hp];exact d.cut
 ·show (g.DI s).2.1=_;rw [hp]
 ·show (g.DI s).1+(g.DI s).2.1=_;rw [hp]
 ·show RG.Cs (g.trace s).Aa (g.DI s).1=_;rw [hp];exact y
 ·exact j
 ·intro z D p u;exact f.mono u p
namespace St
def re(σ:St)(M L:Nat):St:={ σ with mem:=M,lim:=L }
structure nR(σ σ':St):Prop where
 Cq:σ'.count<=σ.count
 hm:8*σ'.Bq+σ'.count<=8*σ.Bq+σ.count
 bg:σ.st≠23->σ'.begun=σ.begun/\σ'.st≠0/\(σ.st=0->σ'.count+8<=σ.count)
 oG:σ.st=23->σ'.begun=σ.begun+1/\σ.fmt=2/\σ'.st=0/\σ'.count=σ.count
 fm:σ'.fmt=σ.fmt
end St
def Act.re(A:Act)(M L:Nat):Act:=
 match A with
 | .take=> .take
 | .put b σ=> .put b (σ.re M L)
 | .DF σ=> .DF (σ.re M L)
 | .fail e=> .fail e
namespace St
theorem fH(W:Wf σ)(a:σ.act= .DF σ'):nR σ σ':=by
 rcases IB W.st with h | h | h | h | h | h | h | h | h | h | h | h | h | h | h | h | h | h | h | h | h | h | h | h
 all_goals
  rw [Af h] at a;simp only [actAt,Ab,DG,text,kind,endBlock,Ek,EM,symbol,literal] at a;(repeat' split at a)
  all_goals first
   | (cases a;done)
   | (injection a with a;subst a;exact ⟨by simp [Au,rd] <;> omega,by simp [Au,rd] <;> omega,fun b=>by first | (exfalso;exact b h) | exact ⟨rfl,by simp [Au,rd,h] <;> (try split) <;> omega,fun h0=>by simp [Au,rd] <;> omega⟩,fun b=>by first | (exfalso;omega) | exact ⟨rfl,zO,rfl,rfl⟩,rfl⟩)
theorem fG{b:Nat}(W:Wf σ)(a:σ.act= .put b σ'):nR σ σ':=by
 rcases IB W.st with h | h | h | h | h | h | h | h | h | h | h | h | h | h | h | h | h | h | h | h | h | h | h | h
 all_goals
  rw [Af h] at a;simp only [actAt,Ab,DG,text,kind,endBlock,Ek,EM,symbol,literal] at a;(repeat' split at a)
  all_goals first
   | (cases a;done)
   | (injection a with _ a;subst a;exact ⟨by simp [Au,rd] <;> omega,by simp [Au,rd] <;> omega,fun c=>⟨rfl,by simp [Au,rd,h],fun h0=>zO⟩,fun c=>zO,rfl⟩)
theorem DO{c c':Prop}[Decidable c][Decidable c']{B B':Act}(hc:c'↔c)(a:A'=A.re M L)(b:B'=B.re M L):(if c' then A' else B')=(if c then A else B).re M L:=by
 by_cases h:c
 ·rw [zC h,zC (hc.2 h)];exact a
 ·rw [zA h,zA (fun x=>h (hc.1 x))];exact b
theorem DX(h:A'=A.re M L):(σ.re M L).Ab k A'=(σ.Ab k A).re M L:=DO yE rfl h
theorem Jt{a b:Nat}(h:L<=σ.Bq↔σ.lim<=σ.Bq):(σ.re M L).DG a b=(σ.DG a b).re M L:=DO h rfl (DO yE rfl rfl)
theorem ZH{a:Nat}(h:L<=σ.Bq↔σ.lim<=σ.Bq):(σ.re M L).text a=(σ.text a).re M L:=DO h rfl rfl
theorem Nv:(σ.re M L).endBlock=σ.endBlock.re M L:=DO yE (DO yE rfl rfl) rfl
theorem gV:(σ.re M L).kind=σ.kind.re M L:=DO yE (DO yE rfl rfl) (DO yE rfl (DO yE rfl rfl))
theorem ak:(σ.re M L).EM=σ.EM.re M L:=DO yE rfl rfl
theorem Tu:(σ.re M L).Ek=σ.Ek.re M L:=DO yE rfl (DO yE rfl (DO yE (ak (σ:={ σ.rd (Am σ.hk) with row:=σ.row++List.replicate (Aq σ.hk+σ.num (Am σ.hk)) (hval σ.hk σ.row),st:=13 }) (M:=M) (L:=L)) rfl))
theorem Xr:(σ.re M L).literal k=(σ.literal k).re M L:=by
 unfold literal;by_cases h1:k<256
 ·rw [zC h1,zC h1];rfl
 ·rw [zA h1,zA h1];by_cases h2:k=256
  ·rw [zC h2,zC h2];exact Nv
  ·rw [zA h2,zA h2];rfl
theorem NW{l:List Int}{f f':St->Nat->Act}(h:∀ τ k,f' (St.re τ M L) k=(f τ k).re M L):(σ.re M L).symbol l f'=(σ.symbol l f).re M L:=by
 show (match EW l σ.held σ.count with | .hit k m=>f' ((σ.rd m).re M L) k | .more=>Act.take | .none=> .fail 11)=(match EW l σ.held σ.count with | .hit k m=>f (σ.rd m) k | .more=>Act.take | .none=> .fail 11).re M L;cases EW l σ.held σ.count with
 | hit k m=>exact h _ _
 | more=>rfl
 | none=>rfl
theorem eu(W:Wf σ)(a:σ.st<=5->(L<=σ.Bq↔σ.lim<=σ.Bq))(b:σ.st=23->(M<=σ.begun↔σ.mem<=σ.begun)):(σ.re M L).act=σ.act.re M L:=by
 rcases IB W.st with h | h | h | h | h | h | h | h | h | h | h | h | h | h | h | h | h | h | h | h | h | h | h | h
 ·rw [Af h,Af (show (σ.re M L).st=0 from h)];exact DX (Jt (a zO))
 ·rw [Af h,Af (show (σ.re M L).st=1 from h)];exact DX (Jt (a zO))
 ·rw [Af h,Af (show (σ.re M L).st=2 from h)];exact DO yE (DX (DO (a zO) rfl (DO yE rfl rfl))) rfl
 ·rw [Af h,Af (show (σ.re M L).st=3 from h)];exact DO yE (DX (ZH (a zO))) rfl
 ·rw [Af h,Af (show (σ.re M L).st=4 from h)];exact DO yE (DX (ZH (a zO))) rfl
 ·rw [Af h,Af (show (σ.re M L).st=5 from h)];exact DO yE (DX (Jt (a zO))) rfl
 ·rw [Af h,Af (show (σ.re M L).st=6 from h)];exact DX gV
 ·rw [Af h,Af (show (σ.re M L).st=7 from h)];exact DX (DO yE rfl rfl)
 ·rw [Af h,Af (show (σ.re M L).st=8 from h)];exact DO yE Nv (DX rfl)
 ·rw [Af h,Af (show (σ.re M L).st=9 from h)];exact DX (DO yE rfl rfl)
 ·rw [Af h,Af (show (σ.re M L).st=10 from h)];exact DX rfl
 ·rw [Af h,Af (show (σ.re M L).st=11 from h)];exact DX (DO yE rfl rfl)
 ·rw [Af h,Af (show (σ.re M L).st=12 from h)];exact DO yE (DX rfl) (DO yE rfl rfl)
 ·rw [Af h,Af (show (σ.re M L).st=13 from h)];show (σ.re M L).symbol σ.hs (fun τ k=> .DF { τ with hk:=k,st:=14 })=(σ.symbol σ.hs (fun τ k=> .DF { τ with hk:=k,st:=14 })).re M L;refine NW ?_;intro τ k;rfl
 ·rw [Af h,Af (show (σ.re M L).st=14 from h)];exact DX Tu
 ·rw [Af h,Af (show (σ.re M L).st=15 from h)];exact rfl
 ·rw [Af h,Af (show (σ.re M L).st=16 from h)];refine NW ?_;intro τ k;exact Xr
 ·rw [Af h,Af (show (σ.re M L).st=17 from h)];exact DX rfl
 ·rw [Af h,Af (show (σ.re M L).st=18 from h)];show (σ.re M L).symbol σ.lb (fun τ k=> .DF { τ with least:=Tr.Ar 1 k,bits:=Tr.Ag k,st:=19 })=(σ.symbol σ.lb (fun τ k=> .DF { τ with least:=Tr.Ar 1 k,bits:=Tr.Ag k,st:=19 })).re M L;refine NW ?_;intro τ k;rfl
 ·rw [Af h,Af (show (σ.re M L).st=19 from h)];exact DX (DO yE rfl rfl)
 ·rw [Af h,Af (show (σ.re M L).st=20 from h)];exact DO yE rfl rfl
 ·rw [Af h,Af (show (σ.re M L).st=21 from h)];exact DO yE rfl (DX (DO yE rfl rfl))
 ·rw [Af h,Af (show (σ.re M L).st=22 from h)];exact DO yE (DX (DO yE rfl rfl)) rfl
 ·rw [Af h,Af (show (σ.re M L).st=23 from h)];exact DX (DO yE rfl (DO (b h) rfl rfl))
theorem TF(W:Wf σ)(h1:¬ σ.lim<=σ.Bq)(a:¬ L<=σ.Bq)(h2:¬ σ.mem<=σ.begun)(b:¬ M<=σ.begun):(σ.re M L).act=σ.act.re M L:=
 eu W (fun _=>⟨fun h=>absurd h a,fun h=>absurd h h1⟩) (fun _=>⟨fun h=>absurd h b,fun h=>absurd h h2⟩)
structure ZX(c:Cf):Prop where
 hm:8*c.σ.Bq+c.σ.count<=8*c.pre.length
 bg:8*c.σ.begun+c.σ.count<=8*c.pre.length+8\/(c.σ.fmt≠2/\c.σ.begun=1)
 oG:c.σ.st≠0->c.σ.fmt=2->8*c.σ.begun+c.σ.count<=8*c.pre.length
end St
theorem ZX.begin(fm mem lim:Nat):St.ZX (Cf.begin fm mem lim):=by
 refine ⟨by show 8*0+0<=8*0;omega,Or.inl (by show 8*1+0<=8*0+8;omega),fun h h2=>?_⟩;exfalso
 have a:fm=2:=h2;apply h;show (if fm=0 then 6 else 0)=0;rw [zA zO]
theorem ZX.step(W:St.Wf c.σ)(h:St.ZX c)(st:DL q D s c c'):St.ZX c':=by
 obtain ⟨p,a2,a3⟩:=h;have d:∀ σ',St.nR c.σ σ'->(8*σ'.Bq+σ'.count<=8*c.pre.length)/\(8*σ'.begun+σ'.count<=8*c.pre.length+8\/(σ'.fmt≠2/\σ'.begun=1))/\(σ'.st≠0->σ'.fmt=2->8*σ'.begun+σ'.count<=8*c.pre.length):=fun σ' E=>by
  obtain ⟨r,t,k,l,e⟩:=E;refine ⟨zO,?_,fun i g2=>?_⟩
  ·by_cases a:c.σ.st=23
   ·obtain ⟨n,f,g,u⟩:=l a;have:=a3 zO f;left;omega
   ·obtain ⟨n,f,g⟩:=k a;rcases a2 with a2 | ⟨a2,o⟩
    ·left;omega
    ·right;exact ⟨by rw [e];exact a2,zO⟩
  ·by_cases a:c.σ.st=23
   ·exact absurd (l a).2.2.1 i
   ·obtain ⟨n,f,g⟩:=k a;by_cases h0:c.σ.st=0
    ·have:=g h0;rcases a2 with a2 | ⟨a2,_⟩
     ·omega
     ·exact absurd (e.symm.trans g2) a2
    ·have:=a3 h0 (by rw [<- e];exact g2);omega
 cases st with
 | take h1 h2 h3=>
  refine ⟨?_,?_,fun i g2=>?_⟩
  ·show 8*c.σ.Bq+(c.σ.count+8)<=8*(c.pre++[_]).length;rw [zI,yO];omega
  ·show 8*c.σ.begun+(c.σ.count+8)<=8*(c.pre++[_]).length+8\/(c.σ.fmt≠2/\c.σ.begun=1);rw [zI,yO];rcases a2 with a2 | a2
   ·left;omega
   ·right;exact a2
  ·show 8*c.σ.begun+(c.σ.count+8)<=8*(c.pre++[_]).length;rw [zI,yO];have:=a3 i g2;omega
 | put b σ' h1 h2 h3=>obtain ⟨j,k2,k3⟩:=d σ' (St.fG W h1);exact ⟨j,k2,k3⟩
 | DF σ' h1=>obtain ⟨j,k2,k3⟩:=d σ' (St.fH W h1);exact ⟨j,k2,k3⟩
def Cf.re(c:Cf)(M L:Nat):Cf:={ c with σ:=c.σ.re M L }
structure nS(s:ByteArray)(c:Cf)(M L:Nat):Prop where
 m:s.size+1<c.σ.mem/\s.size+1<M
 l:s.size<c.σ.lim/\s.size<L
theorem ZX.TF(W:St.Wf c.σ)(h:St.ZX c)(hl:c.pre.length<=s.size)(F:nS s c M L):(c.σ.re M L).act=c.σ.act.re M L:=by
 have h1:=h.hm;have h2:=h.bg;obtain ⟨a,b⟩:=F;refine St.TF W zO zO ?_ ?_
 ·rcases h2 with h2 | h2 <;> omega
 ·rcases h2 with h2 | h2 <;> omega
theorem Steps.re(h:Steps q D s a b):St.Wf a.σ->St.ZX a->a.pre.length<=s.size->nS s a M L->Steps q D s (a.re M L) (b.re M L)/\St.ZX b/\b.pre.length<=s.size/\nS s b M L/\St.Wf b.σ:=by
 induction h with
 | refl c=>exact fun W C hl F=>⟨.refl _,C,hl,F,W⟩
 | step a b c h1 _ ih=>
  intro W C hl F;have N:=St.next W;have d:=ZX.TF W C hl F;have f:=ZX.step W C h1;have e:DL q D s (a.re M L) (b.re M L)/\St.Wf b.σ/\b.pre.length<=s.size/\b.σ.mem=a.σ.mem/\b.σ.lim=a.σ.lim:=by
   cases h1 with
   | take g1 g2 g3=>
    rw [g1] at d N;refine ⟨DL.take (a.re M L) d g2 g3,N _ (Ex _ _),?_,rfl,rfl⟩;show (a.pre++[_]).length<=s.size;rw [zI,yO];omega
   | put y σ' g1 g2 g3=>
    rw [g1] at d N;exact ⟨DL.put (a.re M L) y (σ'.re M L) d g2 g3,N.1,hl,N.2.2.2.2.1,N.2.2.2.2.2⟩
   | DF σ' g1=>
    rw [g1] at d N;exact ⟨DL.DF (a.re M L) (σ'.re M L) d,N.1,hl,N.2.2.2.1,N.2.2.2.2.1⟩
  obtain ⟨i,k2,k3,k4,k5⟩:=e;obtain ⟨g,i2⟩:=ih k2 f k3 ⟨by rw [k4];exact F.m,by rw [k5];exact F.l⟩;exact ⟨.step _ _ _ i g,i2⟩
end Go.Proofs.YtbcjmakpempkiaaGreatDoor
