import Derived.Test.YtbcjmakpempkiaaGreatDoorX01
import Derived.Test.YtbcjmakpempkiaaGreatDoorX02
set_option maxRecDepth 100000
set_option maxHeartbeats 8000000
set_option linter.all false
namespace Go.Proofs.YtbcjmakpempkiaaGreatDoor
variable {W w w' w1:World} {ρ ρ':Nat->Nat} {B H M N base cap d fuel g gW k m n sz:Nat} {s s':Aj} {C l:List (List Int)} {P S:List ByteArray} {held:Bool} {ad:Option Addr} {v vb:Value} {cs xs:List Value}
open Go.Proofs.Tryz
open Go.RowKit Go.Deep
def Kv(z:Int):Prop:= -9223372036854775808<=z/\z<=9223372036854775807
theorem Jz{z:Int}(h:(Lit.int .i64 z).wf=true):Kv z:=by
 have a:decide (IntKind.i64.min<=z)=true/\decide (z<=IntKind.i64.max)=true:=by
  have h2:(decide (IntKind.i64.min<=z) && decide (z<=IntKind.i64.max))=true:=h;exact Bool.and_eq_true_iff.1 h2
 exact ⟨kV a.1,kV a.2⟩
def total(P:List ByteArray):Nat:=P.foldr (fun s n=>s.size+n) 0
theorem Qy{s:ByteArray}(h:s∈P):s.size<=total P:=by
 induction P with
 | nil=>cases h
 | cons x xs ih=>
  show _<=x.size+total xs;rcases xB.1 h with rfl | h
  ·omega
  ·have:=ih h;omega
theorem PZ{H:Type}{l:List (DataW H)}{d:DataW H}(h:d∈l):Rows.uptoBulk d<=Rows.uptoBulkAll l:=by
 induction l with
 | nil=>cases h
 | cons x r ih=>
  simp only [Rows.uptoBulkAll];rcases xB.1 h with rfl | h
  ·omega
  ·have:=ih h;omega
structure Txts(w:World)(N:Nat)(ad:Option Addr)(n cap:Nat)(P:List ByteArray):Prop where
 len:P.length=n
 at_:Kk w ad P
 Zi:n<=cap/\cap<=maxLen
 nil:ad=none->n=0/\cap=0
 spot:∀ x,ad=some x->0<n->x.spot=none
 small:n<=N/\total P<=N
theorem Wo{H:Type}(D:Nat->DataW H)(t:Nat->ByteArray)(len:Nat):∀ k,k<=len->(∀ i,i<len->D i= .lit (.string (t i).data.toList))->k+total ((List.range k).map t)<=Rows.uptoBulkAll ((List.range k).map D):=by
 intro k;induction k with
 | zero=>intros;simp [total,Rows.uptoBulkAll]
 | succ k ih=>
  intro hk h;have h1:=ih zO h;have a:total ((List.range (k+1)).map t)=total ((List.range k).map t)+(t k).size:=by
   rw [List.range_succ,jQ];generalize (List.range k).map t=P;induction P with
   | nil=>simp [total]
   | cons x xs ih=>
    show x.size+total (xs++_)=x.size+total xs+(t k).size;rw [ih];omega
  have b:Rows.uptoBulkAll ((List.range (k+1)).map D)=Rows.uptoBulkAll ((List.range k).map D)+Rows.uptoBulk (D k):=by
   rw [List.range_succ,jQ];generalize (List.range k).map D=P;induction P with
   | nil=>simp [Rows.uptoBulkAll]
   | cons x xs ih=>
    show Rows.uptoBulk x+Rows.uptoBulkAll (xs++_)=Rows.uptoBulk x+Rows.uptoBulkAll xs+Rows.uptoBulk (D k);rw [ih];omega
  have c:Rows.uptoBulk (D k)=(t k).size+1:=by
   rw [h k zO];show (t k).data.toList.length+1=_;rw [AA];rfl
  omega
theorem texts_of{H:Type}{enc:TypeId×Value->H}{spare:Nat->Bool}{x:DataW H×List MemPlace}(h:DataW.trod enc prog W base spare held fuel 30 cs=some x) :
  ∃ ad n cap P,cs=[.slice ad n cap]/\Txts W (Rows.uptoBulk x.1) ad n cap P:=by
 rcases open_slice1 underlying30 Mt h with ⟨c,rfl⟩ | ⟨a,len,v,m,f,V,D,y,c,z,hl,hm,r,rfl,hx⟩
 ·refine ⟨none,0,0,[],c,rfl,fun k hk=>by simp at hk,⟨zE _,by unfold maxLen;omega⟩,fun _=>⟨rfl,rfl⟩,fun _ e=>(by cases e),zH _,zH _⟩
 ·have w:len<=m:=by rw [r];split <;> omega
  have hs:∀ i,i<len->∃ s:ByteArray,V i= .string s/\D i= .lit (.string s.data.toList):=fun i hi=>by
   obtain ⟨s,g,l,_⟩:=DataW.trod_string underlying9 (hx i zO).2;exact ⟨s,by simpa using g,yH Prod.fst l⟩
  obtain ⟨t,u⟩:∃ t:Nat->ByteArray,∀ i,i<len->V i= .string (t i)/\D i= .lit (.string (t i).data.toList):=by
   refine ⟨fun i=>match V i with | .string s=>s | _=>⟨#[]⟩,fun i hi=>?_⟩;obtain ⟨s,g,l⟩:=hs i hi;simp only [g];exact ⟨trivial,l⟩
  have d:0<len->a.spot=none:=fun h0=>by
   have:=(hx 0 zO).1;simpa [Addr.add] using jL this
  refine ⟨some a,len,v,(List.range len).map t,c,zS,fun k hk=>?_,⟨hl,hm⟩,fun e=>(by cases e),fun x e h0=>(by injection e with e;subst e;exact d h0),?_⟩
  ·have p:k<len:=by simpa using hk
   have h1:=(hx k zO).1;obtain ⟨b,o,sp⟩:=a;have:sp=none:=d zO;subst this;rw [vJ] at h1;refine ⟨b,o,rfl,xT W _ h1,?_⟩;rw [h1,(u k p).1];simp
  ·have hB:=Wo D t len len zL (fun i hi=>(u i hi).2);have q:Rows.uptoBulk (.slice ((List.range len).map D) ((List.range (m - len)).map fun j=>D (len+j)))=Rows.uptoBulkAll ((List.range len).map D)+Rows.uptoBulkAll ((List.range (m - len)).map fun j=>D (len+j))+1:=by simp only [Rows.uptoBulk]
   show len<=Rows.uptoBulk _/\total _<=Rows.uptoBulk _;rw [q];constructor <;> omega
structure lz(w:World)(N:Nat)(kd a b c:Int)(t:ByteArray)(ap:Option Addr)(np cp:Nat):Prop where
 kd:Kv kd
 a:Kv a
 b:Kv b
 c:Kv c
 t:t.size<=N
 p:∃ P,Txts w N ap np cp P
theorem Txts.mono(h:Txts w N ad n cap P)(a:N<=M):Txts w M ad n cap P:={ h with small:=⟨by have:=h.small.1;omega,by have:=h.small.2;omega⟩ }
theorem lC{H:Type}{enc:TypeId×Value->H}{spare:Nat->Bool}{x:DataW H×List MemPlace}(h:DataW.trod enc prog W base spare held n 79 cs=some x) :
  ∃ (kd a b c:Int) (t:ByteArray) (g:Option Addr) (j i:Nat),cs=[.int .i64 kd, .int .i64 a, .int .i64 b, .int .i64 c, .string t, .slice g j i]/\lz W (Rows.uptoBulk x.1) kd a b c t g j i:=by
 obtain ⟨B,k,hk,f,hlen,o,d⟩:=BG underlying79 h;rw [Lg] at hlen;have e:B.length=6:=o;match B,e,cs,hlen with
 | [y0,y1,y2,y3,y4,y5],_,[v0,v1,v2,v3,v4,v5],_=>
  have g0:=d 0 _ rfl;have w:=d 1 _ rfl;have g2:=d 2 _ rfl;have y:=d 3 _ rfl;have z:=d 4 _ rfl;have A:=d 5 _ rfl;simp [Ms,Mt,Pd] at g0 w g2 y z A;obtain ⟨z0,p,_,E⟩:=xF underlying3 g0;obtain ⟨I,q,_,w1⟩:=xF underlying3 w;obtain ⟨z2,r,_,w2⟩:=xF underlying3 g2;obtain ⟨z3,s,_,F⟩:=xF underlying3 y;obtain ⟨t,u,G,J⟩:=DataW.trod_string underlying9 z;obtain ⟨g,j,i,P,v,hP⟩:=texts_of A;simp at p q r s u v;have C:Rows.uptoBulk y4.1<=Rows.uptoBulk x.1:=by
   rw [f];simp only [Rows.uptoBulk];exact Nat.le_succ_of_le (PZ zS)
  have l:Rows.uptoBulk y5.1<=Rows.uptoBulk x.1:=by
   rw [f];simp only [Rows.uptoBulk];exact Nat.le_succ_of_le (PZ zS)
  have D:t.size<=Rows.uptoBulk y4.1:=by
   rw [G];show _<=t.data.toList.length+1;rw [AA];exact kY _
  exact ⟨z0,I,z2,z3,t,g,j,i,by rw [p,q,r,s,u,v],⟨Jz E,Jz w1,Jz w2,Jz F,zO,P,hP.mono l⟩⟩
def Scr(N:Nat)(w:World)(ad:Option Addr)(n:Nat):Prop:=∀ k,k<n->∃ (b0 o0:Nat) (kd a b c:Int) (t:ByteArray) (ap:Option Addr) (np cp:Nat),ad=some ⟨b0,o0,none⟩/\b0<w.heap.size/\
 w.cell? ⟨b0,o0+k*6,none⟩=some (.int .i64 kd)/\w.cell? ⟨b0,o0+k*6+1,none⟩=some (.int .i64 a)/\w.cell? ⟨b0,o0+k*6+2,none⟩=some (.int .i64 b)/\w.cell? ⟨b0,o0+k*6+3,none⟩=some (.int .i64 c)/\w.cell? ⟨b0,o0+k*6+4,none⟩=some (.string t)/\w.cell? ⟨b0,o0+k*6+5,none⟩=some (.slice ap np cp)/\lz w N kd a b c t ap np cp
theorem scr_of{H:Type}{enc:TypeId×Value->H}{spare:Nat->Bool}{x:DataW H×List MemPlace}(h:DataW.trod enc prog W base spare held fuel 22 [.slice ad n cap]=some x) :
  Scr (Rows.uptoBulk x.1) W ad n/\n<=Rows.uptoBulk x.1:=by
 rcases open_slice underlying22 h with ⟨g,rfl⟩ | ⟨a,len,E,m,f,D,S,g,T,hl,hm,C,rfl,hx⟩
 ·simp at g;obtain ⟨rfl,rfl,rfl⟩:=g;exact ⟨fun k hk=>zO,zH _⟩
 ·simp at g;obtain ⟨rfl,rfl,rfl⟩:=g;have L:n<=m:=by rw [C];split <;> omega
  refine ⟨fun k hk=>?_,?_⟩
  ·obtain ⟨I,h1,h2⟩:=hx k zO;obtain ⟨kd,O,Q,R,t,F,M,E,rfl,q⟩:=lC h2;have s:Rows.uptoBulk (D k)<=Rows.uptoBulk (.slice ((List.range n).map D) ((List.range (m - n)).map fun j=>D (n+j))):=by
    have:=PZ (l:=(List.range n).map D) (d:=D k) (vT.2 ⟨k,List.mem_range.2 hk,rfl⟩);simp only [Rows.uptoBulk];omega
   rw [Lg] at h1;obtain ⟨_,_,e⟩:=kA h1;simp only [add_add] at e;obtain ⟨G,N,spot⟩:=a;have o:spot=none:=by
    obtain ⟨J,r,B⟩:=hx 0 zO;rw [Lg] at r;obtain ⟨_,_,i⟩:=kA r;obtain ⟨_,_,_,_,_,_,_,_,rfl,_⟩:=mi B;have:=i 0 zO;simp [add_add] at this;simpa [Addr.add] using jL this
   subst o;have u:=e 0 zO;have v:=e 1 zO;have w:=e 2 zO;have y:=e 3 zO;have z:=e 4 zO;have A:=e 5 zO;rw [vJ] at u v w y z A;simp only [<- Nat.add_assoc] at v w y z A;obtain ⟨P,hP⟩:=q.p;refine ⟨G,N,kd,O,Q,R,t,F,M,E,rfl,xT W _ u,?_,?_,?_,?_,?_,?_,⟨q.kd,q.a,q.b,q.c,zG q.t s,P,hP.mono s⟩⟩
   ·simpa using u
   ·simpa using v
   ·simpa using w
   ·simpa using y
   ·simpa using z
   ·simpa using A
  ·have:=Nk ((List.range n).map D);simp only [Rows.uptoBulk];simp at this;omega
theorem Scr.mono(h:Scr N w ad n)(e:N<=M):Scr M w ad n:=fun k hk=>by
 obtain ⟨g,q,kd,a,b,c,t,f,o,i,h1,h2,h3,h4,h5,h6,j,l,d⟩:=h k hk;obtain ⟨P,hP⟩:=d.p;exact ⟨g,q,kd,a,b,c,t,f,o,i,h1,h2,h3,h4,h5,h6,j,l,⟨d.kd,d.a,d.b,d.c,zG d.t e,P,hP.mono e⟩⟩
open Go.RowKit
def K9(ρ ρ':Nat->Nat)(w w':World):Prop:=∀ k,k<w.heap.size->ρ k=9->w'.heap[k]?=w.heap[k]?/\ρ' k=9
theorem K9.Bk(h:Below w.heap.size w w'):K9 ρ ρ w w':=fun k hk a=>⟨h.block k hk,a⟩
theorem K9.own{e:TypeId}(h:K9 ρ ρ' w w')(o:w.ownsRow B e sz v n xs)(c:∀ g,v.ownBlock=some g->ρ g=9):w'.ownsRow B e sz v n xs:=by
 refine ⟨o.1,?_⟩;rcases o.2 with hn | ⟨g,cap,cur,rfl,b,a,rest⟩
 ·exact .inl hn
 ·refine .inr ⟨g,cap,cur,rfl,b,?_,rest⟩;rw [(h g (yQ.1 a).1 (c g rfl)).1];exact a
theorem K9.role{e:TypeId}(h:K9 ρ ρ' w w')(o:w.ownsRow B e sz v n xs)(b:∀ g,v.ownBlock=some g->ρ g=9):∀ g,v.ownBlock=some g->ρ' g=9:=fun g a=>(h g (Bj o a) (b g a)).2
noncomputable def JW(ρ:Nat->Nat)(w:World):List (Nat×Obj):=(List.range w.heap.size).filterMap fun k=>if ρ k=9 then (w.heap[k]?).map fun o=>(k,o) else none
theorem bc{x:Nat×Obj}(h:x∈JW ρ w):w.heap[x.1]?=some x.2/\ρ x.1=9:=by
 unfold JW at h;obtain ⟨k,_,hk⟩:=List.mem_filterMap.1 h;by_cases a:ρ k=9
 ·rw [zC a] at hk;obtain ⟨o,ho,rfl⟩:=kW.1 hk;exact ⟨ho,a⟩
 ·rw [zA a] at hk;cases hk
theorem dR(hk:k<w.heap.size)(a:ρ k=9):(k,w.heap[k])∈JW ρ w:=by
 unfold JW;refine List.mem_filterMap.2 ⟨k,List.mem_range.2 hk,?_⟩;rw [zC a,vY hk];rfl
theorem Inv.still(h:Inv B gW d ρ s w)(st:List (Nat×Obj))(h1:∀ x∈st,w.heap[x.1]?=some x.2/\ρ x.1=9):Inv B gW d ρ { s with still:=st } w:=⟨h.gB,h.hB,h.row,h.len,h.PA,h.RL,h.OJ,h.Gv,h.wt,h.wr,h.bk,h.rW,h.rl,h.Ke,h.rr,h.rb,h.OD,h.OO,h.NV,h.Vp,h.Rh,h.UY,h.UQ,fun x hx=>(h1 x hx).1,fun x hx=>(h1 x hx).2⟩
theorem Inv.JW(h:Inv B gW d ρ s w):Inv B gW d ρ { s with still:=Go.Proofs.YtbcjmakpempkiaaGreatDoor.JW ρ w } w:=h.still _ fun _ hx=>bc hx
theorem Inv.k9(h:Inv B gW d ρ' s' w')(hs:s'.still=Go.Proofs.YtbcjmakpempkiaaGreatDoor.JW ρ w):K9 ρ ρ' w w':=fun k hk a=>by
 have hm:=dR hk a;rw [<- hs] at hm;have h1:=h.UZ _ hm;exact ⟨by rw [h1,vY hk],h.Qe _ hm⟩
structure Fw(k:Nat)(s:Aj):Prop where
 ln:s.lens.length<=k
 wt:s.waits.length<=2*k
 mm:s.CX+s.waits.length<=3*k
 bk:s.Ay.length+s.waits.length<=3*k
theorem Fw.next(h:Fw k s)(a:Wc s s'):Fw (k+1) s':=⟨by have:=h.ln;have:=a.ln;omega,by have:=h.wt;have:=a.wt;omega,by have:=h.mm;have:=a.CX;have:=a.wt;omega,by have:=h.bk;have:=a.bk;have:=a.wt;omega⟩
theorem Fw.mono(h:Fw k s)(hm:k<=m):Fw m s:=⟨by have:=h.ln;omega,by have:=h.wt;omega,by have:=h.mm;omega,by have:=h.bk;omega⟩
theorem Fw.settled{bs:List (Int×List Value)}(h:Fw k s)(a:bs.length=s.Ay.length+s.waits.length):Fw k { s with CX:=s.CX+s.waits.length,vb:=vb,Ay:=bs,vw:= .slice none 0 0,waits:=[],vr:= .slice none 0 0,CO:=[] }:=⟨h.ln,zS,by simpa using h.mm,by have:=h.bk;simp;omega⟩
def ek(B:Nat)(ρ:Nat->Nat)(s:Aj)(w:World)(C:List (List Int)):Prop:=w.ownsRow B 42 7 s.vcs C.length (C.flatMap Al)/\∀ g,s.vcs.ownBlock=some g->ρ g=9
def et(B:Nat)(ρ:Nat->Nat)(s:Aj)(w:World)(S:List ByteArray):Prop:=w.ownsRow B 9 1 s.GQ S.length (S.map Value.string)/\∀ g,s.GQ.ownBlock=some g->ρ g=9
theorem ek.k9(h:ek B ρ s w C)(k:K9 ρ ρ' w w')(e:s'.vcs=s.vcs):ek B ρ' s' w' C:=by
 unfold ek;rw [e];exact ⟨k.own h.1 h.2,k.role h.1 h.2⟩
theorem et.k9(h:et B ρ s w S)(k:K9 ρ ρ' w w')(e:s'.GQ=s.GQ):et B ρ' s' w' S:=by
 unfold et;rw [e];exact ⟨k.own h.1 h.2,k.role h.1 h.2⟩
structure bM(H:Nat)(Y:Nat->(Nat->Nat)->Aj->World->Prop):Prop where
 k9:∀ {n:Nat} {ρ ρ':Nat->Nat} {s s':Aj} {w w':World},Y n ρ s w->K9 ρ ρ' w w'->w.heap.size<=w'.heap.size->s'.DZ=s.DZ->s'.Ec=s.Ec->s'.vcs=s.vcs->s'.GQ=s.GQ->Y n ρ' s' w'
 app:∀ {n:Nat} {ρ ρ':Nat->Nat} {s s':Aj} {w w':World},Y n ρ s w->(∀ k,k<w.heap.size->ρ k=9->s.vcs.ownBlock≠some k->s.GQ.ownBlock≠some k->w'.heap[k]?=w.heap[k]?/\ρ' k=9)->(∀ g,s'.vcs.ownBlock=some g\/s'.GQ.ownBlock=some g->s.vcs.ownBlock=some g\/s.GQ.ownBlock=some g\/w.heap.size<=g)->w.heap.size<=w'.heap.size->s'.DZ=s.DZ->s'.Ec=s.Ec->Y n ρ' s' w'
 nP:∀ (ρ:Nat->Nat) (s:Aj) (w:World),s.DZ= .slice none 0 0->s.Ec= .slice none 0 0->H<=w.heap.size->Y 0 ρ s w
 mono:∀ {n m:Nat} {ρ:Nat->Nat} {s:Aj} {w:World},Y n ρ s w->n<=m->Y m ρ s w
structure LI(B gW:Nat)(Y:Nat->(Nat->Nat)->Aj->World->Prop)(C:List (List Int))(S:List ByteArray)(k:Nat)(ρ:Nat->Nat)(s:Aj)(w:World):Prop where
 inv:Inv B gW 0 ρ s w
 fw:Fw k s
 cs:ek B ρ s w C
 ss:et B ρ s w S
 y:Y k ρ s w
theorem LI.below{Y:Nat->(Nat->Nat)->Aj->World->Prop}(a:bM H Y)(h:LI B gW Y C S k ρ s w)(b:Below w.heap.size w w'):LI B gW Y C S k ρ s w':=⟨h.inv.below b,h.fw,h.cs.k9 (K9.Bk b) rfl,h.ss.k9 (K9.Bk b) rfl,a.k9 h.y (K9.Bk b) b.size rfl rfl rfl rfl⟩
theorem LI.mono{Y:Nat->(Nat->Nat)->Aj->World->Prop}(a:bM H Y)(h:LI B gW Y C S k ρ s w)(hm:k<=m):LI B gW Y C S m ρ s w:={ h with fw:=h.fw.mono hm,y:=a.mono h.y hm }
theorem LI.ZU{Y:Nat->(Nat->Nat)->Aj->World->Prop}(b:bM H Y)(h:LI B gW Y C S k ρ s w)(hi:Inv B gW 0 ρ' s' w')(a:Wc { s with still:=JW ρ w } s')(hs:w.heap.size<=w'.heap.size):LI B gW Y C S (k+1) ρ' s' w':=by
 have K:=hi.k9 a.st.1;exact ⟨hi,(Fw.next (s:={ s with still:=JW ρ w }) ⟨h.fw.ln,h.fw.wt,h.fw.mm,h.fw.bk⟩ a),h.cs.k9 K a.cs,h.ss.k9 K a.ss,b.mono (b.k9 h.y K hs a.st.2.2 a.st.2.1 a.cs a.ss) (kY _)⟩
theorem LI.settled{Y:Nat->(Nat->Nat)->Aj->World->Prop}(a:bM H Y){bs:List (Int×List Value)}(h:LI B gW Y C S k ρ s w)
  (hi:Inv B gW 0 ρ' { ({ s with still:=JW ρ w }:Aj) with CX:=s.CX+s.waits.length,vb:=vb,Ay:=bs,vw:= .slice none 0 0,waits:=[],vr:= .slice none 0 0,CO:=[] } w') (b:bs.length=s.Ay.length+s.waits.length) (hs:w.heap.size<=w'.heap.size) :
  LI B gW Y C S k ρ' { ({ s with still:=JW ρ w }:Aj) with CX:=s.CX+s.waits.length,vb:=vb,Ay:=bs,vw:= .slice none 0 0,waits:=[],vr:= .slice none 0 0,CO:=[] } w':=by
 have K:=hi.k9 rfl;exact ⟨hi,Fw.settled (s:={ s with still:=JW ρ w }) ⟨h.fw.ln,h.fw.wt,h.fw.mm,h.fw.bk⟩ b,h.cs.k9 K rfl,h.ss.k9 K rfl,a.k9 h.y K hs rfl rfl rfl rfl⟩
theorem eH{Y:Nat->(Nat->Nat)->Aj->World->Prop}(p:bM H Y)(h:LI B gW Y C S k ρ s w)(kd a b c:Int)(t:ByteArray)(g:Option Addr)(o i:Nat)(hk:kd<3)(q:k<=2000000) :
  Calls prog 34 #[.pointer (some ⟨gW,0,none⟩), .agg (Gx kd a b c t (.slice g o i))] w fun e d=>e= .returned (.bool true)/\Below B w d/\∃ (ρ':Nat->Nat) (f:Aj),LI B gW Y C S (k+1) ρ' f d/\K9 ρ ρ' w d:=by
 have r:=h.fw.ln;refine (YO B gW ρ { s with still:=JW ρ w } kd a b c t g o i w h.inv.JW hk (by show s.lens.length<=_;omega)).mono ?_;rintro e d ⟨rfl,l,ρ',f,j,n⟩;exact ⟨rfl,l,ρ',f,h.ZU p j n l.size,j.k9 n.st.1⟩
theorem Sg{Y:Nat->(Nat->Nat)->Aj->World->Prop}(f:bM H Y)(h:LI B gW Y C S k ρ s w)(g:k<=2000000) :
  Calls prog 35 #[.pointer (some ⟨gW,0,none⟩)] w fun e b=>e= .returned (.bool true)/\Below B w b/\∃ (ρ':Nat->Nat) (s':Aj),LI B gW Y C S k ρ' s' b:=by
 have j:=h.fw.ln;have l:=h.fw.wt;have n:=h.fw.mm;have o:=h.fw.bk;refine (WJ B gW ρ { s with still:=JW ρ w } w h.inv.JW (by show s.waits.length<=_;omega) (by show s.Ay.length<=_;omega) (by show s.CX<=_;omega)).mono ?_;rintro e b ⟨rfl,c,ρ',vb,i,d,a⟩;exact ⟨rfl,c,ρ',_,h.settled f d a c.size⟩
theorem Ij{e e':TypeId}{sz':Nat}{v':Value}{n':Nat}{xs':List Value}(h:w.ownsRow B e sz v n xs)(j:w.ownsRow B e' sz' v' n' xs')(d:e≠e')(c:v.ownBlock=some g):v'.ownBlock≠some g:=fun a=>by
 rcases h.2 with ⟨hv,_⟩ | ⟨k,c1,f,hv,_,h1,_⟩
 ·rw [hv] at c;simp [Value.ownBlock] at c
 ·rcases j.2 with ⟨b,_⟩ | ⟨g2,c2,i,b,_,h2,_⟩
  ·rw [b] at a;simp [Value.ownBlock] at a
  ·rw [hv] at c;rw [b] at a;simp [Value.ownBlock] at c a;subst c;subst a;rw [h1] at h2;simp at h2;exact d h2.2
theorem Inv.nine(h:Inv B gW 0 ρ s w)(hk:Kp (fun r=>r=9\/r=5) ρ w w')(hρ:∀ k,k<w.heap.size->ρ' k=ρ k)(l:w'.rowIs gW 75 9 (fld s'))
  (e:s'.vl=s.vl/\s'.lens=s.lens/\s'.CX=s.CX/\s'.vw=s.vw/\s'.waits=s.waits/\s'.vr=s.vr/\s'.CO=s.CO/\s'.vb=s.vb/\s'.Ay=s.Ay) (v:s'.still=[]):Inv B gW 0 ρ' s' w':=by
 obtain ⟨vcs,GQ,vl,lens,CX,vw,waits,vr,CO,vb,Ay,still,DZ,Ec⟩:=s;obtain ⟨A,D,H,y,z,J,p,I,q,G,o,d,C,E⟩:=s';obtain ⟨rfl,rfl,rfl,rfl,rfl,rfl,rfl,rfl,rfl⟩:=e;obtain rfl:d=[]:=v;have a:=h.Hx (ρ':=ρ') (fun k hk _=>hρ k hk);have f:Kp (fun r=>r=9\/r=5) ρ' w w':=hk.congr (fun k hk=>by rw [hρ k hk];exact fun x=>x);exact {
  gB:=h.gB
  hB:=zG h.hB f.size
  row:=l
  len:=As a.len f (fun g c j=>by have:=a.rl g c;omega)
  PA:=As a.PA f (fun g c j=>by have:=a.Ke g c;omega)
  RL:=As a.RL f (fun g c j=>by have:=a.rr g c;omega)
  OJ:=As a.OJ f (fun g c j=>by have:=a.rb g c;omega)
  Gv:=h.Gv
  wt:=fun i hi hd=>⟨As (a.wt i hi hd).1 f (fun g c j=>by have:=a.OD i hi hd g c;omega),(a.wt i hi hd).2⟩
  wr:=fun i hi u=>As (a.wr i hi u) f (fun g c j=>by have:=a.OO _ (yD hi) g c;omega)
  bk:=fun b t=>⟨(a.bk b t).1,fun x hx=>by
   obtain ⟨n,F⟩:=(a.bk b t).2 x hx;exact ⟨n,As F f (fun g c j=>by have:=a.NV b t x hx g c;omega)⟩⟩
  rW:=a.rW
  rl:=a.rl
  Ke:=a.Ke
  rr:=a.rr
  rb:=a.rb
  OD:=a.OD
  OO:=a.OO
  NV:=a.NV
  Vp:=h.Vp
  Rh:=h.Rh
  UY:=h.UY
  UQ:=h.UQ
  UZ:=fun x hx=>by cases hx
  Qe:=fun x hx=>by cases hx }
theorem fK(s:Aj)(v:Value)(i:Nat)(hi:i<9):(if i=0 then v else fld s i)=fld { s with vcs:=v,still:=[] } i:=by
 have:i=0\/i=1\/i=2\/i=3\/i=4\/i=5\/i=6\/i=7\/i=8:=zO;rcases this with rfl | rfl | rfl | rfl | rfl | rfl | rfl | rfl | rfl <;> simp [fld]
theorem fL(s:Aj)(v:Value)(i:Nat)(hi:i<9):(if i=1 then v else fld s i)=fld { s with GQ:=v,still:=[] } i:=by
 have:i=0\/i=1\/i=2\/i=3\/i=4\/i=5\/i=6\/i=7\/i=8:=zO;rcases this with rfl | rfl | rfl | rfl | rfl | rfl | rfl | rfl | rfl <;> simp [fld]
theorem LI.mL{Y:Nat->(Nat->Nat)->Aj->World->Prop}(D:bM H Y){C':List (List Int)}(h:LI B gW Y C S k ρ s w)
  (a:w.grownBy w1 s.vcs.ownBlock) (j:w1.ownsRow B 42 7 (.slice (some ⟨g,0,none⟩) (C.length+C'.length) cap) (C.length+C'.length) (C.flatMap Al++C'.flatMap Al)) (l:s.vcs.ownBlock=some g\/g=w.heap.size) :
  (∃ ρ' s',LI B gW Y (C++C') S k ρ' s' (w1.setCell ⟨gW,0,none⟩ (.slice (some ⟨g,0,none⟩) (C.length+C'.length) cap))/\K9 (fun k=>if s.vcs.ownBlock=some k then 0 else ρ k) ρ' w (w1.setCell ⟨gW,0,none⟩ (.slice (some ⟨g,0,none⟩) (C.length+C'.length) cap)))/\Below B w (w1.setCell ⟨gW,0,none⟩ (.slice (some ⟨g,0,none⟩) (C.length+C'.length) cap)):=by
 obtain ⟨v,hv⟩:=qe (Value.slice (some ⟨g,0,none⟩) (C.length+C'.length) cap);have p:v.ownBlock=some g:=by rw [hv];rfl
 rw [<- hv] at j |-;have t:=h.inv.row.lt;have f:=h.inv.rW;have A:g≠gW:=fun e=>by
  rcases l with z | z
  ·have:=h.cs.2 g z;rw [e,f] at this;omega
  ·omega
 have u:s.vcs.ownBlock≠some gW:=fun e=>by have:=h.cs.2 gW e;omega
 have o:w.heap.size<=(w1.setCell ⟨gW,0,none⟩ v).heap.size:=by have:=a.size;simpa using this
 have c:∀ k,k<w.heap.size->k≠gW->s.vcs.ownBlock≠some k->(w1.setCell ⟨gW,0,none⟩ v).heap[k]?=w.heap[k]?:=fun k hk h1 h2=>by
  rw [zZ _ _ _ _ h1];exact a.block k hk (zY h2)
 have hρ:∀ k,k<w.heap.size->setρ ρ g 9 k=ρ k:=fun k hk=>by
  by_cases e:k=g
  ·subst e;rcases l with e | e
   ·rw [setρ_at,h.cs.2 _ e]
   ·omega
  ·exact setρ_ne e
 have I:Inv B gW 0 (setρ ρ g 9) { s with vcs:=v,still:=[] } (w1.setCell ⟨gW,0,none⟩ v):=by
  refine h.inv.nine ⟨o,fun k hk n=>c k hk (fun e=>n (Or.inr (by rw [e];exact f))) (fun e=>n (Or.inl (h.cs.2 k e)))⟩ hρ ?_ ⟨rfl,rfl,rfl,rfl,rfl,rfl,rfl,rfl,rfl⟩ rfl;exact ((h.inv.row.of_block (a.block gW t (zY u))).set 0 v).congr (fun i hi=>fK s v i hi)
 refine ⟨⟨setρ ρ g 9,{ s with vcs:=v,still:=[] },⟨I,⟨h.fw.ln,h.fw.wt,h.fw.mm,h.fw.bk⟩,⟨?_,fun x hx=>?_⟩,⟨?_,fun x hx=>?_⟩,?_⟩,?_⟩,?_⟩
 ·show World.ownsRow _ B _ 7 v (C++C').length ((C++C').flatMap Al);rw [zI,AX];exact As (R:=fun k=>k=gW) (ρ:=fun k=>k) j ⟨by simp [World.setCell],fun k _ hk=>zZ _ _ _ _ hk⟩ (fun x hx=>by rw [p] at hx;injection hx with hx;omega)
 ·have b:v.ownBlock=some x:=hx;rw [p] at b;injection b with b
  rw [<- b];exact setρ_at _ _ _
 ·have r:∀ x,s.GQ.ownBlock=some x->s.vcs.ownBlock≠some x:=fun x hx=>Ij h.ss.1 h.cs.1 zD hx
  refine As (R:=fun k=>k=gW\/s.vcs.ownBlock=some k) (ρ:=fun k=>k) h.ss.1 ⟨o,fun k hk n=>c k hk (fun e=>n (Or.inl e)) (fun e=>n (Or.inr e))⟩ (fun x hx n=>?_);rcases n with e | e
  ·have:=h.ss.2 x hx;rw [e,f] at this;omega
  ·exact r x hx e
 ·rw [hρ x (Bj h.ss.1 hx)];exact h.ss.2 x hx
 ·refine D.app h.y (fun k hk q h1 h2=>⟨c k hk (fun e=>by rw [e,f] at q;omega) h1,by rw [hρ k hk];exact q⟩) (fun x hx=>?_) o rfl rfl;rcases hx with hx | hx
  ·have b:v.ownBlock=some x:=hx;rw [p] at b;injection b with b
   subst b;rcases l with e | e
   ·exact Or.inl e
   ·right;right;omega
  ·exact Or.inr (Or.inl hx)
 ·intro k hk q;by_cases e:s.vcs.ownBlock=some k
  ·have d:(if s.vcs.ownBlock=some k then 0 else ρ k)=9:=q;rw [zC e] at d;omega
  ·have d:(if s.vcs.ownBlock=some k then 0 else ρ k)=9:=q;rw [zA e] at d;exact ⟨c k hk (fun e=>by rw [e,f] at d;omega) e,by rw [hρ k hk];exact d⟩
 ·exact ((zF B w).grown a h.inv.hB (fun x hx=>(h.cs.1.lt x hx).1)).setCell h.inv.gB _
theorem LI.mM{Y:Nat->(Nat->Nat)->Aj->World->Prop}(A:bM H Y){S':List ByteArray}(h:LI B gW Y C S k ρ s w)
  (a:w.grownBy w1 s.GQ.ownBlock) (f:w1.ownsRow B 9 1 (.slice (some ⟨g,0,none⟩) (S.length+S'.length) cap) (S.length+S'.length) (S.map Value.string++S'.map Value.string)) (j:s.GQ.ownBlock=some g\/g=w.heap.size) :
  (∃ ρ' s',LI B gW Y C (S++S') k ρ' s' (w1.setCell ⟨gW,1,none⟩ (.slice (some ⟨g,0,none⟩) (S.length+S'.length) cap)))/\Below B w (w1.setCell ⟨gW,1,none⟩ (.slice (some ⟨g,0,none⟩) (S.length+S'.length) cap)):=by
 obtain ⟨v,hv⟩:=qe (Value.slice (some ⟨g,0,none⟩) (S.length+S'.length) cap);have o:v.ownBlock=some g:=by rw [hv];rfl
 rw [<- hv] at f |-;have q:=h.inv.row.lt;have d:=h.inv.rW;have z:g≠gW:=fun e=>by
  rcases j with t | t
  ·have:=h.ss.2 g t;rw [e,d] at this;omega
  ·omega
 have r:s.GQ.ownBlock≠some gW:=fun e=>by have:=h.ss.2 gW e;omega
 have n:w.heap.size<=(w1.setCell ⟨gW,1,none⟩ v).heap.size:=by have:=a.size;simpa using this
 have c:∀ k,k<w.heap.size->k≠gW->s.GQ.ownBlock≠some k->(w1.setCell ⟨gW,1,none⟩ v).heap[k]?=w.heap[k]?:=fun k hk h1 h2=>by
  rw [zZ _ _ _ _ h1];exact a.block k hk (zY h2)
 have hρ:∀ k,k<w.heap.size->setρ ρ g 9 k=ρ k:=fun k hk=>by
  by_cases e:k=g
  ·subst e;rcases j with e | e
   ·rw [setρ_at,h.ss.2 _ e]
   ·omega
  ·exact setρ_ne e
 have I:Inv B gW 0 (setρ ρ g 9) { s with GQ:=v,still:=[] } (w1.setCell ⟨gW,1,none⟩ v):=by
  refine h.inv.nine ⟨n,fun k hk l=>c k hk (fun e=>l (Or.inr (by rw [e];exact d))) (fun e=>l (Or.inl (h.ss.2 k e)))⟩ hρ ?_ ⟨rfl,rfl,rfl,rfl,rfl,rfl,rfl,rfl,rfl⟩ rfl;exact ((h.inv.row.of_block (a.block gW q (zY r))).set 1 v).congr (fun i hi=>fL s v i hi)
 refine ⟨⟨setρ ρ g 9,{ s with GQ:=v,still:=[] },⟨I,⟨h.fw.ln,h.fw.wt,h.fw.mm,h.fw.bk⟩,⟨?_,fun x hx=>?_⟩,⟨?_,fun x hx=>?_⟩,?_⟩⟩,?_⟩
 ·have p:∀ x,s.vcs.ownBlock=some x->s.GQ.ownBlock≠some x:=fun x hx=>Ij h.cs.1 h.ss.1 zD hx
  refine As (R:=fun k=>k=gW\/s.GQ.ownBlock=some k) (ρ:=fun k=>k) h.cs.1 ⟨n,fun k hk l=>c k hk (fun e=>l (Or.inl e)) (fun e=>l (Or.inr e))⟩ (fun x hx l=>?_);rcases l with e | e
  ·have:=h.cs.2 x hx;rw [e,d] at this;omega
  ·exact p x hx e
 ·rw [hρ x (Bj h.cs.1 hx)];exact h.cs.2 x hx
 ·show World.ownsRow _ B _ 1 v (S++S').length ((S++S').map Value.string);rw [zI,jQ];exact As (R:=fun k=>k=gW) (ρ:=fun k=>k) f ⟨by simp [World.setCell],fun k _ hk=>zZ _ _ _ _ hk⟩ (fun x hx=>by rw [o] at hx;injection hx with hx;omega)
 ·have b:v.ownBlock=some x:=hx;rw [o] at b;injection b with b
  rw [<- b];exact setρ_at _ _ _
 ·refine A.app h.y (fun k hk u h1 h2=>⟨c k hk (fun e=>by rw [e,d] at u;omega) h2,by rw [hρ k hk];exact u⟩) (fun x hx=>?_) n rfl rfl;rcases hx with hx | hx
  ·exact Or.inl hx
  ·have b:v.ownBlock=some x:=hx;rw [o] at b;injection b with b
   subst b;rcases j with e | e
   ·exact Or.inr (Or.inl e)
   ·right;right;omega
 ·exact ((zF B w).grown a h.inv.hB (fun x hx=>(h.ss.1.lt x hx).1)).setCell h.inv.gB _
theorem LI.same{Y:Nat->(Nat->Nat)->Aj->World->Prop}(d:bM H Y)(h:LI B gW Y C S k ρ s w)(i:Nat):LI B gW Y C S k ρ s (w.setCell ⟨gW,i,none⟩ (fld s i))/\Below B w (w.setCell ⟨gW,i,none⟩ (fld s i)):=by
 obtain ⟨I,b⟩:=h.inv.same (i:=i);have K:K9 ρ ρ w (w.setCell ⟨gW,i,none⟩ (fld s i)):=fun k hk a=>⟨zZ _ _ _ _ (fun e=>by have c:k=gW:=e;have:=h.inv.rW;rw [c] at a;omega),a⟩
 exact ⟨⟨I,h.fw,h.cs.k9 K rfl,h.ss.k9 K rfl,d.k9 h.y K b.size rfl rfl rfl rfl⟩,b⟩
structure Cfgs(w:World)(N:Nat)(ad:Option Addr)(n cap:Nat)(C:List (List Int)):Prop where
 len:C.length=n
 each:∀ c∈C,c.length=7/\∀ z∈c,Kv z
 at_:∀ x,ad=some x->∀ j u,(C.flatMap Al)[j]?=some u->x.block<w.heap.size/\w.cell? (x.add j)=some u
 Zi:n<=cap/\cap<=maxLen
 nil:ad=none->n=0/\cap=0
 small:n<=N
structure PL(C:List (List Int))(S:List ByteArray):Prop where
 cl:C.length<=2000000
 ce:∀ c∈C,c.length=7/\∀ z∈c,Kv z
 sl:S.length<=2000000
 se:∀ s∈S,s.size<=1048576
 ne:0<C.length/\0<S.length
def KH(H:Nat)(ρ ρ':Nat->Nat)(w w':World):Prop:=∀ k,k<H->k<w.heap.size->ρ k=9->w'.heap[k]?=w.heap[k]?/\ρ' k=9
structure Uf(lo up:Int)(w:World)(Y:Nat->Nat->(Nat->Nat)->Aj->World->Prop):Prop where
 ok:∀ H,bM H (Y H)
 nc:3<=lo
 step:∀ {H:Nat} {C:List (List Int)} {S:List ByteArray} {k:Nat} {ρ:Nat->Nat} {s:Aj} {wr:World} (kd a b c:Int) (t:ByteArray) (ap:Option Addr) (np cp:Nat),PL C S->lo<=kd->kd<=up->k<=2000000->LI w.heap.size w.heap.size (Y H) C S k ρ s wr->Below w.heap.size w wr->lz w 1048576 kd a b c t ap np cp->
  Calls prog 34 #[.pointer (some ⟨w.heap.size,0,none⟩), .agg (Gx kd a b c t (.slice ap np cp))] wr fun e w'=>e= .returned (.bool true)/\Below w.heap.size wr w'/\∃ (ρ':Nat->Nat) (s':Aj),LI w.heap.size w.heap.size (Y H) C S (k+1) ρ' s' w'/\KH H ρ ρ' wr w'
 looks:∀ {H:Nat} {C:List (List Int)} {S:List ByteArray} {k:Nat} {ρ:Nat->Nat} {s:Aj} {wr:World},k<=2000000->LI w.heap.size w.heap.size (Y H) C S k ρ s wr->
  Calls prog 36 #[.pointer (some ⟨w.heap.size,0,none⟩)] wr fun e w'=>e= .returned (.bool true)/\Below wr.heap.size wr w'
theorem Uf.Ma{lo up:Int}{Y:Nat->Nat->(Nat->Nat)->Aj->World->Prop}(h:Uf lo up w Y){wr:World}(kd a b c:Int)(t:ByteArray)(d:Option Addr)(g f:Nat)(u:PL C S)(o:kd<3\/(lo<=kd/\kd<=up))(hk:k<=2000000)(q:LI w.heap.size w.heap.size (Y H) C S k ρ s wr)(y:Below w.heap.size w wr)(v:lz w 1048576 kd a b c t d g f) :
  Calls prog 34 #[.pointer (some ⟨w.heap.size,0,none⟩), .agg (Gx kd a b c t (.slice d g f))] wr fun e j=>e= .returned (.bool true)/\Below w.heap.size wr j/\∃ (ρ':Nat->Nat) (p:Aj),LI w.heap.size w.heap.size (Y H) C S (k+1) ρ' p j/\KH H ρ ρ' wr j:=by
 rcases o with h3 | ⟨h1,h2⟩
 ·refine (eH (h.ok H) q kd a b c t d g f h3 hk).mono ?_;rintro e j ⟨rfl,n,ρ',p,l,K⟩;exact ⟨rfl,n,ρ',p,l,fun i _ hi r=>K i hi r⟩
 ·exact h.step kd a b c t d g f u h1 h2 hk q y v
def Jo:List Int:=[0,9,9,9,1,9,99]
def VZ:ByteArray:=⟨#[1,2,0,253,255,104,105]⟩
theorem Xi:[Jo].flatMap Al=QY.toList:=rfl
theorem XV:PL [Jo] [VZ]:=by
 refine ⟨zD,fun c hc=>?_,zD,fun s hs=>?_,⟨zD,zD⟩⟩
 ·rw [yY.1 hc];exact ⟨rfl,fun z a=>by simp [Jo] at a;unfold Kv;omega⟩
 ·rw [yY.1 hs];decide
theorem gP(w:World){kd a b c:Int}{t:ByteArray}(hk:k<18)(d:Er[k*6]?=some (.int .i64 kd))(f:Er[k*6+1]?=some (.int .i64 a))(g:Er[k*6+2]?=some (.int .i64 b))(h:Er[k*6+3]?=some (.int .i64 c))(i:Er[k*6+4]?=some (.string t)):lz w 1048576 kd a b c t none 0 0:=by
 have T:Txts w 1048576 none 0 0 []:=⟨rfl,fun k hk=>by simp at hk,⟨zE _,by unfold maxLen;omega⟩,fun _=>⟨rfl,rfl⟩,fun _ e=>(by cases e),zH _,zH _⟩
 have:k=0\/k=1\/k=2\/k=3\/k=4\/k=5\/k=6\/k=7\/k=8\/k=9\/k=10\/k=11\/k=12\/k=13\/k=14\/k=15\/k=16\/k=17:=zO;rcases this with rfl | rfl | rfl | rfl | rfl | rfl | rfl | rfl | rfl | rfl | rfl | rfl | rfl | rfl | rfl | rfl | rfl | rfl <;>
  (simp [Er,SS,iK] at d f g h i
   subst d;subst f;subst g;subst h;subst i;exact ⟨by unfold Kv;omega,by unfold Kv;omega,by unfold Kv;omega,by unfold Kv;omega,zD,[],T⟩)
theorem jj{Y:Nat->(Nat->Nat)->Aj->World->Prop}(j:bM (W.heap.size+1) Y){g1 p1 g2 p2:Nat}(i:W.rowIs w.heap.size 75 9 (fld (DS (.slice (some ⟨g1,0,none⟩) 1 p1) (.slice (some ⟨g2,0,none⟩) 1 p2) [])))(f:Below w.heap.size w W)
  (h1:W.ownsRow w.heap.size 42 7 (.slice (some ⟨g1,0,none⟩) 1 p1) 1 QY.toList) (h2:W.ownsRow w.heap.size 9 1 (.slice (some ⟨g2,0,none⟩) 1 p2) 1 [.string VZ]) (n1:g1≠w.heap.size) (l:g2≠w.heap.size) :
  (∃ ρ s,LI w.heap.size w.heap.size Y [Jo] [VZ] 0 ρ s (W.alloc (.cells Er 79))/\ρ W.heap.size=9)/\Below w.heap.size w (W.alloc (.cells Er 79)):=by
 have c:=i.lt;have e:Below w.heap.size w (W.alloc (.cells Er 79)):=f.alloc f.size _;obtain ⟨ρ,hρ⟩:∃ ρ:Nat->Nat,ρ=fun k=>if k=w.heap.size then 5 else if k<=W.heap.size then 9 else 0:=⟨_,rfl⟩
 have r5:ρ w.heap.size=5:=by rw [hρ];exact zC rfl
 have r9:∀ k,k≠w.heap.size->k<=W.heap.size->ρ k=9:=fun k h1 h2=>by
  rw [hρ];show (if k=w.heap.size then 5 else if k<=W.heap.size then 9 else 0)=9;rw [zA h1,zC h2]
 have d:Below W.heap.size W (W.alloc (.cells Er 79)):=zB.alloc zL _;have n:=As (R:=fun _=>False) (ρ:=ρ) h1 (Kp.Bk d) (fun _ _ x=>x);have o:=As (R:=fun _=>False) (ρ:=ρ) h2 (Kp.Bk d) (fun _ _ x=>x);have p:g1<W.heap.size:=Bj h1 rfl;have q:g2<W.heap.size:=Bj h2 rfl;refine ⟨⟨ρ,DS (.slice (some ⟨g1,0,none⟩) 1 p1) (.slice (some ⟨g2,0,none⟩) 1 p2) [],⟨?_,⟨by simp [DS],by simp [DS],by simp [DS],by simp [DS]⟩,⟨?_,fun g b=>?_⟩,⟨?_,fun g b=>?_⟩,j.nP _ _ _ rfl rfl zS⟩,r9 _ zO zL⟩,e⟩
 ·exact Inv.nP r5 (fun x hx=>by cases hx) e (i.of_block (yK W _ _ c)) (fun x hx=>by cases hx)
 ·rw [Xi];exact n
 ·have a:some g1=some g:=b;injection a with a
  subst a;exact r9 _ n1 zO
 ·exact o
 ·have a:some g2=some g:=b;injection a with a
  subst a;exact r9 _ l zO
theorem da:∀ u∈l.flatMap Al,u.oneCell'=true:=fun u a=>by
 obtain ⟨c,_,hc⟩:=List.mem_flatMap.1 a;unfold Al at hc;obtain ⟨z,_,rfl⟩:=vT.1 hc;rfl
theorem iF(h:∀ c∈l,c.length=7):(l.flatMap Al).length=l.length*7:=by
 induction l with
 | nil=>rfl
 | cons x xs ih=>
  rw [xL,zI,ih (fun c hc=>h c (jP _ hc)),MC,h x (kO ..),yG];omega
theorem RD{x:Addr}(h:Txts w N (some x) n cap P):∀ j u,(P.map Value.string)[j]?=some u->x.block<w.heap.size/\w.cell? (x.add j)=some u:=fun j u a=>by
 have c:j<P.length:=by
  have:=(vH.1 a).1;simpa using this
 obtain ⟨b,o,e,d,hc⟩:=h.at_ j c;injection e with e
 subst e;refine ⟨d,?_⟩;rw [vJ,hc];rw [BT,xR c] at a;simpa using a
theorem Rn(x:Addr)(j:Nat):(x.add j).block=x.block:=by
 unfold Addr.add;split <;> rfl
theorem SZ(lo up:Int)(Y:Nat->Nat->(Nat->Nat)->Aj->World->Prop)(O:Option Addr)(V c4:Nat)(C:List (List Int))(P:Option Addr)(W c5:Nat)(S:List ByteArray)(ad:Option Addr)(n cap:Nat)(w:World)(hn:n<=1048576)(f7:Scr 1048576 w ad n)(hC:Cfgs w 1048576 O V c4 C)(hS:Txts w 1048576 P W c5 S)(hK:Uf lo up w Y) :
  Calls prog 12 #[.slice O V c4, .slice P W c5, .slice ad n cap, .int .i64 lo, .int .i64 up] w fun e w'=>e= .returned (.bool true)/\Below w.heap.size w w':=by
 have g4:=hid f7;have o:=CL hC hS;have L:=hid hK;have h7:=hK.nc;clear f7 hC hS hK;obtain ⟨i0,hi,b9,c2,c3⟩:=yM Nr;obtain ⟨W0,c6⟩:=qe (w.alloc (.cells #[.slice none 0 0, .slice none 0 0, .slice none 0 0, .slice none 0 0, .int .i64 0, .slice none 0 0, .slice none 0 0, .slice none 0 0, .slice none 0 0] 75));have R0:W0.rowIs w.heap.size 75 9 iT:=by rw [c6];exact ee w
 have B0:Below w.heap.size w W0:=by rw [c6];exact zB.alloc zL _
 have q:=R0.lt;have c0:W0.cell? ⟨w.heap.size,0,none⟩=some (.slice none 0 0):=R0.cell (i:=0) zO;have f0:=R0.frozen 0;go_enter func12,ntmps12
 go_upto_region 2 with fail
 rw [<- c6];clear c6;go_cut [11] (fun s X=>s= .pointer (some ⟨w.heap.size,0,none⟩)/\∃ (g1 p1:Nat),1<=p1/\X.rowIs w.heap.size 75 9 (fld (DS (.slice (some ⟨g1,0,none⟩) 1 p1) (.slice none 0 0) []))/\Below w.heap.size w X/\X.ownsRow w.heap.size 42 7 (.slice (some ⟨g1,0,none⟩) 1 p1) 1 QY.toList/\g1≠w.heap.size)
 case first=>
  go_region_law
   ((first
    | (refine eI rfl rfl zK ?_)
    | (refine xY _ (by rfl) _ _ _ (by rfl) w.heap.size 42 i0 _ 7 56 underlying39 hi b9 c2 c3 rfl zO (.slice none 0 0) 0 [] (by rfl) (yU _ _ _ _) ⟨W0.heap.size+1,0,none⟩ 1 1 QY.toList (by rfl) (by rfl) (xS (cs:=QY) (t:=42) (fr:=(0,0)) (OL W0 _ _)) (by simp [QY,Value.oneCell']) zO (by unfold maxLen;omega) zO (by simp;omega) (W0.heap.size+2) zS ?_;intro g1 p1 w1 b4 F e9 h8;have k0:=jb F q (by simp [Value.ownBlock]) c0;have z0:=ly F q (by simp [Value.ownBlock]) f0)))
  all_goals
   go_wp2_with fail
   go_meet
   have T:=iy (v:= .slice (some ⟨g1,0,none⟩) 1 p1) R0 B0 F;have f3:g1≠w.heap.size:=by
    rcases e9 with e | e
    ·simp [Value.ownBlock] at e
    ·omega
   exact ⟨rfl,g1,p1,ML b4,T.1,T.2,As (R:=fun k=>k=w.heap.size) (ρ:=fun k=>k) b4 ⟨by simp [World.setCell],fun k _ hk=>zZ _ _ _ _ hk⟩ (fun x hx=>by simp [Value.ownBlock] at hx;omega),f3⟩
 case rest=>
 obtain ⟨rfl,g1,p1,g5,R1,B1,O1,N1⟩:=hcut;have a7:=CL O1 N1;clear O1 N1;obtain ⟨j0,hj,b6,b7,b8⟩:=yM Jj;clear hi b9 c2 c3 i0 R0 B0 q c0 f0 W0;have q:=R1.lt;have c1:wc.cell? ⟨w.heap.size,1,none⟩=some (.slice none 0 0):=R1.cell (i:=1) zO;have f1:=R1.frozen 1;go_upto_region 4 with (first | (at_builtin;refine xC _ rfl (.tmp 38) (.tmp 39) 30 rfl w.heap.size 9 j0 (.string ⟨#[]⟩) 1 16 underlying30 hj b6 b7 b8 rfl zD (.slice none 0 0) 0 [] rfl (yU _ _ _ _) ⟨wc.heap.size,0,none⟩ 1 1 [.string ⟨#[1,2,0,253,255,104,105]⟩] rfl rfl (xS (zJ wc _)) (by simp [Value.oneCell']) zO (by unfold maxLen;omega) zO (by simp;omega) (wc.heap.size+1) zS ?_))
 intro g2 p2 w2 U r c8 f4;have k1:=Fh r q (by simp [Value.ownBlock]) c1;have z1:=Fk r q (by simp [Value.ownBlock]) f1;have T:=iz (v:= .slice (some ⟨g2,0,none⟩) 1 p2) R1 B1 r;have g6:=ML U;have N2:g2≠w.heap.size:=by
  rcases c8 with e | e
  ·simp [Value.ownBlock] at e
  ·omega
 have O2:(w2.setCell ⟨w.heap.size,1,none⟩ (.slice (some ⟨g2,0,none⟩) 1 p2)).ownsRow w.heap.size 9 1 (.slice (some ⟨g2,0,none⟩) 1 p2) 1 [.string VZ]:=As (R:=fun k=>k=w.heap.size) (ρ:=fun k=>k) U ⟨by simp [World.setCell],fun k _ hk=>zZ _ _ _ _ hk⟩ (fun x hx=>by simp [Value.ownBlock] at hx;omega);have O1:(w2.setCell ⟨w.heap.size,1,none⟩ (.slice (some ⟨g2,0,none⟩) 1 p2)).ownsRow w.heap.size 42 7 (.slice (some ⟨g1,0,none⟩) 1 p1) 1 QY.toList:=by
  have l1:g1<wc.heap.size:=Bj a7.out.1 rfl;have i5:=a7.out.2;refine As (R:=fun k=>k=w.heap.size\/wc.heap.size<=k) (ρ:=fun k=>k) a7.out.1 ⟨?_,fun k hk hr=>?_⟩ (fun x hx hr=>by simp [Value.ownBlock] at hx;omega)
  ·have:=r.size;simp at this |-;omega
  ·rw [zZ _ _ _ _ (fun e=>hr (Or.inl e)),r.block k (by simp;omega) (by simp [Value.ownBlock]),yK wc _ k zO]
 clear R1 B1 c1 f1 U r c8 q;go_upto_region 4 with fail
 obtain ⟨W3,e7⟩:=qe (w2.setCell ⟨w.heap.size,1,none⟩ (.slice (some ⟨g2,0,none⟩) 1 p2));rw [<- e7] at T O1 O2 |-;clear e7 k1 z1 f4;have T2:=jj (L.out.ok (W3.heap.size+1)) T.1 T.2 O1 O2 a7.out.2 N2;clear T O1 O2 N2 a7 g5 g6;go_wp2_with (first | (go_at_call 33;refine (Vs W3).mono ?_;rintro e w' ⟨rfl,rfl⟩))
 have HT:Hid (((∃ ρ s,LI w.heap.size w.heap.size (Y (W3.heap.size+1)) [Jo] [VZ] 0 ρ s (W3.alloc (.cells Er 79))/\ρ W3.heap.size=9)/\Below w.heap.size w (W3.alloc (.cells Er 79)))/\(W3.alloc (.cells Er 79)).heap[W3.heap.size]?=some (.cells Er 79 (0,0))):=⟨T2,zJ W3 _⟩
 obtain ⟨E,f2⟩:=qe W3.heap.size;obtain ⟨W4,e8⟩:=qe (W3.alloc (.cells Er 79));rw [<- e8] at HT |-;rw [<- f2] at HT |-;clear T2 f2 e8 hj b6 b7 b8 j0;go_loopw [13] (fun i wr=>∃ (k:Nat) (ρ:Nat->Nat) (s:Aj),k<=18/\i= .int .i64 k/\Hid (LI w.heap.size w.heap.size (Y (E+1)) [Jo] [VZ] k ρ s wr/\ρ E=9/\wr.heap[E]?=some (.cells Er 79 (0,0))/\Below w.heap.size w wr)) (fun i _=>18 - (intOf i).toNat)
 case atStart=>
  obtain ⟨⟨⟨ρ,s,h1,h2⟩,h3⟩,h4⟩:=HT.out;exact ⟨0,ρ,s,zH _,rfl,h1,h2,h4,h3⟩
 case round=>
  obtain ⟨k,ρ,s,hk,rfl,A⟩:=hrel;clear HT;have hh:=A.out.2.2.1;by_cases b3:k<18
  ·obtain ⟨kd,a,b,c,t,e0,e1,e2,e3,e4,e5,ht⟩:=gN k b3;have d0:wr.cell? ⟨E,k*6,none⟩=some (.int .i64 kd):=by rw [yA _ _ (k*6) _ _ _ hh];exact e0
   have d1:wr.cell? ⟨E,k*6+1,none⟩=some (.int .i64 a):=by rw [yA _ _ (k*6+1) _ _ _ hh];exact e1
   have d2:wr.cell? ⟨E,k*6+2,none⟩=some (.int .i64 b):=by rw [yA _ _ (k*6+2) _ _ _ hh];exact e2
   have d3:wr.cell? ⟨E,k*6+3,none⟩=some (.int .i64 c):=by rw [yA _ _ (k*6+3) _ _ _ hh];exact e3
   have d4:wr.cell? ⟨E,k*6+4,none⟩=some (.string t):=by rw [yA _ _ (k*6+4) _ _ _ hh];exact e4
   have d5:wr.cell? ⟨E,k*6+5,none⟩=some (.slice none 0 0):=by rw [yA _ _ (k*6+5) _ _ _ hh];exact e5
   have HP:=hid (gP w b3 e0 e1 e2 e3 e4);have q:=(yQ.1 hh).1;clear e0 e1 e2 e3 e4 e5 hh ht;by_cases c7:kd<3\/(lo<=kd/\kd<=up)
   ·have t0:(decide (kd<3)=true)\/(decide (kd<3)=false/\decide (lo<=kd)=true/\decide (kd<=up)=true):=by simp;omega
    rcases t0 with t1 | ⟨t1,t2,t3⟩
    all_goals
     go_wp2_with fail
     refine (L.out.Ma kd a b c t none 0 0 XV c7 zO A.out.1 A.out.2.2.2 HP.out).mono ?_;rintro e w' ⟨rfl,b1,ρ',s',a8,e6⟩;have Z:Hid (LI w.heap.size w.heap.size (Y (E+1)) [Jo] [VZ] (k+1) ρ' s' w'/\ρ' E=9/\w'.heap[E]?=some (.cells Er 79 (0,0))/\Below w.heap.size w w'):=by
      obtain ⟨q1,q2⟩:=e6 E zO q A.out.2.1;exact ⟨a8,q2,q1.trans A.out.2.2.1,A.out.2.2.2.trans b1⟩
     clear b1 a8 e6;go_wp2_with fail
     go_roundw
     case rel=>exact ⟨k+1,ρ',s',zO,by go_num,Z.out⟩
     case measure=>simp [intOf];omega
   ·have t1:decide (kd<3)=false:=by simp;omega
    have t0:(decide (lo<=kd)=false)\/(decide (lo<=kd)=true/\decide (kd<=up)=false):=by simp;omega
    rcases t0 with t2 | ⟨t2,t3⟩
    all_goals
     go_wp2_with fail
     go_roundw
     case rel=>exact ⟨k+1,ρ,s,zO,by go_num,A.out.1.mono (L.out.ok _) zO,A.out.2⟩
     case measure=>simp [intOf];omega
  ·obtain rfl:k=18:=zO;have f:=CL A.out.1 A.out.2.2.2;clear A hh hk b3;obtain ⟨q1,r1,b5,_,_⟩:=kK f.out.1.cs.1 zD;obtain ⟨q2,r2,G,_,_⟩:=kK f.out.1.ss.1 zD;simp only [yG,xA] at b5 G;have c0:wr.cell? ⟨w.heap.size,0,none⟩=some (.slice (some ⟨q1,0,none⟩) 1 r1):=by rw [f.out.1.inv.row.cell (i:=0) zO,show fld s 0=s.vcs from rfl,b5]
   have f0:=f.out.1.inv.row.frozen 0;have q:=f.out.1.inv.row.lt;have a1:Hid (s.vcs= .slice (some ⟨q1,0,none⟩) 1 r1):=b5;have g7:1<=r1:=by have h:=f.out.1.cs.1;rw [b5] at h;exact ML h
   have d7:1<=r2:=by have h:=f.out.1.ss.1;rw [G] at h;exact ML h
   clear b5 G;obtain ⟨i0,hi,b9,c2,c3⟩:=yM Nr;rw [show ((18:Nat):Int)=18 from rfl];go_upto_region 12 with fail
   go_cut [11] (fun d8 X=>d8= .pointer (some ⟨w.heap.size,0,none⟩)/\∃ (ρ:Nat->Nat) (s:Aj),Hid (LI w.heap.size w.heap.size (Y (E+1)) (Jo :: C) [VZ] 18 ρ s X/\Below w.heap.size w X))
   case first=>
    by_cases hm:V=0
    ·obtain rfl:C=[]:=AZ (o.out.1.len.trans hm);subst hm;have N:=f.out.1.same (L.out.ok _) 0;rw [show fld s 0=s.vcs from rfl,a1.out] at N;have M:=CL N.1 (f.out.2.trans N.2);clear N;have Q:O=none/\c4=0\/∃ x,O=some x:=by
      cases e:O with
      | none=>exact Or.inl ⟨rfl,(o.out.1.nil e).2⟩
      | some x=>exact Or.inr ⟨x,rfl⟩
     rcases Q with ⟨rfl,rfl⟩ | ⟨x,rfl⟩
     all_goals
      go_wp2_with fail
      go_meet
      exact ⟨rfl,ρ,s,M.out⟩
    ·obtain ⟨x,rfl⟩:∃ x,O=some x:=by
      cases e:O with
      | none=>exact absurd (o.out.1.nil e).1 hm
      | some x=>exact ⟨x,rfl⟩
     have B:∀ j u,(C.flatMap Al)[j]?=some u->wr.cell? (x.add j)=some u:=fun j u hu=>by
      obtain ⟨h1,h2⟩:=o.out.1.at_ x rfl j u hu;exact (f.out.2.cell (p:=x.add j) (by rw [Rn];exact h1)).trans h2
     have J:wr.ownsRow w.heap.size 42 7 (.slice (some ⟨q1,0,none⟩) 1 r1) 1 ([Jo].flatMap Al):=by have h:=f.out.1.cs.1;rw [a1.out] at h;exact h
     have hlen:(C.flatMap Al).length=V*7:=by rw [iF (fun c hc=>(o.out.1.each c hc).1),o.out.1.len]
     have I:=da (l:=C);have g8:=o.out.1.small;have c9:=f.out.1.inv.hB;have i6:q1≠w.heap.size:=fun e=>by have h1:=f.out.1.cs.2 q1 (by rw [a1.out];rfl);rw [e,f.out.1.inv.rW] at h1;omega
     go_upto_region 13 with (first | (at_builtin;refine xC _ rfl (.tmp 86) (.tmp 87) 39 rfl w.heap.size 42 i0 _ 7 56 underlying39 hi b9 c2 c3 rfl zD (.slice (some ⟨q1,0,none⟩) 1 r1) 1 ([Jo].flatMap Al) rfl J x V c4 (C.flatMap Al) rfl hlen B I zO (by unfold maxLen;omega) zO c9 wr.heap.size rfl ?_))
     intro g9 p9 w9 D d H f5;have h9:w9.cell? ⟨w.heap.size,0,none⟩=some (.slice (some ⟨q1,0,none⟩) 1 r1):=by rw [yV (d.block w.heap.size q (by simp [Value.ownBlock];omega))];exact c0
     have i2:w9.frozen? ⟨w.heap.size,0,none⟩=false:=by rw [kL (d.block w.heap.size q (by simp [Value.ownBlock];omega))];exact f0
     have N:=f.out.1.mL (L.out.ok _) (C':=C) (g:=g9) (cap:=p9) (w1:=w9) (by rw [a1.out];exact d) (by rw [o.out.1.len];exact D) (by rw [a1.out];exact H);rw [o.out.1.len] at N;obtain ⟨⟨ρ9,s9,L9,_⟩,B9⟩:=N;have M:Hid (LI w.heap.size w.heap.size (Y (E+1)) (Jo :: C) [VZ] 18 ρ9 s9 (w9.setCell ⟨w.heap.size,0,none⟩ (.slice (some ⟨g9,0,none⟩) (1+V) p9))/\Below w.heap.size w (w9.setCell ⟨w.heap.size,0,none⟩ (.slice (some ⟨g9,0,none⟩) (1+V) p9))):=⟨L9,f.out.2.trans B9⟩
     clear L9 B9 D d H J B hlen I;go_wp2_with fail
     go_meet
     exact ⟨rfl,ρ9,s9,M.out⟩
   case rest=>
   clear f a1 c0 f0 q g7 d7 hi b9 c2 c3;obtain ⟨rfl,ρ1,s1,y⟩:=hcut;obtain ⟨j0,hj,b6,b7,b8⟩:=yM Jj;obtain ⟨q2,r2,G,_,_⟩:=kK y.out.1.ss.1 zD;simp only [yG,xA] at G;have c1:wc.cell? ⟨w.heap.size,1,none⟩=some (.slice (some ⟨q2,0,none⟩) 1 r2):=by rw [y.out.1.inv.row.cell (i:=1) zO,show fld s1 1=s1.GQ from rfl,G]
   have f1:=y.out.1.inv.row.frozen 1;have q:=y.out.1.inv.row.lt;have a2:Hid (s1.GQ= .slice (some ⟨q2,0,none⟩) 1 r2):=G;have d7:1<=r2:=by have h:=y.out.1.ss.1;rw [G] at h;exact ML h
   clear G;go_upto_region 13 with fail
   go_cut [11] (fun d8 X=>d8= .pointer (some ⟨w.heap.size,0,none⟩)/\∃ (ρ:Nat->Nat) (s:Aj),Hid (LI w.heap.size w.heap.size (Y (E+1)) (Jo :: C) (VZ :: S) 18 ρ s X/\Below w.heap.size w X))
   case first=>
    by_cases hm:W=0
    ·obtain rfl:S=[]:=AZ (o.out.2.len.trans hm);subst hm;have N:=y.out.1.same (L.out.ok _) 1;rw [show fld s1 1=s1.GQ from rfl,a2.out] at N;have M:=CL N.1 (y.out.2.trans N.2);clear N;have Q:P=none/\c5=0\/∃ x,P=some x:=by
      cases e:P with
      | none=>exact Or.inl ⟨rfl,(o.out.2.nil e).2⟩
      | some x=>exact Or.inr ⟨x,rfl⟩
     rcases Q with ⟨rfl,rfl⟩ | ⟨x,rfl⟩
     all_goals
      go_wp2_with fail
      go_meet
      exact ⟨rfl,ρ1,s1,M.out⟩
    ·obtain ⟨x,rfl⟩:∃ x,P=some x:=by
      cases e:P with
      | none=>exact absurd (o.out.2.nil e).1 hm
      | some x=>exact ⟨x,rfl⟩
     have B:∀ j u,(S.map Value.string)[j]?=some u->wc.cell? (x.add j)=some u:=fun j u hu=>by
      obtain ⟨h1,h2⟩:=RD o.out.2 j u hu;exact (y.out.2.cell (p:=x.add j) (by rw [Rn];exact h1)).trans h2
     have J:wc.ownsRow w.heap.size 9 1 (.slice (some ⟨q2,0,none⟩) 1 r2) 1 ([VZ].map Value.string):=by have h:=y.out.1.ss.1;rw [a2.out] at h;exact h
     have hlen:(S.map Value.string).length=W*1:=by rw [AS,o.out.2.len,Nat.mul_one]
     have I:∀ u∈S.map Value.string,u.oneCell'=true:=fun u hu=>by obtain ⟨z,_,rfl⟩:=vT.1 hu;rfl
     have g8:=o.out.2.small.1;have c9:=y.out.1.inv.hB;have i7:q2≠w.heap.size:=fun e=>by have h1:=y.out.1.ss.2 q2 (by rw [a2.out];rfl);rw [e,y.out.1.inv.rW] at h1;omega
     go_upto_region 14 with (first | (at_builtin;refine xC _ rfl (.tmp 95) (.tmp 96) 30 rfl w.heap.size 9 j0 _ 1 16 underlying30 hj b6 b7 b8 rfl zD (.slice (some ⟨q2,0,none⟩) 1 r2) 1 ([VZ].map Value.string) rfl J x W c5 (S.map Value.string) rfl hlen B I zO (by unfold maxLen;omega) zO c9 wc.heap.size rfl ?_))
     intro g9 p9 w9 D d H f5;have i1:w9.cell? ⟨w.heap.size,1,none⟩=some (.slice (some ⟨q2,0,none⟩) 1 r2):=by rw [yV (d.block w.heap.size q (by simp [Value.ownBlock];omega))];exact c1
     have i3:w9.frozen? ⟨w.heap.size,1,none⟩=false:=by rw [kL (d.block w.heap.size q (by simp [Value.ownBlock];omega))];exact f1
     have N:=y.out.1.mM (L.out.ok _) (S':=S) (g:=g9) (cap:=p9) (w1:=w9) (by rw [a2.out];exact d) (by rw [o.out.2.len];exact D) (by rw [a2.out];exact H);rw [o.out.2.len] at N;obtain ⟨⟨ρ9,s9,L9⟩,B9⟩:=N;have M:Hid (LI w.heap.size w.heap.size (Y (E+1)) (Jo :: C) (VZ :: S) 18 ρ9 s9 (w9.setCell ⟨w.heap.size,1,none⟩ (.slice (some ⟨g9,0,none⟩) (1+W) p9))/\Below w.heap.size w (w9.setCell ⟨w.heap.size,1,none⟩ (.slice (some ⟨g9,0,none⟩) (1+W) p9))):=⟨L9,y.out.2.trans B9⟩
     clear L9 B9 D d H J B hlen I;go_wp2_with fail
     go_meet
     exact ⟨rfl,ρ9,s9,M.out⟩
   case rest=>
   clear y a2 c1 f1 q d7 hj b6 b7 b8;obtain ⟨rfl,ρ0,s0,f⟩:=hcut;have g3:Hid (PL (Jo :: C) (VZ :: S)):=by
    obtain ⟨h1,h2⟩:=o.out;refine ⟨?_,fun c hc=>?_,?_,fun t ht=>?_,⟨zS,zS⟩⟩
    ·have:=h1.small;have:=h1.len;simp only [yG];omega
    ·rcases xB.1 hc with rfl | hc
     ·exact XV.ce _ (yY.2 rfl)
     ·exact h1.each c hc
    ·have:=h2.small.1;have:=h2.len;simp only [yG];omega
    ·rcases xB.1 ht with rfl | ht
     ·exact XV.se _ (yY.2 rfl)
     ·exact zG (Qy ht) h2.small.2
   go_wp2_with fail
   go_loopw [15] (fun i wr=>∃ (k:Nat) (ρ:Nat->Nat) (s:Aj),k<=n/\i= .int .i64 k/\Hid (LI w.heap.size w.heap.size (Y (E+1)) (Jo :: C) (VZ :: S) (18+k) ρ s wr/\Below w.heap.size w wr)) (fun i _=>n - (intOf i).toNat)
   case atStart=>exact ⟨0,ρ0,s0,zH _,rfl,f.out⟩
   case round=>
    clear f;obtain ⟨k,ρ,s,hk,rfl,A⟩:=hrel;by_cases b3:k<n
    ·obtain ⟨b0,o0,kd,a,b,c,t,ap,np,cp,rfl,a3,e0,e1,e2,e3,e4,e5,f6⟩:=g4.out k b3;have d9:=hid f6;have m0:decide ((k:Int)<1152921504606846976)=true:=by simp;omega
     have d0:=(A.out.2.cell (p:=⟨b0,o0+k*6,none⟩) a3).trans e0;have d1:=(A.out.2.cell (p:=⟨b0,o0+k*6+1,none⟩) a3).trans e1;have d2:=(A.out.2.cell (p:=⟨b0,o0+k*6+2,none⟩) a3).trans e2;have d3:=(A.out.2.cell (p:=⟨b0,o0+k*6+3,none⟩) a3).trans e3;have d4:=(A.out.2.cell (p:=⟨b0,o0+k*6+4,none⟩) a3).trans e4;have d5:=(A.out.2.cell (p:=⟨b0,o0+k*6+5,none⟩) a3).trans e5;clear e0 e1 e2 e3 e4 e5 f6;have d6:Below wr.heap.size wr (wr.alloc (.cells #[.int .i64 kd, .int .i64 a, .int .i64 b, .int .i64 c, .string t, .slice ap np cp] 79)):=zB.alloc zL _;have a0:=CL (A.out.1.below (L.out.ok _) d6) (A.out.2.trans (d6.mono A.out.2.size));clear d6 A;by_cases c7:kd<3\/(lo<=kd/\kd<=up)
     ·have t0:(decide (3<=kd)=false)\/(decide (3<=kd)=true/\decide (kd<lo)=false/\decide (up<kd)=false):=by simp;omega
      go_upto_region 18 with fail
      clear d0 d1 d2 d3 d4 d5;go_cut [16,128] (fun h0 f8 X=>h0= .pointer (some ⟨wr.heap.size,0,none⟩)/\f8= .bool false/\X=wr.alloc (.cells #[.int .i64 kd, .int .i64 a, .int .i64 b, .int .i64 c, .string t, .slice ap np cp] 79))
      case first=>
       rcases t0 with t1 | ⟨t1,t2,t3⟩
       all_goals
        go_wp2_with fail
        go_meet
        exact ⟨rfl,rfl,rfl⟩
      case rest=>
      obtain ⟨rfl,rfl,rfl⟩:=hcut;clear t0;go_wp2_with fail
      refine (L.out.Ma kd a b c t ap np cp g3.out c7 zO a0.out.1 a0.out.2 d9.out).mono ?_;rintro e w' ⟨rfl,b1,ρ',s',a8,_⟩;have Z:Hid (LI w.heap.size w.heap.size (Y (E+1)) (Jo :: C) (VZ :: S) (18+(k+1)) ρ' s' w'/\Below w.heap.size w w'):=⟨a8,a0.out.2.trans b1⟩
      clear b1 a8 a0 d9 c7;go_upto_if 136 with fail
      go_cut [18] (fun h5 X=>h5= .bool true/\∃ (ρ:Nat->Nat) (s:Aj),Hid (LI w.heap.size w.heap.size (Y (E+1)) (Jo :: C) (VZ :: S) (18+(k+1)) ρ s X/\Below w.heap.size w X))
      case first=>
       cases i4:((k:Int)%3==2)
       ·go_wp2_with fail
        go_meet
        exact ⟨rfl,ρ',s',Z.out⟩
       ·go_wp2_with fail
        refine (Sg (L.out.ok _) Z.out.1 zO).mono ?_;rintro e h6 ⟨rfl,b2,ρ2,s2,a9⟩;have a5:=CL a9 (Z.out.2.trans b2);clear a9 b2;go_wp2_with fail
        go_meet
        exact ⟨rfl,ρ2,s2,a5.out⟩
      case rest=>
      obtain ⟨rfl,ρ3,s3,a6⟩:=hcut;clear Z;go_wp2_with fail
      refine (L.out.looks zO a6.out.1).mono ?_;rintro e w4 ⟨rfl,a4⟩;have g0:=CL (a6.out.1.below (L.out.ok _) a4) (a6.out.2.trans (a4.mono a6.out.2.size));clear a4 a6;go_wp2_with fail
      go_roundw
      case rel=>exact ⟨k+1,ρ3,s3,zO,by go_num,g0.out⟩
      case measure=>simp [intOf];omega
     ·have t1:decide (3<=kd)=true:=by simp;omega
      have t0:(decide (kd<lo)=true)\/(decide (kd<lo)=false/\decide (up<kd)=true):=by simp;omega
      rcases t0 with t2 | ⟨t2,t3⟩
      all_goals
       go_wp2_with fail
       go_roundw
       case rel=>exact ⟨k+1,ρ,s,zO,by go_num,a0.out.1.mono (L.out.ok _) zO,a0.out.2⟩
       case measure=>simp [intOf];omega
    ·obtain rfl:k=n:=zO;go_wp2_with fail
     refine (Sg (L.out.ok _) A.out.1 zO).mono ?_;rintro e h6 ⟨rfl,b2,ρ2,s2,a9⟩;have a5:=CL a9 (A.out.2.trans b2);clear a9 b2;go_wp2_with fail
     refine (L.out.looks zO a5.out.1).mono ?_;rintro e w4 ⟨rfl,a4⟩;have f9:=hid (a5.out.2.trans (a4.mono a5.out.2.size));clear a4;go_wp2
     go_ret
     exact ⟨rfl,f9.out⟩
end Go.Proofs.YtbcjmakpempkiaaGreatDoor
