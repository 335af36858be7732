import Derived.Test.YtbcjmakpempkiaaGreatDoorX25
set_option maxRecDepth 100000
set_option maxHeartbeats 8000000
set_option linter.all false
namespace Go.Proofs.YtbcjmakpempkiaaGreatDoor
variable {B H b cb cp gW gb i k n np q r:Nat} {w w' wr:World} {C:List (List Int)} {R:List Df} {T:List Cy} {ρ:Nat->Nat} {s:Aj} {P S:List ByteArray} {ap:Option Addr} {DZ Ec:Value} {m m' m1:MG}
open Go.Proofs.Tryz
open Go.RowKit
theorem ie(s:Aj)(v:Value)(i:Nat)(hi:i<9):(if i=8 then v else fld { s with CX:=s.CX+1 } i)=fld { s with CX:=s.CX+1,Ec:=v,still:=[] } i:=by
 have:i=0\/i=1\/i=2\/i=3\/i=4\/i=5\/i=6\/i=7\/i=8:=zO;rcases this with rfl | rfl | rfl | rfl | rfl | rfl | rfl | rfl | rfl <;> simp [fld]
structure bS(H:Nat)(R:List Df)(T:List Cy)(ρ:Nat->Nat)(s:Aj)(w:World)(b:Nat):Prop where
 lt:b<w.heap.size
 r9:ρ b=9
 hH:H<=b
 off:¬ RN s.DZ s.Ec R T b
 cs:s.vcs.ownBlock≠some b/\s.GQ.ownBlock≠some b
theorem LJ.book{w2:World}(h:LJ B gW H C S k R T ρ s w)(Y:k+1<=3000000){mk:ByteArray}(p:bS H R T ρ s w b)(V:B<=b)(Z:n<=2000000)
  (O:wr.rowIs gW 75 9 (fld { s with CX:=s.CX+1 })) (hl:∀ i,i<n->wr.cell? ⟨b,i,none⟩=some (.string mk)) (a3:∀ j,j<w.heap.size->j≠b->j≠gW->wr.heap[j]?=w.heap[j]?) (L:Below B w wr) {g cap:Nat}
  (D:∀ j,j<wr.heap.size->s.Ec.ownBlock≠some j->w2.heap[j]?=wr.heap[j]?) (I:Below B wr w2) (A:w2.ownsRow B 146 2 (.slice (some ⟨g,0,none⟩) (T.length+1) cap) (T.length+1) (T.flatMap Cy.cells++[.string mk, .slice (some ⟨b,0,none⟩) n n])) (M:s.Ec.ownBlock=some g\/wr.heap.size<=g) :
  ∃ ρ' s',LJ B gW H C S (k+1) R (T++[⟨mk,b,n⟩]) ρ' s' (w2.setCell ⟨gW,8,none⟩ (.slice (some ⟨g,0,none⟩) (T.length+1) cap))/\(∀ j,j<w.heap.size->ρ' j=ρ j)/\Below B w (w2.setCell ⟨gW,8,none⟩ (.slice (some ⟨g,0,none⟩) (T.length+1) cap))/\s'.DZ=s.DZ/\∀ j,j<w.heap.size->¬ RN s.DZ s.Ec R T j->j≠gW->j≠b->(w2.setCell ⟨gW,8,none⟩ (.slice (some ⟨g,0,none⟩) (T.length+1) cap)).heap[j]?=w.heap[j]?:=by
 classical
 obtain ⟨v,hv⟩:=qe (Value.slice (some ⟨g,0,none⟩) (T.length+1) cap);have u:v.ownBlock=some g:=by rw [hv];rfl
 rw [<- hv] at A |-;have G:=h.Kt;have a2:=h.inv.rW;have a4:=h.inv.row.lt;have s1:=L.size;have s2:=I.size;have W:b≠gW:=fun e=>by have:=p.r9;rw [e] at this;omega
 have P:s.Ec.ownBlock≠some gW:=fun e=>by have:=(h.x9 gW (Or.inr (Or.inl e))).1;omega
 have d:∀ j,j<w.heap.size->s.Ec.ownBlock≠some j->j≠gW->j≠b->(w2.setCell ⟨gW,8,none⟩ v).heap[j]?=w.heap[j]?:=fun j c h1 h2 h3=>by
  rw [zZ _ _ _ _ h2,D j zO h1];exact a3 j c h3 h2
 have F:∀ j,RN s.DZ s.Ec R T j->j≠gW/\j≠b:=fun j c=>⟨fun e=>by have:=(h.x9 j c).1;rw [e] at this;omega,fun e=>p.off (by rw [<- e];exact c)⟩
 have r:w.heap.size<=(w2.setCell ⟨gW,8,none⟩ v).heap.size:=by simp [World.setCell];omega
 have N:g≠gW:=fun e=>by
  rcases M with l | l
  ·exact P (by rw [<- e];exact l)
  ·omega
 have o:∀ j,j<w.heap.size->j=g->s.Ec.ownBlock=some j:=fun j c e=>by
  rcases M with l | l
  ·rw [e];exact l
  ·omega
 have X:g≠b:=fun e=>p.off (Or.inr (Or.inl (o b p.lt e.symm)))
 have hρ:∀ j,j<w.heap.size->(fun j=>if w.heap.size<=j/\j=g then 9 else ρ j) j=ρ j:=fun j c=>zA (fun e=>zO)
 have E:Ug (w2.setCell ⟨gW,8,none⟩ v) ⟨mk,b,n⟩:=by
  refine ⟨Z,zM p.lt r,fun i hi=>?_⟩;have Q:(w2.setCell ⟨gW,8,none⟩ v).heap[b]?=wr.heap[b]?:=by
   rw [zZ _ _ _ _ W,D b (zM p.lt s1) (fun e=>p.off (Or.inr (Or.inl e)))]
  rw [yV (a:=⟨b,i,none⟩) Q];exact hl i hi
 refine ⟨fun j=>if w.heap.size<=j/\j=g then 9 else ρ j,{ s with CX:=s.CX+1,Ec:=v,still:=[] },h.nine (n:=k+1) ⟨r,fun j c hr=>d j c (fun e=>hr (Or.inl (h.x9 j (Or.inr (Or.inl e))).1)) (fun e=>hr (Or.inr (by rw [e];exact a2))) (fun e=>hr (Or.inl (by rw [e];exact p.r9)))⟩ hρ ?_ ⟨rfl,rfl,rfl,rfl,rfl,rfl,rfl,rfl⟩ ⟨rfl,rfl⟩ (by show s.CX+1<=_;omega) zO Y rfl (fun j c=>?_) ?_ (by have:=h.rl;omega) (by rw [zI];have:=h.tl;show T.length+1<=_;omega) ?_,hρ,?_,rfl,fun j c Z a1 a0=>d j c (fun e=>Z (Or.inr (Or.inl e))) a1 a0⟩
 ·exact ((O.of_block (D gW zO P)).set 8 v).congr (fun i hi=>ie s v i hi)
 ·rcases c with e | e
  ·exact d j (Bj h.cs.1 e) (fun l=>(h.x9 j (Or.inr (Or.inl l))).2.2.1 e) (fun l=>by have:=h.cs.2 j e;rw [l] at this;omega) (fun l=>p.cs.1 (by rw [<- l];exact e))
  ·exact d j (Bj h.ss.1 e) (fun l=>(h.x9 j (Or.inr (Or.inl l))).2.2.2 e) (fun l=>by have:=h.ss.2 j e;rw [l] at this;omega) (fun l=>p.cs.2 (by rw [<- l];exact e))
 ·refine ⟨?_,?_,fun y z=>?_,G.apart,fun y z j c=>?_,fun t f=>?_,fun t f=>?_⟩
  ·exact EP G.rn fun j c=>d j (Bj G.rn c) (Ij G.rn G.tx zD c) (F j (Or.inl c)).1 (F j (Or.inl c)).2
  ·show World.ownsRow _ B _ 2 v (T++[(⟨mk,b,n⟩:Cy)]).length ((T++[(⟨mk,b,n⟩:Cy)]).flatMap Cy.cells);rw [zI,AX];have Q:[(⟨mk,b,n⟩:Cy)].flatMap Cy.cells=[.string mk, .slice (some ⟨b,0,none⟩) n n]:=by simp [Cy.cells]
   rw [Q];exact EP A fun j c=>by
    rw [u] at c;injection c with c
    exact zZ _ _ _ _ (by rw [<- c];exact N)
  ·have U:=G.each y z;have hx:∀ j,y.J j->RN s.DZ s.Ec R T j:=fun j c=>Or.inr (Or.inr (Or.inl ⟨y,z,c⟩))
   exact ⟨U.1.same r fun j c=>d j (U.1.at_ c).2 (G.own y z j c).2 (F j (hx j c)).1 (F j (hx j c)).2,U.2⟩
  ·show s.DZ.ownBlock≠some j/\v.ownBlock≠some j;rw [u];refine ⟨(G.own y z j c).1,fun e=>?_⟩;injection e with e
   exact (G.own y z j c).2 (o j ((G.each y z).1.at_ c).2 e.symm)
  ·rcases yW.1 f with f | f
   ·have hx:RN s.DZ s.Ec R T t.b:=Or.inr (Or.inr (Or.inr ⟨t,f,rfl⟩));exact (G.KT t f).same r (d t.b (G.KT t f).2.1 (G.off t f).2.2.1 (F _ hx).1 (F _ hx).2)
   ·rw [yY.1 f];exact E
  ·show (∀ x∈R,¬ x.J t.b)/\s.DZ.ownBlock≠some t.b/\v.ownBlock≠some t.b/\B<=t.b;rw [u];rcases yW.1 f with f | f
   ·refine ⟨(G.off t f).1,(G.off t f).2.1,fun e=>?_,(G.off t f).2.2.2⟩;injection e with e
    exact (G.off t f).2.2.1 (o t.b (G.KT t f).2.1 e.symm)
   ·rw [yY.1 f];exact ⟨fun x hx c=>p.off (Or.inr (Or.inr (Or.inl ⟨x,hx,c⟩))),fun e=>p.off (Or.inl e),fun e=>(by injection e with e;exact X e),V⟩
 ·intro j c;have hH:=h.hH;have q:RN s.DZ s.Ec R T j->(fun j=>if w.heap.size<=j/\j=g then 9 else ρ j) j=9/\H<=j/\s.vcs.ownBlock≠some j/\s.GQ.ownBlock≠some j:=fun hk=>by
   rw [hρ j (G.lt hk)];exact h.x9 j hk
  rcases c with e | e | ⟨y,z,e⟩ | ⟨t,f,e⟩
  ·exact q (Or.inl e)
  ·have l:v.ownBlock=some j:=e;rw [u] at l;injection l with l
   by_cases hl:j<w.heap.size
   ·exact q (Or.inr (Or.inl (o j hl l.symm)))
   ·refine ⟨zC ⟨zO,l.symm⟩,zO,fun e=>by have:=Bj h.cs.1 e;omega,fun e=>by have:=Bj h.ss.1 e;omega⟩
  ·exact q (Or.inr (Or.inr (Or.inl ⟨y,z,e⟩)))
  ·rcases yW.1 f with f | f
   ·exact q (Or.inr (Or.inr (Or.inr ⟨t,f,e⟩)))
   ·rw [yY.1 f] at e;have e:b=j:=e;subst e;show (if w.heap.size<=b/\b=g then 9 else ρ b)=9/\_;rw [zA (fun e=>by have:=p.lt;omega)];exact ⟨p.r9,p.hH,p.cs⟩
 ·exact L.trans (I.setCell h.inv.gB _)
theorem YW(a:Nat)(v:Value)(w:World) :
  Calls prog 125 #[.pointer (some ⟨a,0,none⟩),v, .slice none 0 0] w fun e b=>e= .returned (.bool true)/\w=b:=by
 have h:=TW none 0 0;simp only [AH] at h;go_enter func125,ntmps125
 go_wp2
 go_ret
 exact ⟨rfl,rfl⟩
def Nu(P:List ByteArray)(m:ByteArray)(k i:Nat):ByteArray:=if i<k then m else JR P i
theorem XY{m:ByteArray}{g:Nat}(h:wr.rowIs g 9 n (fun i=> .string (Nu P m k i))):(wr.setCell ⟨g,k,none⟩ (.string m)).rowIs g 9 n (fun i=> .string (Nu P m (k+1) i)):=by
 refine (h.set k _).congr fun i _=>?_
 unfold Nu;by_cases e:i=k
 ·rw [zC e,zC zO]
 ·rw [zA e];by_cases a:i<k
  ·rw [zC a,zC zO]
  ·rw [zA a,zA zO]
theorem dO{m:ByteArray}:Nu P m k k=JR P k:=by unfold Nu;rw [zA zO]
theorem XQ:(prog.info? 146).map (fun i=>(i.zero,i.size,i.bytes))=some (some (.agg #[.string ⟨#[]⟩, .slice none 0 0]),2,40):=zK
structure nv(w:World)(x:Addr)(P:List ByteArray)(b gW:Nat):Prop where
 at_:∀ j u,(Eg P)[j]?=some u->x.block<w.heap.size/\w.cell? (x.add j)=some u
 spot:0<P.length->x.spot=none
 off:0<P.length->x.block≠b/\x.block≠gW
structure mB(B gW b:Nat)(P:List ByteArray)(M:ByteArray)(s:Aj)(w:World)(k:Nat)(wr:World):Prop where
 row:wr.rowIs b 9 (P.length+8) (fun i=> .string (Nu P M k i))
 rW:wr.rowIs gW 75 9 (fld { s with CX:=s.CX+1 })
 same:∀ j,j<w.heap.size->j≠b->j≠gW->wr.heap[j]?=w.heap[j]?
 bel:Below B w wr
theorem mB.step{M:ByteArray}(h:mB B gW b P M s w k wr)(hB:B<=b)(c:b≠gW):mB B gW b P M s w (k+1) (wr.setCell ⟨b,k,none⟩ (.string M)):=⟨XY h.row,h.rW.setOther (a:=⟨b,k,none⟩) (by simpa using (zY c)) _,fun j d h1 h2=>(zZ _ _ _ _ h1).trans (h.same j d h1 h2),h.bel.setCell (p:=⟨b,k,none⟩) hB _⟩
theorem WV(b cp:Nat)(x:Addr)(P:List ByteArray)(w:World)(h:LJ B gW H C S k R T ρ s w)(b1:k<=2000000)(hb:bS H R T ρ s w b)(O:B<=b)(v:w.rowIs b 9 (P.length+8) (fun i=> .string (JR P i)))(hP:P.length<=1048576)(hX:nv w x P b gW)(u:Kj w)(a5:2<B) :
  Calls prog 125 #[.pointer (some ⟨gW,0,none⟩), .slice (some ⟨b,0,none⟩) P.length (P.length+8), .slice (some x) P.length cp] w fun e w'=>e= .returned (.bool true)/\Below B w w'/\∃ (ρ':Nat->Nat) (F:Aj) (T':List Cy),LJ B gW H C S (k+1) R T' ρ' F w'/\(∀ j,j<w.heap.size->ρ' j=ρ j)/\F.DZ=s.DZ/\∀ j,j<w.heap.size->¬ RN s.DZ s.Ec R T j->j≠gW->j≠b->w'.heap[j]?=w.heap[j]?:=by
 have a4:=TW (some x) P.length cp;simp only [AG] at a4;have b0:=h.inv.row.lt;have c4:w.cell? ⟨gW,4,none⟩=some (.int .i64 s.CX):=h.inv.row.cell (i:=4) zO;have f4:=h.inv.row.frozen 4;have b3:s.CX<=6000000:=by have:=h.fw.mm;omega
 have Q:b≠gW:=fun e=>by have h1:=hb.r9;rw [e,h.inv.rW] at h1;omega
 have d:=Ji h hb hX;obtain ⟨q,l⟩:=qe (w.setCell ⟨gW,4,none⟩ (.int .i64 ((s.CX:Int)+1)));have J:Below B w q:=by rw [l];exact zB.setCell h.inv.gB _
 have Z:q.heap.size=w.heap.size:=by rw [l];simp [World.setCell]
 have H1:Hid (∀ M,mB B gW b P M s w 0 q):=fun M=>by
  rw [l];refine ⟨(v.setOther (by simpa using Q) _).congr (fun i _=>by simp [Nu]),(h.inv.row.set 4 _).congr (fun i hi=>?_),fun j _ _ h2=>zZ _ _ _ _ h2,zB.setCell h.inv.gB _⟩;have:i=0\/i=1\/i=2\/i=3\/i=4\/i=5\/i=6\/i=7\/i=8:=zO;rcases this with rfl | rfl | rfl | rfl | rfl | rfl | rfl | rfl | rfl <;> simp [fld]
 have a0:q.cell? ⟨gW,4,none⟩=some (.int .i64 ((s.CX:Int)+1)):=by
  rw [(H1.out ⟨#[]⟩).rW.cell (i:=4) zO];simp [fld]
 have G:Hid (Calls prog 157 #[.int .i64 ((s.CX:Int)+1)] q fun e w'=>∃ t:ByteArray,e= .returned (.string t)/\t.size<=1000000001/\Below q.heap.size q w'):=by
  have:=dA (s.CX+1) zO q (u.PU J a5);rw [show ((s.CX+1:Nat):Int)=(s.CX:Int)+1 by omega] at this;exact this
 clear h hb hX v u J;go_enter func125,ntmps125
 go_upto_region 5 with (go_at_call 157;rw [<- l];refine G.out.mono ?_;rintro e w2 ⟨t,rfl,ht,I⟩)
 obtain ⟨M,hM⟩:=qe ((⟨#[109,97,114,107,32]⟩:ByteArray)++t);rw [<- hM];have H2:Hid (mB B gW b P M s w 0 w2):=by
  have h1:=H1.out M;refine ⟨h1.row.of_block (I.block _ h1.row.lt),h1.rW.of_block (I.block _ h1.rW.lt),fun j A h2 h3=>(I.block j zO).trans (h1.same j A h2 h3),h1.bel.trans (I.mono (by rw [Z];exact d.out.1.inv.hB))⟩
 clear H1 G hM I ht c4 f4 a0 l;go_wp2_with fail
 go_loopw [10,11,12] (fun ok i _ wr=>∃ j:Nat,j<=P.length+8/\i= .int .i64 j/\ok= .bool true/\Hid (mB B gW b P M s w j wr)) (fun _ i _ _=>P.length+8 - (intOf i).toNat)
 case atStart=>exact ⟨0,zO,rfl,rfl,H2⟩
 case round=>
  clear H2;obtain ⟨j,A,rfl,rfl,f⟩:=hrel;by_cases a3:j<P.length+8
  ·have g1:=f.out.row.cell a3;rw [dO] at g1;have g2:=f.out.row.frozen j;have HS:=hid (f.out.step O Q);by_cases n:j<P.length
   ·obtain ⟨y,hy⟩:∃ y,P.getD j ⟨#[]⟩=y:=⟨_,rfl⟩
    have E:=d.out.2.2.spot zO;have D:=d.out.2.2.off zO;have p:=d.out.2.2.at_ j (.string y) (by simp [Eg,<- hy,n]);obtain ⟨bx,ox,sp⟩:=x;have E:sp=none:=E;subst E;rw [vJ] at p;have g3:wr.cell? ⟨bx,ox+j,none⟩=some (.string y):=by
     rw [yV (a:=⟨bx,ox+j,none⟩) (f.out.same bx p.1 D.1 D.2)];exact p.2
    have N:JR P j=y:=by unfold JR;rw [zC n,hy]
    rw [N] at g1;have U:decide (j<P.length)=true:=by simpa using n
    have a2:decide ((j:Int)<P.length)=true:=by simp;omega
    clear N hy p D;go_wp2_with fail
    go_roundw
    case rel=>exact ⟨j+1,zO,by go_num,zS,HS⟩
    case measure=>simp [intOf];omega
   ·have N:JR P j=⟨#[98,101,121,111,110,100]⟩:=by unfold JR;rw [zA n];rfl
    rw [N] at g1;have U:decide (j<P.length)=false:=by simpa using n
    have a2:decide ((j:Int)<P.length)=false:=by simp;omega
    clear N;go_wp2_with fail
    go_roundw
    case rel=>exact ⟨j+1,zO,by go_num,zS,HS⟩
    case measure=>simp [intOf];omega
  ·obtain rfl:j=P.length+8:=zO;obtain ⟨i0,hi,a7,a8,a9⟩:=yM XQ;have c8:wr.cell? ⟨gW,8,none⟩=some s.Ec:=f.out.rW.cell (i:=8) zO;have f8:=f.out.rW.frozen 8;have Y:=f.out.rW.lt;have z:∀ j,RN s.DZ s.Ec R T j->j≠gW/\j≠b:=fun j A=>⟨fun e=>by have h1:=(d.out.1.x9 j A).1;rw [e,d.out.1.inv.rW] at h1;omega,fun e=>d.out.2.1.off (by rw [<- e];exact A)⟩
   have X:=EP d.out.1.Kt.tx fun g V=>f.out.same g (Bj d.out.1.Kt.tx V) (z g (Or.inr (Or.inl V))).2 (z g (Or.inr (Or.inl V))).1
   have a6:=f.out.bel.size;have a1:=d.out.1.inv.hB;have b4:=d.out.1.tl;have ag:s.Ec.ownBlock≠some gW:=fun e=>(z gW (Or.inr (Or.inl e))).1 rfl
   have U:decide (P.length+8<P.length+8)=false:=zS;go_upto_region 17 with (first | (at_builtin;refine xC _ rfl (.tmp 64) (.tmp 68) 73 rfl B 146 i0 _ 2 40 underlying73 hi a7 a8 a9 rfl zD s.Ec T.length (T.flatMap Cy.cells) rfl (X.alloc _) ⟨wr.heap.size,0,none⟩ 1 1 [.string M, .slice (some ⟨b,0,none⟩) (P.length+8) (P.length+8)] rfl rfl (xS (zJ wr _)) (by simp [Value.oneCell']) zO (by unfold maxLen;omega) zO (by simp;omega) (wr.heap.size+1) zS ?_))
   intro g9 p9 w9 o c r W;have k8:=Fh c Y ag c8;have z8:=Fk c Y ag f8;have hl:∀ i,i<P.length+8->wr.cell? ⟨b,i,none⟩=some (.string M):=fun i hi=>by
    rw [f.out.row.cell hi];unfold Nu;rw [zC hi]
   have L:=(((zF B wr).alloc (zG a1 a6) _).grown c (by simp;omega) (fun g V=>(X.lt g V).1))
   have HT:Hid (∃ ρ' F,LJ B gW H C S (k+1) R (T++[⟨M,b,P.length+8⟩]) ρ' F (w9.setCell ⟨gW,8,none⟩ (.slice (some ⟨g9,0,none⟩) (T.length+1) p9))/\(∀ j,j<w.heap.size->ρ' j=ρ j)/\Below B w (w9.setCell ⟨gW,8,none⟩ (.slice (some ⟨g9,0,none⟩) (T.length+1) p9))/\F.DZ=s.DZ/\∀ j,j<w.heap.size->¬ RN s.DZ s.Ec R T j->j≠gW->j≠b->(w9.setCell ⟨gW,8,none⟩ (.slice (some ⟨g9,0,none⟩) (T.length+1) p9)).heap[j]?=w.heap[j]?):=by
    refine d.out.1.book zO d.out.2.1 O zO f.out.rW hl f.out.same f.out.bel (fun j A hn=>?_) L o ?_
    ·exact (c.block j (by simp;omega) (zY hn)).trans (yK wr _ j A)
    ·rcases r with e | e
     ·exact Or.inl e
     ·right;omega
   clear o c r W L hl;go_wp2
   go_ret
   obtain ⟨ρ',F,h1,h2,h3,h4,h5⟩:=HT.out;exact ⟨rfl,h3,ρ',F,_,h1,h2,h4,h5⟩
theorem Hf.num{n:Int}{er fm mem lim:Nat}(h:Hf m P m' n er)(G:Dr fm mem lim m.c):∃ k:Nat,n=k/\k<=total P:=by
 cases h with
 | refused _=>exact ⟨0,rfl,zH _⟩
 | closed _ _=>exact ⟨0,rfl,zH _⟩
 | DK s _ h0 h1 T hz go=>
  obtain ⟨c1,e,d,r1,r2,r3⟩:=go.run;obtain ⟨b,a⟩:=Dr.steps r1 G (KE P T);obtain ⟨l,hl⟩:=r1.Lx.pre;have h2:=a.len;rw [Pu,hz] at h2;have h3:m'.c=c1:=by rw [r3]
  have h4:c1.pre.length=m.c.pre.length+l.length:=by rw [hl,zI]
  exact ⟨l.length,by rw [h3];omega,zO⟩
theorem GL.Hv{J:Nat->Prop}(h:GL B w q r m1 m J):∃ fm mem lim,Dr fm mem lim m1.c:=by
 obtain ⟨K,a,g,h1,_⟩:=h.ex;exact ⟨_,_,_,h1.Hv⟩
structure bW(w:World)(ap:Option Addr)(np cp gW:Nat)(DZ Ec:Value)(R:List Df)(T:List Cy)(P:List ByteArray):Prop where
 len:P.length=np
 small:np<=1048576/\total P<=2000000
 nil:ap=none->np=0/\cp=0
 at_:∀ x,ap=some x->∀ j u,(Eg P)[j]?=some u->x.block<w.heap.size/\w.cell? (x.add j)=some u
 spot:∀ x,ap=some x->0<np->x.spot=none
 off:∀ x,ap=some x->0<np->¬ RN DZ Ec R T x.block/\x.block≠gW/\x.block<w.heap.size
theorem eP(hk:k<P.length):(Eg P)[k]?=some (.string P[k]):=by simp [Eg,hk]
theorem bW.str(h:bW w ap np cp gW DZ Ec R T P)(hs:w.heap.size<=w'.heap.size)(d:∀ k,k<w.heap.size->¬ RN DZ Ec R T k->w'.heap[k]?=w.heap[k]?):Kk w' ap P:=fun k hk=>by
 have c:0<np:=by have:=h.len;omega
 cases e:ap with
 | none=>have:=(h.nil e).1;omega
 | some x=>
  have h1:=h.spot x e c;obtain ⟨h2,h3⟩:=h.at_ x e k _ (eP hk);have h4:=h.off x e c;obtain ⟨b,o,sp⟩:=x;have h1:sp=none:=h1;subst h1;rw [vJ] at h3;refine ⟨b,o,rfl,zM h2 hs,?_⟩;rw [yV (a:=⟨b,o+k,none⟩) (d b h2 h4.1)];exact h3
theorem bW.each(h:bW w ap np cp gW DZ Ec R T P):∀ s∈P,s.size<=maxLen:=fun s hs=>by
 have h1:=Qy hs;have h2:=h.small.2;unfold maxLen;omega
theorem ET.comp{w'':World}{m2 m3:MG}{J J':Nat->Prop}(h:ET B w q r m1 m J w')(f:∀ k,k<w.heap.size->J' k->J k)(e:ET B w' q r m2 m3 J' w''):ET B w q r m2 m3 J w'':=by
 obtain ⟨a,c,b⟩:=e.ex;have hs:=h.bel.size;exact ⟨⟨a,fun i hi d=>f i hi (c i zO d),b⟩,h.bel.trans e.bel,fun i hi g=>(e.block i zO (fun d=>g (f i hi d))).trans (h.block i hi g)⟩
structure PI(B gW H:Nat)(C:List (List Int))(S:List ByteArray)(k i:Nat)(R:List Df)(ρ:Nat->Nat)(s:Aj)(w w':World):Prop where
 bel:Below B w w'
 ex:∃ (m':MG) (J':Nat->Prop) (hi:i<R.length) (T':List Cy) (ρ':Nat->Nat) (s':Aj),LJ B gW H C S (k+1) (R.set i (R[i].go m' J')) T' ρ' s' w'/\s'.DZ=s.DZ/\KH H ρ ρ' w w'
theorem LJ.gone(h:LJ B gW H C S k R T ρ s w)(c:k<=2000000)(hi:i<R.length)(E:ET B w R[i].q R[i].r m' m' R[i].J w'):PI B gW H C S k i R ρ s w w':=by
 obtain ⟨a,ρ',L,hρ,_⟩:=h.gate zO hi E;refine ⟨E.bel,m',a,hi,T,ρ',_,L.mono (kY _),rfl,fun j d hl b=>⟨E.block j hl fun e=>?_,by rw [hρ j hl];exact b⟩⟩;have:=(h.x9 j (Or.inr (Or.inr (Or.inl ⟨_,yD hi,e⟩)))).2.1;omega
theorem RJ(ap:Option Addr)(np U:Nat)(P:List ByteArray)(w:World)(h:LJ B gW H C S k R T ρ s w)(a8:k<=2000000)(hi:i<R.length)(hv:s.DZ= .slice (some ⟨gb,0,none⟩) R.length cb)(hP:bW w ap np U gW s.DZ s.Ec R T P)(hO:EG w)(hR:Bs w B)(M:Kj w)(hG:0<B)(b0:2<B) :
  Calls prog 91 #[.pointer (some ⟨gW,0,none⟩), .pointer (some ⟨gb,i*4,none⟩), .slice ap np U] w fun e f=>(∃ n:Nat,e= .returned (.tuple #[.int .i64 n, .bool true])/\n<=total P)/\PI B gW H C S k i R ρ s w f:=by
 have hm:=yD hi;obtain ⟨c5,c4,b2,_,a0,c0,c1,_,_,_⟩:=h.Kt.dt hi;rw [hv] at b2;injection b2 with e1 _ _
 injection e1 with e1
 injection e1 with e1 _ _
 subst e1;have a9:s.DZ.ownBlock=some gb:=by rw [hv];rfl
 have hJ:=h.Kt.each _ hm;have b9:=hP.len;subst b9;have c2:=hP.small;have a6:¬ R[i].J gb:=fun e=>(h.Kt.own _ hm gb e).1 a9
 have L:∀ j,R[i].J j->RN s.DZ s.Ec R T j:=fun j N=>Or.inr (Or.inr (Or.inl ⟨_,hm,N⟩))
 cases ap with
 | none=>
  obtain ⟨h1,h2⟩:=hP.nil rfl;have b6:=vV.1 h1;subst b6;subst h2;have D:Hid (Calls prog 26 #[.pointer (some ⟨R[i].q,0,none⟩), .slice none 0 0] w fun e f=>∃ n er t,e= .returned (.tuple #[.int .i64 n, .int .i64 (er:Nat)])/\Hf R[i].m [] t n er/\ET B w R[i].q R[i].r t R[i].m R[i].J f):=PW hJ.1 none 0 [] ⟨fun k hk=>by simp at hk,⟨zE _,zH _⟩,fun s hs=>by simp at hs,fun b o e=>by cases e⟩ hO hG;have c:=Ji h hR hJ.1;clear h hR hO M hP L c2;go_enter func91,ntmps91
  go_upto_region 3 with (first
   | (go_at_call 123;refine (aQ _).mono ?_;rintro e w1 ⟨rfl,rfl⟩)
   | (go_at_call 26;refine D.out.mono ?_;rintro e w2 ⟨n,er,t,rfl,W,v⟩))
  obtain ⟨J2,F,H2⟩:=v.ex;have V:Hid (Calls prog 124 #[.pointer (some ⟨R[i].r,0,none⟩), .slice none 0 0] w2 fun e f=>e= .returned (.tuple #[.int .i64 n, .int .i64 er])/\ET B w2 R[i].q R[i].r t t J2 f):=PY H2 c.out.2.2.kept W none 0 (fun k hk=>by simp at hk) (zH _) (by show 0<=_;omega) (c.out.2.1.below v.bel);have d1:w2.cell? ⟨gb,i*4+1,none⟩=some (.pointer (some ⟨R[i].r,0,none⟩)):=by
   rw [yV (a:=⟨gb,i*4+1,none⟩) (v.block gb a0 a6)];exact c1
  obtain ⟨fm,mem,lim,I⟩:=c.out.2.2.Hv;obtain ⟨nn,a1,a2⟩:=W.num I;subst a1;have A:=CL v F;clear H2 v F W I D c0 c1;go_wp2_with (first
   | (go_at_call 124;refine V.out.mono ?_;rintro e O ⟨rfl,E3⟩)
   | (go_at_call 125;refine (YW gW _ _).mono ?_;rintro e w4 ⟨rfl,rfl⟩)
   | (go_at_call 86;refine (FM _ _).mono ?_;rintro e w5 ⟨rfl,rfl⟩))
  go_ret2
  exact ⟨⟨nn,zS,a2⟩,c.out.1.gone a8 hi (A.out.1.comp A.out.2 E3)⟩
 | some x=>
  have a3:Hid (Calls prog 123 #[.slice (some x) P.length U] w fun e f=>e= .returned (.slice (some ⟨w.heap.size,0,none⟩) P.length (P.length+8))/\f.rowIs w.heap.size 9 (P.length+8) (fun i=> .string (JR P i))/\Below w.heap.size w f):=XU x U P w zO (hP.at_ x rfl);have c:=mS h hR hJ.1 hP hO M;have HX:=hid L;clear h hR hO M hP L;go_enter func91,ntmps91
  go_upto_region 2 with (first
   | (go_at_call 123;refine a3.out.mono ?_;rintro e w1 ⟨rfl,r1,X⟩))
  have z:=r1.lt;have s1:=X.size;have Y:=c.out.1.inv.hB;have L1:=c.out.1.nZ X (g:=w.heap.size) zL;have a5:=c.out.2.2.1.below X;have Z:¬ R[i].J w.heap.size:=fun e=>by have:=(c.out.2.2.1.at_ e).2;omega
  have D:Hid (Calls prog 26 #[.pointer (some ⟨R[i].q,0,none⟩), .slice (some ⟨w.heap.size,0,none⟩) P.length (P.length+8)] w1 fun e f=>∃ n er t,e= .returned (.tuple #[.int .i64 n, .int .i64 (er:Nat)])/\Hf R[i].m P t n er/\ET B w1 R[i].q R[i].r t R[i].m R[i].J f):=by
   refine PW a5 (some ⟨w.heap.size,0,none⟩) (P.length+8) P ⟨fun k hk=>⟨w.heap.size,0,rfl,z,?_⟩,⟨zO,by unfold maxLen;omega⟩,c.out.2.2.2.1.each,fun b o e=>?_⟩ (c.out.2.2.2.2.1.below X) hG
   ·rw [yJ,r1.cell (i:=k) zO];unfold JR;rw [zC hk];simp [hk]
   ·injection e with e
    injection e with e _ _
    subst e;exact ⟨Z,zO,z⟩
  have d0:=(X.cell (p:=⟨gb,i*4,none⟩) a0).trans c0;have d:=IQ L1 X r1 Z;clear L1 a5 X r1 Z a3 c0;go_upto_region 3 with (first
   | (go_at_call 26;refine D.out.mono ?_;rintro e w2 ⟨n,er,t,rfl,W,v⟩))
  obtain ⟨J2,F,H2⟩:=v.ex;have V:Hid (Calls prog 124 #[.pointer (some ⟨R[i].r,0,none⟩), .slice (some x) P.length U] w2 fun e f=>e= .returned (.tuple #[.int .i64 n, .int .i64 er])/\ET B w2 R[i].q R[i].r t t J2 f):=PY H2 c.out.2.2.1.kept W (some x) U (c.out.2.2.2.1.str (zG s1 v.bel.size) fun j N hn=>(v.block j zO fun e=>hn (HX.out j e)).trans (d.out.2.1.block j N)) (by unfold maxLen;omega) zO ((c.out.2.1.below (d.out.2.1.mono Y)).below v.bel);have d1:w2.cell? ⟨gb,i*4+1,none⟩=some (.pointer (some ⟨R[i].r,0,none⟩)):=by
   rw [yV (a:=⟨gb,i*4+1,none⟩) (v.block gb zO a6),d.out.2.1.cell (p:=⟨gb,i*4+1,none⟩) a0];exact c1
  obtain ⟨fm,mem,lim,I⟩:=c.out.2.2.1.Hv;obtain ⟨nn,a1,a2⟩:=W.num I;subst a1;have A:=CL v F;clear H2 v F W I D c1 d0;go_upto_region 4 with (first
   | (go_at_call 124;refine V.out.mono ?_;rintro e O ⟨rfl,E3⟩))
  have E:=A.out.1.comp A.out.2 E3;obtain ⟨J',ρ',L3,hρ',a4⟩:=d.out.1.gate zO hi E;have a7:∀ j,j<w.heap.size->R[i].J j->H<=j:=fun j _ N=>(c.out.1.x9 j (HX.out j N)).2.1
  have LB:bS H (R.set i (R[i].go t J')) T ρ' { s with still:=[] } O w.heap.size:=by
   have G:=c.out.1.Kt;refine ⟨zM z E.bel.size,by rw [hρ' _ z];exact setρ_at _ _ _,c.out.1.hH,fun e=>?_,⟨fun e=>?_,fun e=>?_⟩⟩
   ·rcases e with e | e | ⟨y,hy,e⟩ | ⟨y,hy,e⟩
    ·have:=Bj G.rn e;omega
    ·have:=Bj G.tx e;omega
    ·rcases Ic hy with rfl | ⟨j,N,_,rfl⟩
     ·exact d.out.2.2.2 (a4 _ z e)
     ·have:=((G.each _ (yD N)).1.at_ e).2;omega
    ·have:=(G.KT y hy).2.1;omega
   ·have:=Bj c.out.1.cs.1 e;omega
   ·have:=Bj c.out.1.ss.1 e;omega
  have r3:=d.out.2.2.1.of_block (E.block _ z d.out.2.2.2);have l:∀ j,j<w.heap.size->¬ R[i].J j->O.heap[j]?=w.heap[j]?:=fun j N hn=>(E.block j zO hn).trans (d.out.2.1.block j N)
  have PX:nv O x P w.heap.size gW:=by
   have Q:=c.out.2.2.2.1;refine ⟨fun j u hu=>?_,Q.spot x rfl,fun h0=>⟨by have:=(Q.off x rfl h0).2.2;omega,(Q.off x rfl h0).2.1⟩⟩;obtain ⟨q1,q2⟩:=Q.at_ x rfl j u hu;have h0:0<P.length:=by
    have:=(vH.1 hu).1;simp [Eg] at this;omega
   have hb:(x.add j).block=x.block:=by unfold Addr.add;split <;> rfl
   refine ⟨zM q1 (zG s1 E.bel.size),?_⟩;rw [yV (w:=w) (by rw [hb];exact l x.block q1 fun e=>(Q.off x rfl h0).1 (HX.out _ e)),q2]
  have b5:Hid (Calls prog 125 #[.pointer (some ⟨gW,0,none⟩), .slice (some ⟨w.heap.size,0,none⟩) P.length (P.length+8), .slice (some x) P.length U] O fun e f=>e= .returned (.bool true)/\Below B O f/\∃ (ρ2:Nat->Nat) (s2:Aj) (T':List Cy),LJ B gW H C S (k+1) (R.set i (R[i].go t J')) T' ρ2 s2 f/\(∀ j,j<O.heap.size->ρ2 j=ρ' j)/\s2.DZ=s.DZ/\∀ j,j<O.heap.size->¬ RN s.DZ s.Ec (R.set i (R[i].go t J')) T j->j≠gW->j≠w.heap.size->f.heap[j]?=O.heap[j]?):=
   WV (s:={ s with still:=[] }) w.heap.size U x P O L3 a8 LB Y r3 zO PX ((c.out.2.2.2.2.2.below d.out.2.1).PU E.bel b0) b0
  have HE:=IQ E (hρ') l L3;clear L3 hρ' a4 LB r3 PX E3 E l d1;go_wp2_with (first
   | (go_at_call 125;refine b5.out.mono ?_;rintro e w4 ⟨rfl,HQ⟩;have b3:Hid _:=HQ;clear HQ)
   | (go_at_call 86;refine (FM _ _).mono ?_;rintro e w5 ⟨rfl,rfl⟩))
  go_ret2
  obtain ⟨b4,ρ2,s2,T',L4,hρ4,c3,b7⟩:=b3.out;refine ⟨⟨nn,zS,a2⟩,((d.out.2.1.mono Y).trans HE.out.1.bel).trans b4,t,J',hi,T',ρ2,s2,L4,c3,fun j N hl h9=>⟨?_,?_⟩⟩
  ·have b8:¬ R[i].J j:=fun e=>by have:=a7 j hl e;omega
   rw [b7 j (zM hl (zG s1 HE.out.1.bel.size)) (fun e=>by have:=(HE.out.2.2.2.x9 j e).2.1;omega) (fun e=>by have h5:=c.out.1.inv.rW;rw [<- e] at h5;omega) zO];exact HE.out.2.2.1 j hl b8
  ·rw [hρ4 j (zM hl (zG s1 HE.out.1.bel.size)),HE.out.2.1 j zO,setρ_ne zO];exact h9
structure Ew(B gW H:Nat)(C:List (List Int))(S:List ByteArray)(k:Nat)(ρ:Nat->Nat)(w w':World):Prop where
 bel:Below B w w'
 ex:∃ (R':List Df) (T':List Cy) (ρ':Nat->Nat) (s':Aj),LJ B gW H C S (k+1) R' T' ρ' s' w'/\KH H ρ ρ' w w'
theorem PI.step(h:PI B gW H C S k i R ρ s w w'):Ew B gW H C S k ρ w w':=by
 obtain ⟨c,a,hi,b,ρ',d,L,_,K⟩:=h.ex;exact ⟨h.bel,_,_,_,_,L,K⟩
theorem Ew.from_{w1:World}(hB:B<=w.heap.size)(b:Below w.heap.size w w1)(h:Ew B gW H C S k ρ w1 w'):Ew B gW H C S k ρ w w':=by
 obtain ⟨R',a,ρ',f,L,K⟩:=h.ex;refine ⟨(b.mono hB).trans h.bel,R',a,ρ',f,L,fun j d hl c=>?_⟩;obtain ⟨e,k2⟩:=K j d (zM hl b.size) c;exact ⟨e.trans (b.block j hl),k2⟩
theorem PI.Fv(h:PI B gW H C S k i R ρ s w w')(v:k<=2000000)(hi:i<R.length)(r:s.DZ.ownBlock=some gb)(y:n<=R[i].s.size):w'.cell? ⟨gb,i*4+3,none⟩=some (.int .i64 R[i].k)/\w'.frozen? ⟨gb,i*4+3,none⟩=false/\Ew B gW H C S k ρ w (w'.setCell ⟨gb,i*4+3,none⟩ (.int .i64 n)):=by
 obtain ⟨g,d,t,D,ρ',A,L,hv,K⟩:=h.ex;have hl:i<(R.set i (R[i].go g d)).length:=by rw [vU];exact hi
 have he:(R.set i (R[i].go g d))[i]'hl=R[i].go g d:=jT ..;obtain ⟨c,E,a,_,_,_,_,_,c3,p⟩:=L.Kt.dt hl;have b:A.DZ.ownBlock=some gb:=by rw [hv];exact r
 rw [a] at b;have e:c=gb:=by simpa [Value.ownBlock] using b
 subst e;obtain ⟨l,o⟩:=L.at_ (n:=n) zO hl (gb:=c) (by rw [a];rfl) (by rw [he];exact y);refine ⟨by rw [c3,he];rfl,p,h.bel.trans o,_,_,_,_,l,fun j u f q=>?_⟩;obtain ⟨z,k2⟩:=K j u f q;refine ⟨(zZ _ _ _ _ fun e=>?_).trans z,k2⟩;have:=(L.x9 c (Or.inl (by rw [a];rfl))).2.1;have e:j=c:=e;omega
theorem Js{c:Int}(h:0<n):Gj c n<n:=yC _ h
theorem Zx(n f:Int)(w:World)(h:LJ B gW H C S k R T ρ s w)(J:k<=2000000)(hi:i<R.length)(hv:s.DZ= .slice (some ⟨gb,0,none⟩) R.length cb)(hn:Kv n)(hf:Kv f)(hO:EG w)(hR:Bs w B)(o:Kj w)(hG:0<B)(V:2<B) :
  Calls prog 92 #[.pointer (some ⟨gW,0,none⟩), .pointer (some ⟨gb,i*4,none⟩), .int .i64 n, .int .i64 f] w fun e p=>e= .returned (.bool true)/\Ew B gW H C S k ρ w p:=by
 have hm:=yD hi;obtain ⟨a1,a0,M,_,a7,_,_,c2,c3,_⟩:=h.Kt.dt hi;rw [hv] at M;injection M with e1 _ _
 injection e1 with e1
 injection e1 with e1 _ _
 subst e1;have L:s.DZ.ownBlock=some gb:=by rw [hv];rfl
 have hJ:=(h.Kt.each _ hm).2;have b:∃ sx a,R[i].s=sx/\R[i].k=a:=⟨_,_,rfl,rfl⟩
 obtain ⟨sx,a,g,d⟩:=b;have b:=CL g d;rw [g,d] at hJ;rw [g] at c2;rw [d] at c3;clear g d;obtain ⟨a4,a5⟩:=hJ;obtain ⟨N,hN⟩:=qe (Gj n (sx.size - a+1));obtain ⟨F,hF⟩:=qe (Gj f (N+1));have a6:N<=sx.size - a:=by have:=Js (c:=n) (n:=sx.size - a+1) zO;omega
 have a2:F<=N:=by have:=Js (c:=f) (n:=N+1) zO;omega
 have A:Hid (∀ W,Calls prog 89 #[.int .i64 n, .int .i64 ((sx.size:Int) - a+1)] W fun e p=>e= .returned (.int .i64 N)/\W=p):=fun W=>by
  have:=Ik n (sx.size - a+1) W hn zO zO;rw [<- hN,show ((sx.size - a+1:Nat):Int)=(sx.size:Int) - a+1 by omega] at this;exact this
 have D:Hid (∀ W,Calls prog 89 #[.int .i64 f, .int .i64 ((N:Int)+1)] W fun e p=>e= .returned (.int .i64 F)/\W=p):=fun W=>by
  have:=Ik f (N+1) W hf zO zO;rw [<- hF,show ((N+1:Nat):Int)=(N:Int)+1 by omega] at this;exact this
 have l:=IQ h hR hO o;obtain ⟨u,Z⟩:=qe (sx.extract a (a+N));have a8:u.size=N:=by rw [Z,xG];omega
 obtain ⟨t,q⟩:=qe (u.extract 0 F);obtain ⟨y,r⟩:=qe (u.extract F N);have X:t.size=F:=by rw [q,xG];omega
 have Y:y.size=N - F:=by rw [r,xG];omega
 have G:Hid (∀ z:World,Below w.heap.size w z->z.heap[w.heap.size]?=some (.cells #[.string t, .string y] 9 (0,0))->Calls prog 91 #[.pointer (some ⟨gW,0,none⟩), .pointer (some ⟨gb,i*4,none⟩), .slice (some ⟨w.heap.size,0,none⟩) 2 2] z fun e p=>(∃ n:Nat,e= .returned (.tuple #[.int .i64 n, .bool true])/\n<=N)/\PI B gW H C S k i R ρ s z p):=fun z P hc=>by
  have L1:=l.out.1.below P;have I:=(yQ.1 hc).1;refine (RJ (some ⟨w.heap.size,0,none⟩) 2 2 [t,y] z L1 J hi hv ⟨rfl,⟨zO,?_⟩,fun e=>(by cases e),fun x e j v hj=>?_,fun x e _=>(by injection e with e;rw [<- e]),fun x e _=>?_⟩ (l.out.2.2.1.below P) (l.out.2.1.below (P.mono l.out.1.inv.hB)) (l.out.2.2.2.below P) hG V).mono ?_
  ·show t.size+(y.size+0)<=_;omega
  ·injection e with e
   subst e;refine ⟨I,?_⟩;rw [vJ,yJ,yA _ _ j _ _ _ hc];simpa [Eg] using hj
  ·injection e with e
   subst e;exact ⟨fun hx=>by have h5:w.heap.size<w.heap.size:=l.out.1.Kt.lt hx;omega,by have:=l.out.1.inv.row.lt;show w.heap.size≠gW;omega,I⟩
  ·rintro e p ⟨⟨O,rfl,U⟩,E⟩;have ht:total [t,y]=N:=by show t.size+(y.size+0)=N;omega
   exact ⟨⟨O,rfl,zO⟩,E⟩
 rw [q,r] at G;have HU:=hid Z;clear h hR hO o hN hF Z q r X Y t y;go_enter func92,ntmps92
 go_upto_region 1 with fail
 go_region
 go_wp2_with fail
 refine (A.out _).mono ?_;rintro e w1 ⟨rfl,rfl⟩;clear A;go_wp2_with fail
 refine (D.out _).mono ?_;rintro e w1 ⟨rfl,rfl⟩;clear D;go_wp2_with fail
 go_region
 go_wp2_with fail
 rw [<- HU.out];have a3:(F:Int)<=u.size:=zO;have Q:=hid L;go_region_with (go_at_call 91;refine (G.out _ (((zF w.heap.size w).alloc zL _).drew.drew.drew) (zJ w _)).mono ?_;rintro e w3 ⟨⟨O,rfl,U⟩,E3⟩;obtain ⟨q1,q2,q3⟩:=E3.Fv J hi (gb:=gb) (n:=a+O) Q.out (by rw [b.out.1];omega);rw [b.out.2] at q1;rw [show ((a+O:Nat):Int)=(a:Int)+O by omega] at q3;have HQ:=hid (q3.from_ l.out.1.inv.hB (((zF w.heap.size w).alloc zL _).drew.drew.drew));clear E3 q3)
 all_goals
  go_wp2
  go_ret
  exact ⟨rfl,HQ.out⟩
theorem Txts.pc{w0:World}(h:Txts w0 1048576 ap np cp P)(L:LJ B gW H C S k R T ρ s w)(b:Below B w0 w)(hB:w0.heap.size<=B):bW w ap np cp gW s.DZ s.Ec R T P:=by
 have d:=h.small;have hs:=b.size;have G:=L.Kt;refine ⟨h.len,⟨zO,zO⟩,h.nil,fun x e j u f=>?_,h.spot,fun x e h0=>?_⟩
 ·subst e;obtain ⟨h1,h2⟩:=RD h j u f;have c:(x.add j).block=x.block:=by unfold Addr.add;split <;> rfl
  exact ⟨zO,by rw [b.cell (p:=x.add j) (by rw [c];omega)];exact h2⟩
 ·subst e;have hl:=h.len;obtain ⟨h1,_⟩:=RD h 0 (.string (P[0]'zO)) zS;refine ⟨fun hx=>?_,by have:=L.inv.gB;omega,zO⟩;rcases hx with e | e | ⟨y,a,e⟩ | ⟨y,a,e⟩
  ·have:=(G.rn.lt _ e).1;omega
  ·have:=(G.tx.lt _ e).1;omega
  ·have:=((G.each y a).1.at_ e).1;omega
  ·have:=(G.off y a).2.2.2;omega
theorem bW.below(h:bW w ap np cp gW DZ Ec R T P)(b:Below w.heap.size w w'):bW w' ap np cp gW DZ Ec R T P:=by
 refine ⟨h.len,h.small,h.nil,fun x e j u c=>?_,h.spot,fun x e h0=>⟨(h.off x e h0).1,(h.off x e h0).2.1,zM (h.off x e h0).2.2 b.size⟩⟩;obtain ⟨h1,h2⟩:=h.at_ x e j u c;have a:(x.add j).block=x.block:=by unfold Addr.add;split <;> rfl
 exact ⟨zM h1 b.size,by rw [b.cell (p:=x.add j) (by rw [a];exact h1)];exact h2⟩
structure Tabs(B:Nat)(w:World):Prop where
 ref:Bs w B
 prog:EG w
 pow:Kj w
 hG:0<B
 hP:2<B
theorem Tabs.below(h:Tabs B w)(b:Below B w w'):Tabs B w':=⟨h.ref.below b,h.prog.PU b h.hG,h.pow.PU b h.hP,h.hG,h.hP⟩
theorem aF(kd a b c:Int)(t:ByteArray)(f:Option Addr)(l g:Nat)(w:World)(h:LJ B gW H C S k [] T ρ s w) :
  Calls prog 61 #[.pointer (some ⟨gW,0,none⟩), .agg (Gx kd a b c t (.slice f l g))] w fun e r=>e= .returned (.bool true)/\Ew B gW H C S k ρ w r:=by
 obtain ⟨ad,o,hv⟩:=Jp h.Kt.rn;have d:Hid (Below w.heap.size w (w.alloc (.cells #[.int .i64 kd, .int .i64 a, .int .i64 b, .int .i64 c, .string t, .slice f l g] 79))):=zB.alloc zL _;have c3:(w.alloc (.cells #[.int .i64 kd, .int .i64 a, .int .i64 b, .int .i64 c, .string t, .slice f l g] 79)).cell? ⟨gW,3,none⟩=some (.slice ad 0 o):=by
  rw [d.out.cell (p:=⟨gW,3,none⟩) h.inv.row.lt,h.inv.row.cell (i:=3) zO,show fld s 3=s.DZ from rfl,hv];rfl
 have n:=hid h;clear h hv;unfold Gx;go_enter func61,ntmps61
 go_wp2
 go_ret
 exact ⟨rfl,d.out.mono n.out.inv.hB,[],T,ρ,s,(n.out.below d.out).mono (kY _),fun j _ hl q=>⟨d.out.block j hl,q⟩⟩
theorem aG(kd a b c:Int)(t:ByteArray)(U:Option Addr)(Z X:Nat)(P:List ByteArray)(w:World)(h:LJ B gW H C S k R T ρ s w)(hR:0<R.length)(O:k<=2000000)(d0:9<=kd/\kd<=13)(ha:Kv a)(hb:Kv b)(hc:Kv c)(hP:bW w U Z X gW s.DZ s.Ec R T P)(hT:Tabs B w) :
  Calls prog 61 #[.pointer (some ⟨gW,0,none⟩), .agg (Gx kd a b c t (.slice U Z X))] w fun e g=>e= .returned (.bool true)/\Ew B gW H C S k ρ w g:=by
 obtain ⟨i,a8⟩:=qe (Gj a R.length);have hi:i<R.length:=by rw [a8];exact Js hR
 obtain ⟨gb,cb,hv,_,c9,_⟩:=h.Kt.dt hi;obtain ⟨W,hW⟩:=qe (w.alloc (.cells #[.int .i64 kd, .int .i64 a, .int .i64 b, .int .i64 c, .string t, .slice U Z X] 79));have b0:Below w.heap.size w W:=by rw [hW];exact zB.alloc zL _
 have u:W.heap[w.heap.size]?=some (.cells #[.int .i64 kd, .int .i64 a, .int .i64 b, .int .i64 c, .string t, .slice U Z X] 79 (0,0)):=by rw [hW];exact zJ w _
 have LW:=h.below b0;have c3:W.cell? ⟨gW,3,none⟩=some (.slice (some ⟨gb,0,none⟩) R.length cb):=by
  rw [LW.inv.row.cell (i:=3) zO,show fld s 3=s.DZ from rfl,hv]
 have e0:W.cell? ⟨w.heap.size,0,none⟩=some (.int .i64 kd):=by rw [yA _ _ 0 _ _ _ u];rfl
 have e1:W.cell? ⟨w.heap.size,1,none⟩=some (.int .i64 a):=by rw [yA _ _ 1 _ _ _ u];rfl
 have e2:W.cell? ⟨w.heap.size,2,none⟩=some (.int .i64 b):=by rw [yA _ _ 2 _ _ _ u];rfl
 have e3:W.cell? ⟨w.heap.size,3,none⟩=some (.int .i64 c):=by rw [yA _ _ 3 _ _ _ u];rfl
 have e5:W.cell? ⟨w.heap.size,5,none⟩=some (.slice U Z X):=by rw [yA _ _ 5 _ _ _ u];rfl
 have c7:=zG h.rl O;have b6:Hid (∀ V,Calls prog 89 #[.int .i64 a, .int .i64 R.length] V fun e g=>e= .returned (.int .i64 i)/\V=g):=fun V=>by
  rw [a8];exact Ik a R.length V ha hR zO
 have d:Hid (LJ B gW H C S k R T ρ s W/\Tabs B W/\Below w.heap.size w W/\s.DZ= .slice (some ⟨gb,0,none⟩) R.length cb/\B<=w.heap.size/\bW w U Z X gW s.DZ s.Ec R T P/\LJ B gW H C S k R T ρ s w):=⟨LW,hT.below (b0.mono h.inv.hB),b0,hv,h.inv.hB,hP,h⟩
 have c6:¬ (R.length:Int)=0:=zO;clear u a8 LW b0 hT hv hP h;unfold Gx;go_enter func61,ntmps61
 go_upto_region 1 with fail
 rw [<- hW];obtain ⟨G,hG⟩:=qe w.heap.size;rw [<- hG] at e0 e1 e2 e3 e5 |-;have HG:=hid hG;clear hW hG;obtain ⟨n,hn⟩:=qe R.length;have HI:=hid hi;rw [<- hn] at c3 b6 c6 c7 hi hR;clear hn;go_wp2_with fail
 go_region_held3 (fun wv=>wv.cell? ⟨G,1,none⟩=some (.int .i64 a)/\wv.cell? ⟨gW,3,none⟩=some (.slice (some ⟨gb,0,none⟩) n cb)) (first | exact ⟨e1,c3⟩)
  (first
   | (go_at_call 89;refine (b6.out _).mono ?_;rintro e w1 ⟨rfl,rfl⟩))
 have hm:=yD HI.out;obtain ⟨_,_,c2,_,_,c0,c1,_,_,_⟩:=d.out.1.Kt.dt HI.out;rw [d.out.2.2.2.1] at c2;injection c2 with x1 _ _
 injection x1 with x1
 injection x1 with x1 _ _
 subst x1;have b9:¬ (R[i]'HI.out).J gb:=fun e=>(d.out.1.Kt.own _ hm gb e).1 (by rw [d.out.2.2.2.1];rfl)
 have b7:¬ (R[i]'HI.out).J G:=fun e=>by have h1:=((d.out.2.2.2.2.2.2.Kt.each _ hm).1.at_ e).2;have:=HG.out;omega
 have b8:G<W.heap.size:=(by have h1:=xT W _ e0;exact h1)
 have L:gb<W.heap.size:=(by have h1:=xT W _ c0;exact h1)
 have D:=hid ((d.out.1.Kt.each _ hm).1);have b5:Hid (∀ V z m',Below W.heap.size W V->ET B V (R[i]'HI.out).q (R[i]'HI.out).r m' m' (R[i]'HI.out).J z->Ew B gW H C S k ρ w z):=fun V z m' f E=>(((d.out.1.below f).gone O HI.out E).step.from_ (zG d.out.2.2.2.2.1 d.out.2.2.1.size) f).from_ d.out.2.2.2.2.1 d.out.2.2.1
 have a7:kd=9\/kd=10\/kd=11\/kd=12\/kd=13:=zO;rcases a7 with rfl | rfl | rfl | rfl | rfl
 ·have a3:Hid (∀ V,Below W.heap.size W V->Calls prog 91 #[.pointer (some ⟨gW,0,none⟩), .pointer (some ⟨gb,i*4,none⟩), .slice U Z X] V fun e g=>(∃ n:Nat,e= .returned (.tuple #[.int .i64 n, .bool true]))/\Ew B gW H C S k ρ w g):=fun V f=>by
   have y:=d.out.2.1.below (f.mono (zG d.out.2.2.2.2.1 d.out.2.2.1.size));refine (RJ U Z X P V (d.out.1.below f) O HI.out d.out.2.2.2.1 ((d.out.2.2.2.2.2.1.below d.out.2.2.1).below f) y.prog y.ref y.pow y.hG y.hP).mono ?_;rintro e g ⟨⟨nn,rfl,_⟩,E⟩;exact ⟨⟨nn,rfl⟩,(E.step.from_ (zG d.out.2.2.2.2.1 d.out.2.2.1.size) f).from_ d.out.2.2.2.2.1 d.out.2.2.1⟩
  go_wp2_with (go_at_call 91;refine (a3.out _ (by first | exact zF _ _ | exact zB.drew | exact zB.drew.drew | exact zB.drew.drew.drew)).mono ?_;rintro e Q ⟨⟨nn,rfl⟩,F⟩)
  go_ret
  exact ⟨rfl,F⟩
 ·have a3:Hid (∀ V,Below W.heap.size W V->Calls prog 92 #[.pointer (some ⟨gW,0,none⟩), .pointer (some ⟨gb,i*4,none⟩), .int .i64 b, .int .i64 c] V fun e g=>e= .returned (.bool true)/\Ew B gW H C S k ρ w g):=fun V f=>by
   have y:=d.out.2.1.below (f.mono (zG d.out.2.2.2.2.1 d.out.2.2.1.size));refine (Zx b c V (d.out.1.below f) O HI.out d.out.2.2.2.1 hb hc y.prog y.ref y.pow y.hG y.hP).mono ?_;rintro e g ⟨rfl,E⟩;exact ⟨rfl,(E.from_ (zG d.out.2.2.2.2.1 d.out.2.2.1.size) f).from_ d.out.2.2.2.2.1 d.out.2.2.1⟩
  go_wp2_with (go_at_call 92;refine (a3.out _ (by first | exact zF _ _ | exact zB.drew | exact zB.drew.drew | exact zB.drew.drew.drew)).mono ?_;rintro e Q ⟨rfl,F⟩)
  go_ret
  exact ⟨rfl,F⟩
 ·have I:Hid (∀ V,Below W.heap.size W V->Calls prog 30 #[.pointer (some ⟨(R[i]'HI.out).q,0,none⟩), .int .i64 b] V fun e g=>∃ l er,e= .returned (.tuple #[.string (DD l), .int .i64 (er:Nat)])/\g.cell? ⟨gb,i*4+1,none⟩=some (.pointer (some ⟨(R[i]'HI.out).r,0,none⟩))/\g.cell? ⟨G,2,none⟩=some (.int .i64 b)/\∀ z,Below g.heap.size g z->Calls prog 93 #[.pointer (some ⟨(R[i]'HI.out).r,0,none⟩), .int .i64 b] z fun e o=>e= .returned (.tuple #[.string (DD l), .int .i64 er])/\Ew B gW H C S k ρ w o):=fun V f=>by
   have y:=d.out.2.1.below (f.mono (zG d.out.2.2.2.2.1 d.out.2.2.1.size));refine (Wm (D.out.below f) b hb y.prog y.hG).mono ?_;rintro e g ⟨l,er,m',rfl,D1,E1⟩;have hs:=f.size;refine ⟨l,er,rfl,?_,?_,fun z a5=>?_⟩
   ·rw [yV (w:=V) (a:=⟨gb,i*4+1,none⟩) (E1.block gb zO b9),f.cell (p:=⟨gb,i*4+1,none⟩) L];exact c1
   ·rw [yV (w:=V) (a:=⟨G,2,none⟩) (E1.block G zO b7),f.cell (p:=⟨G,2,none⟩) b8];exact e2
   ·have A:=E1.below a5;obtain ⟨J2,a6,H2⟩:=A.ex;refine (Wn H2 D.out.kept D1 (y.ref.below A.bel)).mono ?_;rintro e o ⟨rfl,F⟩;exact ⟨rfl,b5.out V o m' f (A.comp a6 F)⟩
  go_wp2_with fail
  go_region_with (go_at_call 30;refine (I.out _ (by first | exact zF _ _ | exact zB.drew | exact zB.drew.drew | exact zB.drew.drew.drew)).mono ?_;rintro e w1 ⟨l,er,rfl,f1,f2,D2⟩;have a1:Hid (∀ z,Below w1.heap.size w1 z->Calls prog 93 #[.pointer (some ⟨(R[i]'HI.out).r,0,none⟩), .int .i64 b] z fun e o=>e= .returned (.tuple #[.string (DD l), .int .i64 er])/\Ew B gW H C S k ρ w o):=D2;clear D2 I)
  all_goals
   generalize DD l=sl at *;go_wp2_with fail
   go_region_with (go_at_call 93;refine (a1.out _ (by first | exact zF _ _ | exact zB.drew | exact zB.drew.drew | exact zB.drew.drew.drew)).mono ?_;rintro e Q ⟨rfl,F⟩;have a2:=hid F;clear F)
  all_goals
   go_wp2_with (go_at_call 86;refine (FM _ _).mono ?_;rintro e w5 ⟨rfl,rfl⟩)
   go_ret
   exact ⟨zS,a2.out⟩
 ·have I:Hid (∀ V,Below W.heap.size W V->Calls prog 31 #[.pointer (some ⟨(R[i]'HI.out).q,0,none⟩)] V fun e g=>∃ er,e= .returned (.int .i64 (er:Nat))/\g.cell? ⟨gb,i*4+1,none⟩=some (.pointer (some ⟨(R[i]'HI.out).r,0,none⟩))/\g.cell? ⟨G,2,none⟩=some (.int .i64 b)/\∀ z,Below g.heap.size g z->Calls prog 94 #[.pointer (some ⟨(R[i]'HI.out).r,0,none⟩)] z fun e o=>e= .returned (.int .i64 er)/\Ew B gW H C S k ρ w o):=fun V f=>by
   have y:=d.out.2.1.below (f.mono (zG d.out.2.2.2.2.1 d.out.2.2.1.size));refine (Wk (D.out.below f) y.prog y.hG).mono ?_;rintro e g ⟨er,m',rfl,D1,E1⟩;have hs:=f.size;refine ⟨er,rfl,?_,?_,fun z a5=>?_⟩
   ·rw [yV (w:=V) (a:=⟨gb,i*4+1,none⟩) (E1.block gb zO b9),f.cell (p:=⟨gb,i*4+1,none⟩) L];exact c1
   ·rw [yV (w:=V) (a:=⟨G,2,none⟩) (E1.block G zO b7),f.cell (p:=⟨G,2,none⟩) b8];exact e2
   ·have A:=E1.below a5;obtain ⟨J2,a6,H2⟩:=A.ex;refine (Wl H2 D.out.kept D1 (y.ref.below A.bel)).mono ?_;rintro e o ⟨rfl,F⟩;exact ⟨rfl,b5.out V o m' f (A.comp a6 F)⟩
  go_wp2_with (first
   | (go_at_call 31;refine (I.out _ (by first | exact zF _ _ | exact zB.drew | exact zB.drew.drew | exact zB.drew.drew.drew)).mono ?_;rintro e w1 ⟨er,rfl,f1,f2,D2⟩;have a1:Hid (∀ z,Below w1.heap.size w1 z->Calls prog 94 #[.pointer (some ⟨(R[i]'HI.out).r,0,none⟩)] z fun e o=>e= .returned (.int .i64 er)/\Ew B gW H C S k ρ w o):=D2;clear D2 I)
   | (go_at_call 94;refine (a1.out _ (by first | exact zF _ _ | exact zB.drew | exact zB.drew.drew | exact zB.drew.drew.drew)).mono ?_;rintro e Q ⟨rfl,F⟩;have a2:=hid F;clear F)
   | (go_at_call 86;refine (FM _ _).mono ?_;rintro e w5 ⟨rfl,rfl⟩))
  go_ret
  exact ⟨zS,a2.out⟩
 ·obtain ⟨m,a9⟩:=qe ((R[i]'HI.out).m);have c4:Hid (∀ V,Below W.heap.size W V->Calls prog 27 #[.pointer (some ⟨(R[i]'HI.out).q,0,none⟩)] V fun e g=>e= .returned (.agg #[.int .i64 m.c.pre.length, .int .i64 m.c.outs.length, .int .i64 m.wait, .int .i64 m.begun, .int .i64 ((m.c.pre.length:Int)+m.c.outs.length), .bool m.acc, .int .i64 m.err])/\Below V.heap.size V g):=fun V f=>by
   rw [a9];exact Zd (D.out.below f)
  have c5:Hid (∀ V,Below W.heap.size W V->Calls prog 95 #[.pointer (some ⟨(R[i]'HI.out).r,0,none⟩)] V fun e g=>e= .returned (.agg #[.int .i64 m.c.pre.length, .int .i64 m.c.outs.length, .int .i64 m.wait, .int .i64 m.begun, .int .i64 ((m.c.pre.length:Int)+m.c.outs.length), .bool m.acc, .int .i64 m.err])/\Below V.heap.size V g):=fun V f=>by
   rw [a9];exact Ze (D.out.below f) D.out.kept
  clear a9;go_wp2_with fail
  refine (c4.out _ (by first | exact zF _ _ | exact zB.drew | exact zB.drew.drew | exact zB.drew.drew.drew)).mono ?_;rintro e w1 ⟨rfl,b1⟩;have a4:Below W.heap.size W w1:=⟨b1.os,b1.tape,b1.output,b1.size,b1.block⟩
  obtain ⟨W2,M⟩:=qe (w1.alloc (.cells #[.int .i64 m.c.pre.length, .int .i64 m.c.outs.length, .int .i64 m.wait, .int .i64 m.begun, .int .i64 ((m.c.pre.length:Int)+m.c.outs.length), .bool m.acc, .int .i64 m.err] 50));have b2:Below w1.heap.size w1 W2:=by rw [M];exact zB.alloc zL _
  have r2:W2.rowIs w1.heap.size 50 7 (FY m.cells):=by rw [M];exact yL w1 #[.int .i64 m.c.pre.length, .int .i64 m.c.outs.length, .int .i64 m.wait, .int .i64 m.begun, .int .i64 ((m.c.pre.length:Int)+m.c.outs.length), .bool m.acc, .int .i64 m.err] _ _ (UD rfl rfl rfl rfl rfl rfl rfl)
  have v:=CL (a4.trans (b2.mono a4.size)) r2;have f1:=(v.out.1.cell (p:=⟨gb,i*4+1,none⟩) L).trans c1;clear b1 a4 b2 r2;go_upto_region 19 with fail
  rw [<- M];obtain ⟨c8,Y⟩:=qe w1.heap.size;rw [<- Y] at v |-;clear M Y;go_upto_region 20 with (go_at_call 95;refine (c5.out _ v.out.1).mono ?_;rintro e Q ⟨rfl,b3⟩)
  obtain ⟨W4,N⟩:=qe (Q.alloc (.cells #[.int .i64 m.c.pre.length, .int .i64 m.c.outs.length, .int .i64 m.wait, .int .i64 m.begun, .int .i64 ((m.c.pre.length:Int)+m.c.outs.length), .bool m.acc, .int .i64 m.err] 50));have b4:Below Q.heap.size Q W4:=by rw [N];exact zB.alloc zL _
  have r4:W4.rowIs Q.heap.size 50 7 (FY m.cells):=by rw [N];exact yL Q #[.int .i64 m.c.pre.length, .int .i64 m.c.outs.length, .int .i64 m.wait, .int .i64 m.begun, .int .i64 ((m.c.pre.length:Int)+m.c.outs.length), .bool m.acc, .int .i64 m.err] _ _ (UD rfl rfl rfl rfl rfl rfl rfl)
  have r5:=(v.out.2.of_block (b3.block _ v.out.2.lt)).of_block (b4.block _ (zM v.out.2.lt b3.size));have a0:=hid ((v.out.1.trans (b3.mono v.out.1.size)).trans (b4.mono (zG v.out.1.size b3.size)));obtain ⟨x0,x1,x2,x3,x4,x5,x6⟩:=MG.du r4;obtain ⟨y0,y1,y2,y3,y4,y5,y6⟩:=MG.du r5;rw [<- N];clear N b4 r4 r5 b3;go_wp2
  go_ret
  have L4:=(d.out.1.below a0.out).mono (kY k);exact ⟨zS,Ew.from_ d.out.2.2.2.2.1 d.out.2.2.1 ⟨a0.out.mono (zG d.out.2.2.2.2.1 d.out.2.2.1.size),R,T,ρ,s,L4,fun j _ hl h9=>⟨a0.out.block j hl,h9⟩⟩⟩
def Gm.of(l:List Int):Gm:=⟨l.getD 0 0,l.getD 1 0,l.getD 2 0,l.getD 3 0,l.getD 4 0,l.getD 5 0,l.getD 6 0⟩
theorem VE(h:∀ c∈C,c.length=7){j:Nat}(a:j<C.length)(b:r<7):(C.flatMap Al)[j*7+r]?=some (.int .i64 ((C[j]).getD r 0)):=by
 induction C generalizing j with
 | nil=>simp at a
 | cons x xs ih=>
  have hx:(Al x).length=7:=by rw [MC];exact h x (kO ..)
  rw [xL];cases j with
  | zero=>
   rw [kE zO,Nat.zero_mul,yJ];have hl:r<x.length:=by have:=h x (kO ..);omega
   simp [Al,hl]
  | succ j=>
   rw [AV zO,hx,show (j+1)*7+r - 7=j*7+r by omega];exact ih (fun c hc=>h c (jP _ hc)) (by simpa using a)
theorem ek.at_(h:ek B ρ s w C)(f:∀ c∈C,c.length=7)(k:0<C.length):∃ g cap,s.vcs= .slice (some ⟨g,0,none⟩) C.length cap/\g<w.heap.size/\∀ j (d:j<C.length),∀ r,r<7->w.cell? ⟨g,j*7+r,none⟩=some (.int .i64 ((C[j]).getD r 0)):=by
 rcases h.1.2 with ⟨_,h0⟩ | ⟨g,cap,cur,hv,l,a,h1,h2,h3,h4⟩
 ·omega
 ·refine ⟨g,cap,hv,(yQ.1 a).1,fun j d r i=>?_⟩;have b:j*7+r<C.length*7:=zO;rw [yA w g (j*7+r) _ _ _ a,<- Array.getElem?_toList];have e:(cur.toList.take (C.length*7))[j*7+r]?=cur.toList[j*7+r]?:=by rw [jU,zC b]
  rw [<- e,h4];exact VE f d i
theorem WS{P:Program}{ops:Array Oper}{o:Oper}{a:Go.Act}{K:Go.Act->World->Prop}{Q:Exit->Go.Act->World->Prop}{E:Prop}(d:o.guard=none)(v:Value)(c:World)(b:(execOp a.eval o).run P w= .ok (.value v) c)(h:K (a.put o.dst v) c) :
  if Region.wanted o (yielded ops a.tmps)=true then Oper.wp P o a w K Q else E:=by
 have hw:Region.wanted o (yielded ops a.tmps)=true:=by simp [Region.wanted,d]
 rw [zC hw];unfold Oper.wp;rw [b,AI];exact h
theorem QC:(prog.info? 42).map (·.size)=some 7:=zK
theorem cx:(prog.info? 182).map (fun i=>(i.zero,i.size,i.bytes))=some (some (.agg #[.pointer none, .pointer none, .string ⟨#[]⟩, .int .i64 0]),4,40):=zK
theorem Xe(a b c:Int)(t:ByteArray)(ap:Option Addr)(np cp:Nat)(w:World)(h:LJ B gW H C S k R T ρ s w)(f0:k<=2000000)(hL:PL C S)(ha:Kv a)(hb:Kv b) :
  Calls prog 60 #[.pointer (some ⟨gW,0,none⟩), .agg (Gx 8 a b c t (.slice ap np cp))] w fun e L=>e= .returned (.bool true)/\Ew B gW H C S k ρ w L:=by
 obtain ⟨i,a3⟩:=qe (Gj a C.length);have hi:i<C.length:=by rw [a3];exact Js hL.ne.1
 obtain ⟨l,cc,b7,a8,a7⟩:=h.cs.at_ (fun c hc=>(hL.ce c hc).1) hL.ne.1;obtain ⟨d,I⟩:=qe (Gm.of (C[i]));obtain ⟨W,hW⟩:=qe (w.alloc (.cells #[.int .i64 8, .int .i64 a, .int .i64 b, .int .i64 c, .string t, .slice ap np cp] 79));have b0:Below w.heap.size w W:=by rw [hW];exact zB.alloc zL _
 have O:W.heap[w.heap.size]?=some (.cells #[.int .i64 8, .int .i64 a, .int .i64 b, .int .i64 c, .string t, .slice ap np cp] 79 (0,0)):=by rw [hW];exact zJ w _
 have LW:=h.below b0;have c0:W.cell? ⟨gW,0,none⟩=some (.slice (some ⟨l,0,none⟩) C.length cc):=by
  rw [LW.inv.row.cell (i:=0) zO,show fld s 0=s.vcs from rfl,b7]
 have e1:W.cell? ⟨w.heap.size,1,none⟩=some (.int .i64 a):=by rw [yA _ _ 1 _ _ _ O];rfl
 have e2:W.cell? ⟨w.heap.size,2,none⟩=some (.int .i64 b):=by rw [yA _ _ 2 _ _ _ O];rfl
 have hq:∀ r,r<7->W.cell? ⟨l,i*7+r,none⟩=some (.int .i64 ((C[i]).getD r 0)):=fun r hr=>by
  rw [b0.cell (p:=⟨l,i*7+r,none⟩) a8];exact a7 i hi r hr
 have q0:W.cell? ⟨l,i*7,none⟩=some (.int .i64 d.fm):=by rw [I];exact hq 0 zO
 have q1:W.cell? ⟨l,i*7+1,none⟩=some (.int .i64 d.out):=by rw [I];exact hq 1 zO
 have q2:W.cell? ⟨l,i*7+2,none⟩=some (.int .i64 d.ratio):=by rw [I];exact hq 2 zO
 have q3:W.cell? ⟨l,i*7+3,none⟩=some (.int .i64 d.CH):=by rw [I];exact hq 3 zO
 have q4:W.cell? ⟨l,i*7+4,none⟩=some (.int .i64 d.mem):=by rw [I];exact hq 4 zO
 have q5:W.cell? ⟨l,i*7+5,none⟩=some (.int .i64 d.lim):=by rw [I];exact hq 5 zO
 have q6:W.cell? ⟨l,i*7+6,none⟩=some (.int .i64 d.steps):=by rw [I];exact hq 6 zO
 have c5:=hL.cl;have F:Hid (∀ V,Calls prog 89 #[.int .i64 a, .int .i64 C.length] V fun e L=>e= .returned (.int .i64 i)/\L=V):=fun V=>by
  rw [a3];exact (Ik a C.length V ha hL.ne.1 zO).mono fun e L h=>⟨h.1,h.2.symm⟩
 have A:=IQ LW b0 h.inv.hB hL;have c8:¬ (C.length:Int)=0:=zO;have f:=zM a8 b0.size;clear O a3 LW b0 hq a7 b7 hL h I;obtain ⟨n,hn⟩:=qe C.length;rw [<- hn] at c0 F c8 c5 hi;clear hn;unfold Gx;go_enter func60,ntmps60
 go_upto_region 1 with fail
 rw [<- hW];obtain ⟨G,hG⟩:=qe w.heap.size;rw [<- hG] at e1 e2 |-;have HG:=hid hG;clear hW hG;have a6:G<W.heap.size:=xT W _ e1;have a2:gW<W.heap.size:=xT W _ c0;go_wp2_with fail
 go_cut [5] (fun s5 wx=>∃ M:Nat,s5= .pointer (some ⟨M,0,none⟩)/\W.heap.size<=M/\wx.rowIs M 42 7 (FY [.int .i64 d.fm, .int .i64 d.out, .int .i64 d.ratio, .int .i64 d.CH, .int .i64 d.mem, .int .i64 d.lim, .int .i64 d.steps])/\Below W.heap.size W wx)
 case first=>
  have r0:=yL W.drew #[.int .i64 0, .int .i64 0, .int .i64 0, .int .i64 0, .int .i64 0, .int .i64 0, .int .i64 0] 42 (FY [.int .i64 0, .int .i64 0, .int .i64 0, .int .i64 0, .int .i64 0, .int .i64 0, .int .i64 0]) (UD rfl rfl rfl rfl rfl rfl rfl);have b6:(W.drew.alloc (.cells #[.int .i64 0, .int .i64 0, .int .i64 0, .int .i64 0, .int .i64 0, .int .i64 0, .int .i64 0] 42)).there W.heap.size 0 7:=fun j hj=>⟨by rw [yJ];exact kM.2 ⟨_,r0.cell hj⟩,r0.frozen _⟩
  have a1:Below W.heap.size W (W.drew.alloc (.cells #[.int .i64 0, .int .i64 0, .int .i64 0, .int .i64 0, .int .i64 0, .int .i64 0, .int .i64 0] 42)):=zB.drew.alloc zL _;have a5:Hid ((World.setCells (W.drew.alloc (.cells #[.int .i64 0, .int .i64 0, .int .i64 0, .int .i64 0, .int .i64 0, .int .i64 0, .int .i64 0] 42)) W.heap.size 0 [.int .i64 d.fm, .int .i64 d.out, .int .i64 d.ratio, .int .i64 d.CH, .int .i64 d.mem, .int .i64 d.lim, .int .i64 d.steps]).rowIs W.heap.size 42 7 (FY [.int .i64 d.fm, .int .i64 d.out, .int .i64 d.ratio, .int .i64 d.CH, .int .i64 d.mem, .int .i64 d.lim, .int .i64 d.steps])/\Below W.heap.size W (World.setCells (W.drew.alloc (.cells #[.int .i64 0, .int .i64 0, .int .i64 0, .int .i64 0, .int .i64 0, .int .i64 0, .int .i64 0] 42)) W.heap.size 0 [.int .i64 d.fm, .int .i64 d.out, .int .i64 d.ratio, .int .i64 d.CH, .int .i64 d.mem, .int .i64 d.lim, .int .i64 d.steps])):=⟨UA r0 rfl,EI zL _ _ a1⟩
  refine AB (S:=fun D=>Below W.heap.size W D) zK zB.drew (fun hHeld=>?_);refine zW (i:=0) (v:=?v0) rfl zK zK zK (fun _ _ _ h=>h) (Or.inl ⟨by rfl,?y0⟩) hHeld ?r0
  case y0=>(intro D g;go_simp;try (with_reducible rfl))
  case r0=>
  simp only [Go.Act.put,zU,zP,zR,zV,zT,zQ];refine zW (i:=1) (v:=?v1) rfl zK zK zK (fun _ _ _ h=>h) (Or.inl ⟨by rfl,?y1⟩) hHeld ?r1
  case y1=>(intro D g;go_simp;try (with_reducible rfl))
  case r1=>
  simp only [Go.Act.put,zU,zP,zR,zV,zT,zQ];refine zW (i:=2) (v:=?v2) rfl zK zK zK (fun _ _ _ h=>h) (Or.inl ⟨by rfl,?y2⟩) hHeld ?r2
  case y2=>(intro D g;go_simp;try (with_reducible rfl))
  case r2=>
  simp only [Go.Act.put,zU,zP,zR,zV,zT,zQ];refine zW (i:=3) (v:=?v3) rfl zK zK zK (fun _ _ _ h=>h) (Or.inl ⟨by rfl,?y3⟩) hHeld ?r3
  case y3=>(intro D g;have z0:=(g.cell (p:=⟨gW,0,none⟩) a2).trans c0;go_simp;try (with_reducible rfl))
  case r3=>
  simp only [Go.Act.put,zU,zP,zR,zV,zT,zQ];refine zW (i:=4) (v:=?v4) rfl zK zK zK (fun _ _ _ h=>h) (Or.inl ⟨by rfl,?y4⟩) hHeld ?r4
  case y4=>(intro D g;go_simp;try (with_reducible rfl))
  case r4=>
  simp only [Go.Act.put,zU,zP,zR,zV,zT,zQ];refine zW (i:=5) (v:=?v5) rfl zK zK zK (fun _ _ _ h=>h) (Or.inl ⟨by rfl,?y5⟩) hHeld ?r5
  case y5=>(intro D g;have z0:=(g.cell (p:=⟨G,1,none⟩) a6).trans e1;go_simp;try (with_reducible rfl))
  case r5=>
  simp only [Go.Act.put,zU,zP,zR,zV,zT,zQ];refine zW (i:=6) (v:=?v6) rfl zK zK zK (fun _ _ _ h=>h) (Or.inl ⟨by rfl,?y6⟩) hHeld ?r6
  case y6=>(intro D g;go_simp;try (with_reducible rfl))
  case r6=>
  simp only [Go.Act.put,zU,zP,zR,zV,zT,zQ];refine zW (i:=7) (v:=?v7) rfl zK zK zK (fun _ _ _ h=>h) (Or.inl ⟨by rfl,?y7⟩) hHeld ?r7
  case y7=>(intro D g;go_simp;try (with_reducible rfl))
  case r7=>
  simp only [Go.Act.put,zU,zP,zR,zV,zT,zQ];refine zW (i:=8) (v:=?v8) rfl zK zK zK (fun _ _ _ h=>h) (Or.inl ⟨by rfl,?y8⟩) hHeld ?r8
  case y8=>(intro D g;go_simp;try (with_reducible rfl))
  case r8=>
  simp only [Go.Act.put,zU,zP,zR,zV,zT,zQ];refine zW (i:=9) (v:=?v9) rfl zK zK zK (fun _ _ _ h=>h) (Or.inl ⟨by rfl,?y9⟩) hHeld ?r9
  case y9=>(intro D g;have z0:=(g.cell (p:=⟨gW,0,none⟩) a2).trans c0;go_simp;try (with_reducible rfl))
  case r9=>
  simp only [Go.Act.put,zU,zP,zR,zV,zT,zQ];refine zW (i:=10) (v:=?v10) rfl zK zK zK (fun _ _ _ h=>h) (Or.inl ⟨by rfl,?y10⟩) hHeld ?r10
  case y10=>(intro D g;go_simp;try (with_reducible rfl))
  case r10=>
  simp only [Go.Act.put,zU,zP,zR,zV,zT,zQ];refine vD (rs:=[11,14]) zK zS ?_;refine vC rfl (fun K N=>?_) (vC rfl (fun K N=>?_) vK)
  ·refine Gl (by rfl) 89 _ zK _ _ (F.out _) ?_;refine N.out _ _ hHeld (fun hHeld=>?_);simp only [Go.Act.put,zU,zP,zR,zV,zT,zQ];refine zW (i:=12) (v:=?v12) rfl zK zK zK (fun _ _ _ h=>h) (Or.inl ⟨by rfl,?y12⟩) hHeld ?r12
   case y12=>(intro D g;go_simp;try (with_reducible rfl))
   case r12=>
   simp only [Go.Act.put,zU,zP,zR,zV,zT,zQ];refine zW (i:=13) (v:=?v13) rfl zK zK zK (fun _ _ _ h=>h) (Or.inl ⟨by rfl,?y13⟩) hHeld ?r13
   case y13=>(intro D g;have z0:=(g.cell (p:=⟨l,i*7,none⟩) f).trans q0;have z1:=(g.cell (p:=⟨l,i*7+1,none⟩) f).trans q1;have z2:=(g.cell (p:=⟨l,i*7+2,none⟩) f).trans q2;have z3:=(g.cell (p:=⟨l,i*7+3,none⟩) f).trans q3;have z4:=(g.cell (p:=⟨l,i*7+4,none⟩) f).trans q4;have z5:=(g.cell (p:=⟨l,i*7+5,none⟩) f).trans q5;have z6:=(g.cell (p:=⟨l,i*7+6,none⟩) f).trans q6;go_simp;try (with_reducible rfl))
   case r13=>
   simp only [Go.Act.put,zU,zP,zR,zV,zT,zQ];refine vD (rs:=[14]) zK zS ?_;refine vC rfl (fun K N=>?_) vK;refine WS (by rfl) (.pointer (some ⟨W.heap.size,0,none⟩)) (W.drew.alloc (.cells #[.int .i64 0, .int .i64 0, .int .i64 0, .int .i64 0, .int .i64 0, .int .i64 0, .int .i64 0] 42)) zK ?_;refine N.out _ _ a1 (fun hHeld=>?_);simp only [Go.Act.put,zU,zP,zR,zV,zT,zQ];refine vD (rs:=[15]) zK zS ?_;refine vC rfl (fun K N=>?_) vK;rw [zC (by rfl)];refine jH 42 _ _ rfl W.heap.size 0 ([.int .i64 d.fm, .int .i64 d.out, .int .i64 d.ratio, .int .i64 d.CH, .int .i64 d.mem, .int .i64 d.lim, .int .i64 d.steps]:List Value).toArray rfl rfl b6 QC (kJ (by simp [Value.oneCell'])) ?_;refine N.out _ _ (EI zL _ _ hHeld) (fun _=>?_);simp only [Go.Act.put,zU,zP,zR,zV,zT,zQ];refine jJ zK ?_ _;go_wp2_with fail
   go_meet
   exact ⟨W.heap.size,rfl,zE _,a5.out⟩
  ·refine WS (by rfl) (.pointer (some ⟨W.heap.size,0,none⟩)) (W.drew.alloc (.cells #[.int .i64 0, .int .i64 0, .int .i64 0, .int .i64 0, .int .i64 0, .int .i64 0, .int .i64 0] 42)) zK ?_;refine N.out _ _ a1 (fun hHeld=>?_);simp only [Go.Act.put,zU,zP,zR,zV,zT,zQ];refine vD (rs:=[11]) zK zS ?_;refine vC rfl (fun K N=>?_) vK;refine Gl (by rfl) 89 _ zK _ _ (F.out _) ?_;refine N.out _ _ hHeld (fun hHeld=>?_);simp only [Go.Act.put,zU,zP,zR,zV,zT,zQ];refine zW (i:=12) (v:=?v12) rfl zK zK zK (fun _ _ _ h=>h) (Or.inl ⟨by rfl,?y12⟩) hHeld ?r12
   case y12=>(intro D g;go_simp;try (with_reducible rfl))
   case r12=>
   simp only [Go.Act.put,zU,zP,zR,zV,zT,zQ];refine zW (i:=13) (v:=?v13) rfl zK zK zK (fun _ _ _ h=>h) (Or.inl ⟨by rfl,?y13⟩) hHeld ?r13
   case y13=>(intro D g;have z0:=(g.cell (p:=⟨l,i*7,none⟩) f).trans q0;have z1:=(g.cell (p:=⟨l,i*7+1,none⟩) f).trans q1;have z2:=(g.cell (p:=⟨l,i*7+2,none⟩) f).trans q2;have z3:=(g.cell (p:=⟨l,i*7+3,none⟩) f).trans q3;have z4:=(g.cell (p:=⟨l,i*7+4,none⟩) f).trans q4;have z5:=(g.cell (p:=⟨l,i*7+5,none⟩) f).trans q5;have z6:=(g.cell (p:=⟨l,i*7+6,none⟩) f).trans q6;go_simp;try (with_reducible rfl))
   case r13=>
   simp only [Go.Act.put,zU,zP,zR,zV,zT,zQ];refine vD (rs:=[15]) zK zS ?_;refine vC rfl (fun K N=>?_) vK;rw [zC (by rfl)];refine jH 42 _ _ rfl W.heap.size 0 ([.int .i64 d.fm, .int .i64 d.out, .int .i64 d.ratio, .int .i64 d.CH, .int .i64 d.mem, .int .i64 d.lim, .int .i64 d.steps]:List Value).toArray rfl rfl b6 QC (kJ (by simp [Value.oneCell'])) ?_;refine N.out _ _ (EI zL _ _ hHeld) (fun _=>?_);simp only [Go.Act.put,zU,zP,zR,zV,zT,zQ];refine jJ zK ?_ _;go_wp2_with fail
   go_meet
   exact ⟨W.heap.size,rfl,zE _,a5.out⟩
 case rest=>
 obtain ⟨M,rfl,e9,r5,b5⟩:=hcut;have z:=CL b5 r5;have U:Hid (∀ V,Below wc.heap.size wc V->V.cell? ⟨M,0,none⟩=some (.int .i64 d.fm)/\V.cell? ⟨M,1,none⟩=some (.int .i64 d.out)/\V.cell? ⟨M,2,none⟩=some (.int .i64 d.ratio)/\V.cell? ⟨M,3,none⟩=some (.int .i64 d.CH)/\V.cell? ⟨M,4,none⟩=some (.int .i64 d.mem)/\V.cell? ⟨M,5,none⟩=some (.int .i64 d.lim)/\V.cell? ⟨M,6,none⟩=some (.int .i64 d.steps)):=fun V bv=>by
  have r:=z.out.2.of_block (bv.block _ z.out.2.lt);exact ⟨r.cell (i:=0) zO,r.cell (i:=1) zO,r.cell (i:=2) zO,r.cell (i:=3) zO,r.cell (i:=4) zO,r.cell (i:=5) zO,r.cell (i:=6) zO⟩
 clear q0 q1 q2 q3 q4 q5 q6 r5 b5 F c0 e1;obtain ⟨d0,d1,d2,d3,d4,d5,d6⟩:=U.out wc zB;cases hr:d.right with
 | false=>
  have X:Hid (∀ V,Calls prog 21 #[.agg #[.int .i64 d.fm, .int .i64 d.out, .int .i64 d.ratio, .int .i64 d.CH, .int .i64 d.mem, .int .i64 d.lim, .int .i64 d.steps]] V fun e L=>e= .returned (.tuple #[.pointer none, .int .i64 1])/\Below V.heap.size V L):=fun V=>aJ d V hr
  have Y:Hid (∀ V,Calls prog 90 #[.agg #[.int .i64 d.fm, .int .i64 d.out, .int .i64 d.ratio, .int .i64 d.CH, .int .i64 d.mem, .int .i64 d.lim, .int .i64 d.steps]] V fun e L=>e= .returned (.tuple #[.pointer none, .int .i64 1])/\Below V.heap.size V L):=fun V=>gO d V hr
  clear hr;go_wp2_with fail
  refine (X.out _).mono ?_;rintro e w2 ⟨rfl,b2⟩;have E:=hid b2;clear d0 d1 d2 d3 d4 d5 d6 b2;obtain ⟨d0,d1,d2,d3,d4,d5,d6⟩:=U.out w2 E.out;go_wp2_with fail
  refine (Y.out _).mono ?_;rintro e w3 ⟨rfl,b3⟩;have y:=hid ((z.out.1.trans (E.out.mono z.out.1.size)).trans (b3.mono (zG z.out.1.size E.out.size)));clear b3;go_wp2_with (go_at_call 86;refine (FM _ _).mono ?_;rintro e w5 ⟨rfl,rfl⟩)
  go_ret
  have L4:=(A.out.1.below y.out).mono (kY k);exact ⟨rfl,Ew.from_ A.out.2.2.1 A.out.2.1 ⟨y.out.mono (zG A.out.2.2.1 A.out.2.1.size),R,T,ρ,s,L4,fun j _ hl h9=>⟨y.out.block j hl,h9⟩⟩⟩
 | true=>
  have X:Hid (∀ V,Calls prog 21 #[.agg #[.int .i64 d.fm, .int .i64 d.out, .int .i64 d.ratio, .int .i64 d.CH, .int .i64 d.mem, .int .i64 d.lim, .int .i64 d.steps]] V fun e L=>∃ q K,e= .returned (.tuple #[.pointer (some ⟨q,0,none⟩), .int .i64 0])/\GM V.heap.size K L q d.fm.toNat d.mem.toNat d.lim.toNat (MG.fresh d)/\K q/\Below V.heap.size V L):=fun V=>iq V hr
  have Y:Hid (∀ V,Calls prog 90 #[.agg #[.int .i64 d.fm, .int .i64 d.out, .int .i64 d.ratio, .int .i64 d.CH, .int .i64 d.mem, .int .i64 d.lim, .int .i64 d.steps]] V fun e L=>∃ r,e= .returned (.tuple #[.pointer (some ⟨r,0,none⟩), .int .i64 0])/\JM V.heap.size r (.slice none 0 0) (RG.fresh d) L/\Below V.heap.size V L):=fun V=>db d V hr
  have HR:=hid hr;clear hr;go_wp2_with fail
  refine (X.out _).mono ?_;rintro e w2 ⟨q,K2,rfl,G2,_,b2⟩;have E:=CL b2 G2;clear d0 d1 d2 d3 d4 d5 d6 b2 G2;obtain ⟨d0,d1,d2,d3,d4,d5,d6⟩:=U.out w2 E.out.1;go_wp2_with fail
  refine (Y.out _).mono ?_;rintro e w3 ⟨r,rfl,T3,b3⟩;have y:Hid (Below W.heap.size W w3/\∃ J,PD B w3 q r (MG.fresh d) J/\∀ k,J k->wc.heap.size<=k):=by
   refine ⟨(z.out.1.trans (E.out.1.mono z.out.1.size)).trans (b3.mono (zG z.out.1.size E.out.1.size)),?_⟩;exact PD.fresh (zG A.out.2.2.1 (zG A.out.2.1.size z.out.1.size)) HR.out E.out.2 b3 T3
  clear b3 T3 d0 d1 d2 d3 d4 d5 d6 X Y U;obtain ⟨gs,cs,b8,c6,b4⟩:=A.out.1.ss.at_ A.out.2.2.2.ne.2;obtain ⟨p,a4⟩:=qe (Gj b S.length);have hp:p<S.length:=by rw [a4];exact Js A.out.2.2.2.ne.2
  obtain ⟨u,hu⟩:=qe (S[p]);have d9:u.size<=1048576:=by rw [hu];exact A.out.2.2.2.se _ (yD hp)
  have s1:w3.cell? ⟨gW,1,none⟩=some (.slice (some ⟨gs,0,none⟩) S.length cs):=by
   rw [y.out.1.cell (p:=⟨gW,1,none⟩) a2,A.out.1.inv.row.cell (i:=1) zO,show fld s 1=s.GQ from rfl,b8]
  have s2:w3.cell? ⟨gs,p,none⟩=some (.string u):=by
   rw [y.out.1.cell (p:=⟨gs,p,none⟩) c6,hu];exact b4 p hp
  have s3:=(y.out.1.cell (p:=⟨G,2,none⟩) a6).trans e2;have d7:=A.out.2.2.2.sl;have F:Hid (∀ V,Calls prog 89 #[.int .i64 b, .int .i64 S.length] V fun e L=>e= .returned (.int .i64 p)/\V=L):=fun V=>by
   rw [a4];exact Ik b S.length V hb A.out.2.2.2.ne.2 zO
  obtain ⟨ns,b1⟩:=qe S.length;rw [<- b1] at s1 hp d7 F;have f1:¬ (ns:Int)=0:=zO;have e7:decide (0<ns)=true:=by simp;omega
  have e8:decide ((0:Int)<ns)=true:=by simp;omega
  clear b1 hu a4 b4 b8 e2;go_wp2_with (go_at_call 86;refine (FM _ _).mono ?_;rintro e w5 ⟨rfl,rfl⟩)
  go_cut [10] (fun e5 wx=>e5= .string u/\Below w3.heap.size w3 wx)
  case first=>
   go_region_held3 (fun D=>D.cell? ⟨G,2,none⟩=some (.int .i64 b)/\D.cell? ⟨gW,1,none⟩=some (.slice (some ⟨gs,0,none⟩) ns cs)/\D.cell? ⟨gs,p,none⟩=some (.string u)) (first | exact ⟨s3,s1,s2⟩)
    (first
     | (go_at_call 89;refine (F.out _).mono ?_;rintro e w7 ⟨rfl,rfl⟩))
   all_goals
    go_wp2_with fail
    go_meet
    exact ⟨rfl,zB.drew⟩
  case rest=>
  obtain ⟨rfl,b9⟩:=hcut;clear s1 s2 s3 F;have Q:=CL (y.out.1.trans (b9.mono y.out.1.size)) b9;clear b9;obtain ⟨i0,c7,e0,e3,e4⟩:=yM cx;have Z:=A.out.1.below Q.out.1;have c3:wc.cell? ⟨gW,3,none⟩=some s.DZ:=Z.inv.row.cell (i:=3) zO;have f3:=Z.inv.row.frozen 3;have c1:=Z.inv.row.lt;have c9:=Z.Kt.rn;have e6:=Z.inv.hB;have f2:=Z.rl;have ag:s.DZ.ownBlock≠some gW:=fun e=>by have h1:=(Z.x9 gW (Or.inl e)).1;rw [Z.inv.rW] at h1;omega
  clear Z;go_upto_region 13 with (first | (at_builtin;refine xC _ rfl (.tmp 78) (.tmp 83) 70 rfl B 182 i0 _ 4 40 underlying70 c7 e0 e3 e4 rfl zD s.DZ R.length (R.flatMap Df.cells) rfl (c9.alloc _) ⟨wc.heap.size,0,none⟩ 1 1 [.pointer (some ⟨q,0,none⟩), .pointer (some ⟨r,0,none⟩), .string u, .int .i64 0] rfl rfl (xS (zJ wc _)) (by simp [Value.oneCell']) zO (by unfold maxLen;omega) zO (by simp;omega) (wc.heap.size+1) zS ?_))
  intro g9 p9 w9 P o a0 a9;have k3:=Fh o c1 ag c3;have z3:=Fk o c1 ag f3;obtain ⟨J,c2,c4⟩:=y.out.2;have HT:Hid (Ew B gW H C S k ρ W (w9.setCell ⟨gW,3,none⟩ (.slice (some ⟨g9,0,none⟩) (R.length+1) p9))):=by
   have ba:Below wc.heap.size wc (wc.alloc (.cells #[.pointer (some ⟨q,0,none⟩), .pointer (some ⟨r,0,none⟩), .string u, .int .i64 0] 182)):=zB.alloc zL _;have d8:=z.out.1.size;obtain ⟨ρ',s',L',hρ',B',F'⟩:=A.out.1.open_ zO ⟨q,r,u,0,MG.fresh d,J⟩ (Q.out.1.trans (ba.mono Q.out.1.size)) ⟨(c2.below Q.out.2).below ba,zH _,d9⟩ (fun j hj=>zG d8 (c4 j hj)) o P (by
    rcases a0 with e | e
    ·exact Or.inl e
    ·right;simp;omega)
   refine ⟨B',_,_,ρ',s',L',fun j hj hl h9=>⟨F' j hl (fun e=>?_) (fun e=>?_),by rw [hρ' j hl];exact h9⟩⟩
   ·have:=(A.out.1.x9 j e).2.1;omega
   ·have h5:=A.out.1.inv.rW;rw [<- e] at h5;omega
  clear P o a0 a9;go_wp2
  go_ret
  exact ⟨rfl,HT.out.from_ A.out.2.2.1 A.out.2.1⟩
theorem Zj(hi:i<T.length):(T.flatMap Cy.cells)[i*2]?=some (.string T[i].mark)/\(T.flatMap Cy.cells)[i*2+1]?=some (.slice (some ⟨T[i].b,0,none⟩) T[i].n T[i].n):=by
 induction T generalizing i with
 | nil=>simp at hi
 | cons x xs ih=>
  have e:(x :: xs).flatMap Cy.cells= .string x.mark :: .slice (some ⟨x.b,0,none⟩) x.n x.n :: xs.flatMap Cy.cells:=rfl;rw [e];cases i with
  | zero=>exact ⟨rfl,rfl⟩
  | succ i=>
   have:=ih (i:=i) (by simpa using hi);rw [show (i+1)*2=i*2+2 by omega];simpa using this
theorem LV.nt(h:LV B DZ Ec R T w)(hi:i<T.length):∃ gb cap,Ec= .slice (some ⟨gb,0,none⟩) T.length cap/\gb<w.heap.size/\w.cell? ⟨gb,i*2,none⟩=some (.string T[i].mark)/\w.cell? ⟨gb,i*2+1,none⟩=some (.slice (some ⟨T[i].b,0,none⟩) T[i].n T[i].n):=by
 rcases h.tx.2 with ⟨_,h0⟩ | ⟨gb,cap,cur,hv,e,a,h1,h2,h3,h4⟩
 ·omega
 ·have hc:∀ j,j<2->w.cell? ⟨gb,i*2+j,none⟩=(T.flatMap Cy.cells)[i*2+j]?:=fun j f=>by
   have d:=yA w gb (i*2+j) _ _ _ a;rw [d,<- h4,jU,zC zO,BH]
  obtain ⟨a0,c⟩:=Zj hi;exact ⟨gb,cap,hv,(yQ.1 a).1,(hc 0 zO).trans a0,(hc 1 zO).trans c⟩
theorem SI(h:LJ B gW H C S k R T ρ s w)(a5:k<=2000000) :
  Calls prog 36 #[.pointer (some ⟨gW,0,none⟩)] w fun e w'=>e= .returned (.bool true)/\Below w.heap.size w w':=by
 have W:=CL h.inv h.Kt;have b4:s.Ay.length<=1000000000:=by have:=h.fw.bk;omega
 have b5:=zG h.tl a5;obtain ⟨F,G,A⟩:∃ F G,s.vb= .slice F s.Ay.length G:=by
  rcases h.inv.OJ.2 with ⟨hv,h0⟩ | ⟨g,cap,cur,hv,_⟩
  ·exact ⟨none,0,by rw [hv,h0]⟩
  ·exact ⟨_,_,hv⟩
 obtain ⟨at_,ct,E⟩:∃ F G,s.Ec= .slice F T.length G:=by
  rcases h.Kt.tx.2 with ⟨hv,h0⟩ | ⟨g,cap,cur,hv,_⟩
  ·exact ⟨none,0,by rw [hv,h0]⟩
  ·exact ⟨_,_,hv⟩
 have c7:w.cell? ⟨gW,7,none⟩=some (.slice F s.Ay.length G):=by rw [h.inv.row.cell (i:=7) zO];simp [fld,A]
 have Z:w.cell? ⟨gW,8,none⟩=some (.slice at_ T.length ct):=by rw [h.inv.row.cell (i:=8) zO];exact yH some E
 have z:=h.inv.row.lt;have HV:=CL A E;clear h A E;go_enter func36,ntmps36
 go_wp2_with fail
 go_loopw [3] (fun i wr=>∃ k:Nat,k<=s.Ay.length/\i= .int .i64 k/\Below w.heap.size w wr) (fun i _=>s.Ay.length - (intOf i).toNat)
 case atStart=>exact ⟨0,zH _,rfl,zF _ _⟩
 case round=>
  obtain ⟨k,hk,rfl,a⟩:=hrel;have Y:=(a.cell (p:=⟨gW,7,none⟩) z).trans c7;have y:=(a.cell (p:=⟨gW,8,none⟩) z).trans Z;have U:=hid Z;clear c7 Z;by_cases a6:k<s.Ay.length
  ·obtain ⟨g,cap,m,a1,a2,a3,a4,n1,n2,n3,n4,e1,e2,e3,e4,hv,M,d0,d1,d2,d3,d4,k1,k2,k3,k4,x1,x2,x3,x4⟩:=W.out.1.book a6;unfold maxLen at x1 x2 x3 x4;obtain ⟨rfl,rfl⟩:F=some ⟨g,0,none⟩/\G=cap:=by have:=HV.out.1.symm.trans hv;simpa using this
   have a9:=(a.cell (p:=⟨g,k*5,none⟩) M).trans d0;have b0:=(a.cell (p:=⟨g,k*5+1,none⟩) M).trans d1;have b1:=(a.cell (p:=⟨g,k*5+2,none⟩) M).trans d2;have b2:=(a.cell (p:=⟨g,k*5+3,none⟩) M).trans d3;have b3:=(a.cell (p:=⟨g,k*5+4,none⟩) M).trans d4;clear d0 d1 d2 d3 d4;go_wp2_with fail
   have l:Below w.heap.size w (wr.alloc (.cells #[.int .i64 m, .slice a1 n1 e1, .slice a2 n2 e2, .slice a3 n3 e3, .slice a4 n4 e4] 143)):=a.alloc a.size _;refine (all_true a1 e1 n1 m _ x1 (k1.below l zL)).mono ?_;rintro e w1 ⟨rfl,rfl⟩;go_wp2_with fail
   refine (all_true a2 e2 n2 m _ x2 (k2.below l zL)).mono ?_;rintro e w1 ⟨rfl,rfl⟩;go_wp2_with fail
   refine (all_true a3 e3 n3 m _ x3 (k3.below l zL)).mono ?_;rintro e w1 ⟨rfl,rfl⟩;go_wp2_with fail
   refine (all_true a4 e4 n4 m _ x4 (k4.below l zL)).mono ?_;rintro e w1 ⟨rfl,rfl⟩;go_wp2_with fail
   go_roundw
   case rel=>exact ⟨k+1,zO,by go_num,l⟩
   case measure=>simp [intOf];omega
  ·have I:=hid a;clear a;go_wp2_with fail
   clear Y;go_loopw [9,10,11] (fun i _ _ wv=>∃ j:Nat,j<=T.length/\i= .int .i64 j/\Hid (Below w.heap.size w wv)) (fun i _ _ _=>T.length - (intOf i).toNat)
   case atStart=>exact ⟨0,zH _,rfl,I⟩
   case round=>
    obtain ⟨j,hj,rfl,d⟩:=hrel;clear I y;have y:=(d.out.cell (p:=⟨gW,8,none⟩) z).trans U.out;by_cases u:j<T.length
    ·obtain ⟨gt,a0,v,N,y0,y1⟩:=W.out.2.nt u;obtain ⟨rfl,rfl⟩:at_=some ⟨gt,0,none⟩/\ct=a0:=by have:=HV.out.2.symm.trans v;simpa using this
     have a7:=(d.out.cell (p:=⟨gt,j*2,none⟩) N).trans y0;have a8:=(d.out.cell (p:=⟨gt,j*2+1,none⟩) N).trans y1;obtain ⟨hn,L,P⟩:=W.out.2.KT _ (yD u);generalize T[j].mark=mk at *;generalize T[j].b=bb at *;generalize T[j].n=r at *;have X:=hid P;clear y0 y1 v P;obtain ⟨V,Q⟩:=qe (wr.alloc (.cells #[.string mk, .slice (some ⟨bb,0,none⟩) r r] 146));have bV:Below w.heap.size w V:=by rw [Q];exact d.out.alloc d.out.size _
     have c:V.heap[wr.heap.size]?=some (.cells #[.string mk, .slice (some ⟨bb,0,none⟩) r r] 146 (0,0)):=by rw [Q];exact zJ _ _
     have v0:V.cell? ⟨wr.heap.size,0,none⟩=some (.string mk):=by rw [yA _ _ 0 _ _ _ c];rfl
     have v1:V.cell? ⟨wr.heap.size,1,none⟩=some (.slice (some ⟨bb,0,none⟩) r r):=by rw [yA _ _ 1 _ _ _ c];rfl
     have D:=(yQ.1 c).1;have o:=hid bV;clear c bV;go_upto_region 15 with fail
     rw [<- Q];obtain ⟨J,t⟩:=qe wr.heap.size;rw [<- t] at v0 v1 D |-;clear Q t a7 a8 y;go_wp2_with fail
     go_loopw [11] (fun i wx=>∃ q:Nat,q<=r/\i= .int .i64 q/\Hid (Below V.heap.size V wx)) (fun i _=>r - (intOf i).toNat)
     case atStart=>exact ⟨0,zH _,rfl,zF _ _⟩
     case round=>
      obtain ⟨q,hq,rfl,f⟩:=hrel;have b6:=(f.out.cell (p:=⟨J,0,none⟩) D).trans v0;have b7:=(f.out.cell (p:=⟨J,1,none⟩) D).trans v1;by_cases O:q<r
      ·have b8:=((f.out.cell (p:=⟨bb,q,none⟩) (zM L o.out.size)).trans (o.out.cell (p:=⟨bb,q,none⟩) L)).trans (X.out q O);clear v0 v1;go_wp2_with fail
       go_region
       go_wp2_with fail
       go_roundw
       case rel=>exact ⟨q+1,zO,by go_num,f.out.drew⟩
       case measure=>simp [intOf];omega
      ·clear v0 v1;go_wp2_with fail
       go_roundw
       case rel=>exact ⟨j+1,zO,by go_num,o.out.trans (f.out.mono o.out.size)⟩
       case measure=>simp [intOf];omega
    ·go_wp2
     go_ret
     exact ⟨rfl,d.out⟩
end Go.Proofs.YtbcjmakpempkiaaGreatDoor
