import Derived.Test.YtbcjmakpempkiaaGreatDoorX00
set_option maxRecDepth 100000
set_option maxHeartbeats 8000000
set_option linter.all false
namespace Go.Proofs.YtbcjmakpempkiaaGreatDoor
variable {W w w' w1 w2 wr:World} {B cap d g g1 gW gb gg i j k n p1 p3 sz:Nat} {l:List Int} {b u v vb:Value} {o o':Obj} {ρ:Nat->Nat} {s:Aj} {c m:Int} {a:Addr} {ad:Option Addr} {H:Type} {xs:List Value} {E:Prop}
open Go.Proofs.Tryz
open Go.RowKit
theorem bJ(a:Nat)(v:Value)(w:World) :
  Calls prog 85 #[.pointer (some ⟨a,0,none⟩),v, .slice none 0 0] w fun e b=>e= .returned (.bool true)/\w=b:=by
 have h:=OZ none 0 0;simp only [AH] at h;go_enter func85,ntmps85
 go_wp2
 go_ret
 exact ⟨rfl,rfl⟩
def IS(l:List Int)(m:Int)(k i:Nat):Int:=if i<k then m else Gp l i
theorem aV(h:wr.rowIs g 3 n (fun i=> .int .i64 (IS l m k i))):(wr.setCell ⟨g,k,none⟩ (.int .i64 m)).rowIs g 3 n (fun i=> .int .i64 (IS l m (k+1) i)):=by
 refine (h.set k _).congr fun i _=>?_
 unfold IS;by_cases e:i=k
 ·rw [zC e,zC zO]
 ·rw [zA e];by_cases a:i<k
  ·rw [zC a,zC zO]
  ·rw [zA a,zA zO]
theorem fo:IS l m k k=Gp l k:=by unfold IS;rw [zA zO]
theorem SD:(prog.info? 143).map (fun i=>(i.zero,i.size,i.bytes))=some (some (.agg #[.int .i64 0, .slice none 0 0, .slice none 0 0, .slice none 0 0, .slice none 0 0]),5,104):=zK
def Eo(s:Aj)(g:Nat)(vb:Value):Aj:={ s with CX:=s.CX+1,vb:=vb,Ay:=s.Ay++[(-((s.CX:Int)+1),[.slice (some ⟨g,0,none⟩) (s.lens.length+8) (s.lens.length+8), .slice none 0 0, .slice none 0 0, .slice none 0 0])] }
theorem YX(h:Inv B gW 0 ρ s w)(hρ:ρ g=6)(t:B<=g)(G:s.CX<1000000000)
  (c:wr.rowIs g 3 (s.lens.length+8) (fun i=> .int .i64 (IS s.lens (-((s.CX:Int)+1)) (s.lens.length+8) i))) (A:wr.rowIs gW 75 9 (fld { s with CX:=s.CX+1 })) (j:Kp (fun r=>r=5\/r=6) ρ w wr) (n:Below B w wr)
  (f:(wr.alloc (.cells #[.int .i64 (-((s.CX:Int)+1)), .slice (some ⟨g,0,none⟩) (s.lens.length+8) (s.lens.length+8), .slice none 0 0, .slice none 0 0, .slice none 0 0] 143)).drew.grownBy w1 s.vb.ownBlock)
  (p:w1.ownsRow B 143 5 (.slice (some ⟨gg,0,none⟩) (s.Ay.length+1) cap) (s.Ay.length+1) (s.Ay.flatMap CQ++[.int .i64 (-((s.CX:Int)+1)), .slice (some ⟨g,0,none⟩) (s.lens.length+8) (s.lens.length+8), .slice none 0 0, .slice none 0 0, .slice none 0 0]))
  (d:s.vb.ownBlock=some gg\/gg=wr.heap.size+1) :
  Below B w (w1.setCell ⟨gW,7,none⟩ (.slice (some ⟨gg,0,none⟩) (s.Ay.length+1) cap))/\∃ (ρ':Nat->Nat) (vb':Value),Inv B gW 0 ρ' (Eo s g vb') (w1.setCell ⟨gW,7,none⟩ (.slice (some ⟨gg,0,none⟩) (s.Ay.length+1) cap))/\Kp (fun r=>r=4\/r=5\/r=6) ρ w (w1.setCell ⟨gW,7,none⟩ (.slice (some ⟨gg,0,none⟩) (s.Ay.length+1) cap))/\(w1.setCell ⟨gW,7,none⟩ (.slice (some ⟨gg,0,none⟩) (s.Ay.length+1) cap)).rowIs g 3 (s.lens.length+8) (fun _=> .int .i64 (-((s.CX:Int)+1)))/\(∀ k,k<w.heap.size->k≠g->ρ' k=ρ k):=by
 have u:=h.marked (R:=fun r=>r=5\/r=6) j (fun r q=>zO) zL A zO;have y:Inv B gW 0 (setρ ρ g 0) { s with CX:=s.CX+1 } wr:=u.free (by rw [hρ];omega);have a:=c.congr (fun i hi=>by unfold IS;rw [zC hi]);have E:OI wr B (.slice (some ⟨g,0,none⟩) (s.lens.length+8) (s.lens.length+8)) (List.replicate (s.lens.length+8) (-((s.CX:Int)+1))):=by
  have:=OI.Tm (w:=wr) (B:=B) (g:=g) (l:=List.replicate (s.lens.length+8) (-((s.CX:Int)+1))) t (yZ) (by have:=h.Rh;unfold maxLen;omega) (a.congr (fun i hi=>by simp [hi]));simpa using this
 have H:gg≠g:=by
  rcases d with e | e
  ·intro D;have:=h.rb gg e;rw [D,hρ] at this;omega
  ·have:=c.lt;omega
 obtain ⟨C,a2,a3⟩:=y.Yf (b:=(-((s.CX:Int)+1),[.slice (some ⟨g,0,none⟩) (s.lens.length+8) (s.lens.length+8), .slice none 0 0, .slice none 0 0, .slice none 0 0])) f p d rfl
  (by
   intro v hv;simp only [xB,AP,or_false] at hv;rcases hv with rfl | rfl | rfl | rfl
   ·exact ⟨_,E⟩
   ·exact ⟨0,OI.nil _ _⟩
   ·exact ⟨0,OI.nil _ _⟩
   ·exact ⟨0,OI.nil _ _⟩)
  (by
   intro v hv I o;simp only [xB,AP,or_false] at hv;rcases hv with rfl | rfl | rfl | rfl <;> simp [Value.ownBlock] at o
   subst o;exact setρ_at _ _ _)
 have k2:Kp (fun r=>r=4\/r=5\/r=6) ρ w (w1.setCell ⟨gW,7,none⟩ (.slice (some ⟨gg,0,none⟩) (s.Ay.length+1) cap)):=by
  refine (j.mono (fun _ x=>Or.inr x)).trans ((a2.mono (R':=fun r=>r=4\/r=5\/r=6) (fun _ x=>zO)).congr (fun k hk q=>?_));by_cases e:k=g
  ·subst e;rw [hρ] at q;simp at q
  ·rw [setρ_ne e];exact q
 refine ⟨n.trans a3,setρ (setρ ρ g 0) gg 4,_,C,k2,?_,fun k hk z=>?_⟩
 ·have F:g≠gW:=fun e=>by have:=h.rW;rw [<- e,hρ] at this;omega
  exact ER a a2 (by rw [setρ_at];omega)
 ·by_cases e:k=gg
  ·subst e;rcases d with e | e
   ·rw [setρ_at,h.rb _ e]
   ·have:=j.size;omega
  ·rw [setρ_ne e,setρ_ne z]
theorem lx(x:Int):IntKind.i64.wrap x=wrap64 x:=by rw [IntKind.wrap_i64];unfold wrap64;rfl
theorem ed{m:Nat}(h:m<1000000000):IntKind.i64.wrap (-((m:Int)+1))= -((m:Int)+1):=by
 rw [lx,xW _ ⟨zO,zO⟩]
theorem SF{row:Option Nat}(d:(w.alloc o).drew.grownBy w1 row)(b:a.block<w.heap.size)(c:row≠some a.block)(h:w.cell? a=some v):w1.cell? a=some v:=by
 have h1:=(d.block a.block (by simp;omega) (zY c)).trans (yK w o a.block b);rw [yV (w:=w) h1,h]
theorem TA{row:Option Nat}(d:(w.alloc o).drew.grownBy w1 row)(b:a.block<w.heap.size)(c:row≠some a.block)(h:w.frozen? a=false):w1.frozen? a=false:=by
 have h1:=(d.block a.block (by simp;omega) (zY c)).trans (yK w o a.block b);rw [kL (w:=w) h1,h]
theorem Fh{row:Option Nat}(d:(w.alloc o).grownBy w1 row)(b:a.block<w.heap.size)(c:row≠some a.block)(h:w.cell? a=some v):w1.cell? a=some v:=by
 have h1:=(d.block a.block (by simp;omega) (zY c)).trans (yK w o a.block b);rw [yV (w:=w) h1,h]
theorem Fk{row:Option Nat}(d:(w.alloc o).grownBy w1 row)(b:a.block<w.heap.size)(c:row≠some a.block)(h:w.frozen? a=false):w1.frozen? a=false:=by
 have h1:=(d.block a.block (by simp;omega) (zY c)).trans (yK w o a.block b);rw [kL (w:=w) h1,h]
theorem RF(B c:Nat)(ρ:Nat->Nat)(s:Aj)(g o cl:Nat)(w:World)(h:Inv B c 0 ρ s w)(hv:s.vl= .slice (some ⟨o,0,none⟩) s.lens.length cl)(b:w.rowIs g 3 (s.lens.length+8) (fun i=> .int .i64 (Gp s.lens i)))(hρ:ρ g=6)(y:B<=g)(a2:s.Ay.length<=1000000000)(C:s.CX<1000000000) :
  Calls prog 85 #[.pointer (some ⟨c,0,none⟩), .slice (some ⟨g,0,none⟩) s.lens.length (s.lens.length+8), .slice (some ⟨o,0,none⟩) s.lens.length cl] w fun e E=>e= .returned (.bool true)/\Below B w E/\∃ (ρ':Nat->Nat) (vb':Value),Inv B c 0 ρ' (Eo s g vb') E/\Kp (fun r=>r=4\/r=5\/r=6) ρ w E/\E.rowIs g 3 (s.lens.length+8) (fun _=> .int .i64 (-((s.CX:Int)+1)))/\(∀ k,k<w.heap.size->k≠g->ρ' k=ρ k):=by
 have J:=OZ (some ⟨o,0,none⟩) s.lens.length cl;simp only [AG] at J;have n:=hid h;have a3:=h.row.lt;have Z:w.cell? ⟨c,4,none⟩=some (.int .i64 s.CX):=h.row.cell (i:=4) zO;have f4:=h.row.frozen 4;have a4:=h.Rh;have z:g≠c:=fun e=>by have:=h.rW;rw [<- e,hρ] at this;omega
 have P:(w.setCell ⟨c,4,none⟩ (.int .i64 (s.CX+1))).rowIs g 3 (s.lens.length+8) (fun i=> .int .i64 (IS s.lens (-((s.CX:Int)+1)) 0 i)):=(b.setOther (by simpa using z) _).congr (fun i _=>by simp [IS]);have Q:(w.setCell ⟨c,4,none⟩ (.int .i64 (s.CX+1))).rowIs c 75 9 (fld { s with CX:=s.CX+1 }):=(h.row.set 4 _).congr (fun i hi=>by
  have:i=0\/i=1\/i=2\/i=3\/i=4\/i=5\/i=6\/i=7\/i=8:=zO;rcases this with rfl | rfl | rfl | rfl | rfl | rfl | rfl | rfl | rfl <;> simp [fld])
 have R:Kp (fun r=>r=5\/r=6) ρ w (w.setCell ⟨c,4,none⟩ (.int .i64 (s.CX+1))):=Kp.Dm w _ _ (Or.inl h.rW);have S:Below B w (w.setCell ⟨c,4,none⟩ (.int .i64 (s.CX+1))):=zB.setCell h.gB _;clear h b;go_enter func85,ntmps85
 go_wp2_with fail
 go_loopw [9,10] (fun ok i wr=>∃ k:Nat,k<=s.lens.length+8/\i= .int .i64 k/\ok= .bool true/\wr.rowIs g 3 (s.lens.length+8) (fun i=> .int .i64 (IS s.lens (-((s.CX:Int)+1)) k i))/\wr.rowIs c 75 9 (fld { s with CX:=s.CX+1 })/\Kp (fun r=>r=5\/r=6) ρ w wr/\Below B w wr) (fun _ i _=>s.lens.length+8 - (intOf i).toNat)
 case atStart=>exact ⟨0,zO,rfl,rfl,P,Q,R,S⟩
 case round=>
  clear P Q R S;obtain ⟨k,hk,rfl,rfl,b,f,l,j⟩:=hrel;have a0:wr.cell? ⟨c,4,none⟩=some (.int .i64 (s.CX+1)):=by rw [f.cell (i:=4) zO];simp [fld]
  clear Z;by_cases A:k<s.lens.length+8
  ·have F:=b.cell A;rw [fo] at F;have g2:=b.frozen k;have U:=aV b;have V:=f.setOther (a:=⟨g,k,none⟩) (by simpa using (zY z)) (.int .i64 (-((s.CX:Int)+1)));have W:=l.trans (Kp.Dm wr ⟨g,k,none⟩ (.int .i64 (-((s.CX:Int)+1))) (Or.inr hρ));have X:=j.setCell (p:=⟨g,k,none⟩) y (.int .i64 (-((s.CX:Int)+1)));by_cases q:k<s.lens.length
   ·obtain ⟨x,hx⟩:∃ x,s.lens.getD k 0=x:=⟨_,rfl⟩
    have g3:wr.cell? ⟨o,k,none⟩=some (.int .i64 x):=by
     have h1:=n.out.len;rw [hv] at h1;have h2:w.cell? ⟨o,k,none⟩=some (.int .i64 x):=by
      rw [xO h1 k zO,<- hx];simp [Al,q]
     have h3:=l.block o (xT w _ h2) (by have:=n.out.rl o (by rw [hv];rfl);omega);rw [yV (w:=w) h3,h2]
    have v:Gp s.lens k=x:=by unfold Gp;rw [zC q,hx]
    rw [v] at F;clear v hx;go_wp2_with fail
    go_roundw
    case rel=>exact ⟨k+1,zO,by go_num,rfl,U,V,W,X⟩
    case measure=>simp [intOf];omega
   ·have v:Gp s.lens k=77:=by unfold Gp;rw [zA q]
    rw [v] at F;clear v;go_wp2_with fail
    go_roundw
    case rel=>exact ⟨k+1,zO,by go_num,rfl,U,V,W,X⟩
    case measure=>simp [intOf];omega
  ·obtain rfl:k=s.lens.length+8:=zO;obtain ⟨i0,hi,M,N,O⟩:=yM SD;have c7:wr.cell? ⟨c,7,none⟩=some s.vb:=by rw [f.cell (i:=7) zO];simp [fld]
   have f7:=f.frozen 7;have D:=f.lt;have H:=As n.out.OJ l (fun g' I=>by have:=n.out.rb g' I;omega);have a5:=j.size;have a1:=n.out.hB;have Y:s.vb.ownBlock≠some c:=fun e=>by have h1:=n.out.rb c e;have h2:=n.out.rW;omega
   have L:=ed C;go_wp2_with fail
   go_region_law
    ((refine xY _ (by rfl) _ _ _ (by rfl) B 143 i0 _ 5 104 underlying72 hi M N O rfl zO s.vb s.Ay.length (s.Ay.flatMap CQ) (by rfl) ((H.alloc _).drew) ⟨wr.heap.size,0,none⟩ 1 1 [.int .i64 (-((s.CX:Int)+1)), .slice (some ⟨g,0,none⟩) (s.lens.length+8) (s.lens.length+8), .slice none 0 0, .slice none 0 0, .slice none 0 0] (by rfl) (by rfl) (xS (cs:=#[.int .i64 (-((s.CX:Int)+1)), .slice (some ⟨g,0,none⟩) (s.lens.length+8) (s.lens.length+8), .slice none 0 0, .slice none 0 0, .slice none 0 0]) (t:=143) (fr:=(0,0)) (zJ wr _)) (by simp [Value.oneCell']) zO (by unfold maxLen;omega) zO (by simp;omega) (wr.heap.size+1) zS ?_;intro gg cap w1 u d G A;have k7:=SF d D Y c7;have z7:=TA d D Y f7))
   all_goals go_wp2_with fail
   all_goals go_ret
   all_goals
    have T:=YX n.out hρ y C b f l j d u G;exact ⟨rfl,T.1,T.2⟩
theorem SE:(prog.info? 69).map (fun i=>(i.zero,i.size,i.bytes))=some (some (.slice none 0 0),1,24):=zK
theorem gR{e:TypeId}(h:w.ownsRow B e sz v n xs)(a:w.grownBy w' none):w'.ownsRow B e sz v n xs:=by
 refine h.kept a ?_;cases hv:v.ownBlock with
 | none=>exact Or.inl rfl
 | some x=>exact Or.inr zS
theorem gM(h:OI w B (.slice (some ⟨g,0,none⟩) l.length cap) l):∀ (j:Nat) (u:Value),(Al l)[j]?=some u->w.cell? ((⟨g,0,none⟩:Addr).add j)=some u:=by
 intro j u c;have d:j<l.length:=by
  rcases jN j l.length with b | b
  ·exact b
  ·simp [Al,b] at c
 have a:(⟨g,0,none⟩:Addr).add j=⟨g,j,none⟩:=by unfold Addr.add;split <;> simp_all
 rw [a,xO h j zO,c]
theorem Rb(s:Aj)(v:Value)(a:List (Value×List Int))(i:Nat)(hi:i<9):(if i=5 then v else fld s i)=fld { s with vw:=v,waits:=a } i:=by
 have:i=0\/i=1\/i=2\/i=3\/i=4\/i=5\/i=6\/i=7\/i=8:=zO;rcases this with rfl | rfl | rfl | rfl | rfl | rfl | rfl | rfl | rfl <;> simp [fld]
theorem Rc(s:Aj)(v:Value)(a:List Value)(i:Nat)(hi:i<9):(if i=6 then v else fld s i)=fld { s with vr:=v,CO:=a } i:=by
 have:i=0\/i=1\/i=2\/i=3\/i=4\/i=5\/i=6\/i=7\/i=8:=zO;rcases this with rfl | rfl | rfl | rfl | rfl | rfl | rfl | rfl | rfl <;> simp [fld]
theorem QD(h:Inv B gW d ρ s w)
  (b:(w.alloc o).grownBy w1 s.vw.ownBlock) (f:w1.ownsRow B 69 1 (.slice (some ⟨g1,0,none⟩) (s.waits.length+1) p1) (s.waits.length+1) (s.waits.map (·.1)++[v])) (j:s.vw.ownBlock=some g1\/g1=w.heap.size+1) :
  Kp (fun r=>r=2\/r=5) ρ w (w1.setCell ⟨gW,5,none⟩ (.slice (some ⟨g1,0,none⟩) (s.waits.length+1) p1))/\Below B w (w1.setCell ⟨gW,5,none⟩ (.slice (some ⟨g1,0,none⟩) (s.waits.length+1) p1))/\
   (w1.setCell ⟨gW,5,none⟩ (.slice (some ⟨g1,0,none⟩) (s.waits.length+1) p1)).ownsRow B 69 1 (.slice (some ⟨g1,0,none⟩) (s.waits.length+1) p1) (s.waits.length+1) (s.waits.map (·.1)++[v])/\
   (w1.setCell ⟨gW,5,none⟩ (.slice (some ⟨g1,0,none⟩) (s.waits.length+1) p1)).rowIs gW 75 9 (fld { s with vw:= .slice (some ⟨g1,0,none⟩) (s.waits.length+1) p1,waits:=s.waits++[(v,l)] }):=by
 have n:Kp (fun r=>r=2) ρ w w1:=by
  have a:Kp (fun r=>r=2) ρ w (w.alloc o):=Kp.Bk (zB.alloc zL o);exact a.trans (Kp.QS b (fun g c=>h.Ke g c))
 have q:g1≠gW:=by
  rcases j with e | e
  ·intro p;have:=h.Ke g1 e;rw [p,h.rW] at this;omega
  ·have:=h.row.lt;omega
 refine ⟨(n.mono (fun _ x=>Or.inl x)).trans (Kp.Dm w1 _ _ (Or.inr h.rW)),?_,?_,?_⟩
 ·have a:=zB.alloc h.hB o;refine (a.grown b (by have:=h.hB;simp;omega) (fun g c=>(h.PA.lt g c).1)).setCell h.gB _
 ·exact As (R:=fun k=>k=gW) (ρ:=fun k=>k) f ⟨by simp [World.setCell],fun k _ hk=>zZ _ _ _ _ hk⟩ (fun g c=>by simp [Value.ownBlock] at c;omega)
 ·exact ((ER h.row n (by rw [h.rW];omega)).set 5 _).congr (fun i hi=>Rb s _ _ i hi)
theorem SG{W1 w3:World}{o3:Obj}{g2 g3:Nat}(h:Inv B gW 0 ρ s w)
  (Y:OI w B v l) (a5:tight v) (a2:l.length<=269) (V:∀ x,v.ownBlock=some x->x=g) (hρ:g<w.heap.size->5 < ρ g/\ρ g<9) (b3:g<w.heap.size\/w3.heap.size+1<=g)
  (T:Kp (fun r=>r=2\/r=5) ρ w W1) (Z:Below B w W1)
  (a6:W1.ownsRow B 69 1 (.slice (some ⟨g1,0,none⟩) (s.waits.length+1) p1) (s.waits.length+1) (s.waits.map (·.1)++[v]))
  (C:W1.rowIs gW 75 9 (fld { s with vw:= .slice (some ⟨g1,0,none⟩) (s.waits.length+1) p1,waits:=s.waits++[(v,l)] }))
  (o:s.vw.ownBlock=some g1\/g1=w.heap.size+1) (b1:g1<W1.heap.size)
  (c:W1.drew.grownBy w2 none) (L:w2.ownsRow B 3 1 u l.length (Al l)) (U:∀ x,u.ownBlock=some x->x=g2) (b2:g2=W1.heap.size)
  (d:(w2.alloc o3).grownBy w3 s.vr.ownBlock) (M:w3.ownsRow B 69 1 (.slice (some ⟨g3,0,none⟩) (s.CO.length+1) p3) (s.CO.length+1) (s.CO++[u])) (p:s.vr.ownBlock=some g3\/g3=w2.heap.size+1) :
  Below B w (w3.setCell ⟨gW,6,none⟩ (.slice (some ⟨g3,0,none⟩) (s.CO.length+1) p3))/\∃ (ρ':Nat->Nat) (vw vr u:Value),Inv B gW 0 ρ' { s with vw:=vw,waits:=s.waits++[(v,l)],vr:=vr,CO:=s.CO++[u] } (w3.setCell ⟨gW,6,none⟩ (.slice (some ⟨g3,0,none⟩) (s.CO.length+1) p3))/\Kp (fun r=>r=2\/r=3\/r=5) ρ w (w3.setCell ⟨gW,6,none⟩ (.slice (some ⟨g3,0,none⟩) (s.CO.length+1) p3))/\(∀ k,k<w.heap.size->k≠g->ρ' k=ρ k):=by
 have b5:=T.size;have a4:W1.heap.size<=w2.heap.size:=c.size;have b6:w2.heap.size+1<=w3.heap.size:=by have:=d.size;simpa using this
 have y:=h.row.lt;have A:∀ k,k<W1.heap.size->s.vr.ownBlock≠some k->w3.heap[k]?=W1.heap[k]?:=fun k hk a3=>by
  rw [d.block k (by simp;omega) (zY a3),yK w2 o3 k zO];exact c.block k hk zS
 have q:∀ x,s.vr.ownBlock=some x->ρ x=3/\x<w.heap.size:=fun x hx=>⟨h.rr x hx,Bj h.RL hx⟩
 have S:g1≠gW:=by
  rcases o with e | e
  ·intro f;have:=h.Ke g1 e;rw [f,h.rW] at this;omega
  ·omega
 have b0:g3≠gW:=by
  rcases p with e | e
  ·intro f;have:=h.rr g3 e;rw [f,h.rW] at this;omega
  ·omega
 have E:Kp (fun r=>r=2\/r=3\/r=5) ρ w (w3.setCell ⟨gW,6,none⟩ (.slice (some ⟨g3,0,none⟩) (s.CO.length+1) p3)):=by
  refine ⟨by simp [World.setCell];omega,fun k hk j=>?_⟩;have F:k≠gW:=fun e=>j (by rw [e,h.rW];omega)
  rw [zZ _ _ _ _ F,A k zO (fun e=>j (by have:=(q k e).1;omega))];exact T.block k hk (fun x=>j zO)
 obtain ⟨ρ',hρ'⟩:∃ ρ',ρ'=setρ (setρ (setρ (setρ ρ g (10+s.waits.length)) g1 2) g2 0) g3 3:=⟨_,rfl⟩
 have t:∀ k,k<w.heap.size->k≠g->ρ' k=ρ k:=fun k hk a1=>by
  rw [hρ'];by_cases e3:k=g3
  ·subst e3;rw [setρ_at];rcases p with e | e
   ·rw [h.rr _ e]
   ·omega
  ·rw [setρ_ne e3,setρ_ne (show k≠g2 by omega)];by_cases F:k=g1
   ·subst F;rw [setρ_at];rcases o with e | e
    ·rw [h.Ke _ e]
    ·omega
   ·rw [setρ_ne F,setρ_ne a1]
 have P:g3≠g1:=by
  rcases p with e | e
  ·rcases o with f | f
   ·intro x;have:=h.rr g3 e;have:=h.Ke g1 f;rw [<- x] at this;omega
   ·have:=(q g3 e).2;omega
  ·omega
 have a9:ρ' g3=3:=by rw [hρ',setρ_at]
 have Q:g2≠g3:=by
  rcases p with e | e
  ·have:=(q g3 e).2;omega
  ·omega
 have a8:ρ' g2=0:=by rw [hρ',setρ_ne Q,setρ_at]
 have a7:ρ' g1=2:=by rw [hρ',setρ_ne (zY P),setρ_ne (show g1≠g2 by omega),setρ_at]
 have H:g≠g1:=by
  rcases o with e | e
  ·have hx:=Bj h.PA e;intro x;have:=h.Ke g1 e;rw [<- x] at this hx;have:=hρ hx;omega
  ·omega
 have I:g≠g3:=by
  rcases p with e | e
  ·have hx:=(q g3 e).2;intro x;have:=h.rr g3 e;rw [<- x] at this hx;have:=hρ hx;omega
  ·omega
 have rg:ρ' g=10+s.waits.length:=by rw [hρ',setρ_ne I,setρ_ne (show g≠g2 by omega),setρ_ne H,setρ_at]
 have z:∀ {v:Value} {xs:List Value} {n:Nat} {e:TypeId} {sz:Nat},w.ownsRow B e sz v n xs->∀ G,v.ownBlock=some G->ρ G<=5\/10<=ρ G->ρ' G=ρ G:=fun hv G O j=>t G (Bj hv O) (fun e=>by subst e;have:=hρ (Bj hv O);omega)
 refine ⟨?_,ρ', .slice (some ⟨g1,0,none⟩) (s.waits.length+1) p1, .slice (some ⟨g3,0,none⟩) (s.CO.length+1) p3,u,?_,E,t⟩
 ·have a:Below B w w2:=by
   refine Z.trans ⟨c.os,c.tape,c.output,a4,fun k hk=>c.block k (by have:=h.hB;show k<W1.heap.size;omega) zS⟩
  have b:=a.alloc (by have:=h.hB;omega) o3;exact (b.grown d (by have:=h.hB;simp;omega) (fun x hx=>(h.RL.lt x hx).1)).setCell h.gB _
 ·exact {
   gB:=h.gB
   hB:=zG h.hB E.size
   row:=by
    have r3:=C.of_block (A gW C.lt (fun e=>by have:=(q gW e).1;rw [h.rW] at this;omega));exact (r3.set 6 _).congr (fun i hi=>Rc _ _ _ i hi)
   len:=As h.len E (fun x hx j=>by have:=h.rl x hx;omega)
   PA:=by
    have e:(s.waits++[(v,l)]).map (·.1)=s.waits.map (·.1)++[v]:=zS;simp only [zI,yG,xA,yJ];rw [e];refine As (R:=fun k=>k≠g1) (ρ:=fun k=>k) a6 ⟨by simp [World.setCell];omega,fun k hk j=>?_⟩ (fun x hx j=>by simp [Value.ownBlock] at hx;omega);have:k=g1:=by apply yB;exact j
    subst this;rw [zZ _ _ _ _ S];refine A _ hk (fun e=>?_);rcases o with f | f
    ·have:=(q _ e).1;have:=h.Ke _ f;omega
    ·have:=(q _ e).2;omega
   RL:=by
    simp only [zI,yG,xA,yJ];exact As (R:=fun k=>k=gW) (ρ:=fun k=>k) M ⟨by simp [World.setCell],fun k _ hk=>zZ _ _ _ _ hk⟩ (fun x hx=>by simp [Value.ownBlock] at hx;omega)
   OJ:=As h.OJ E (fun x hx j=>by have:=h.rb x hx;omega)
   Gv:=by simp [h.Gv]
   wt:=fun i hi hd=>by
    simp only [zI,yG,xA,yJ] at hi;by_cases e:i<s.waits.length
    ·have f:(s.waits++[(v,l)])[i]'(by simp;omega)=s.waits[i]:=jC e;show OI _ B ((s.waits++[(v,l)])[i]'(by simp;omega)).1 _/\tight _;rw [f];exact ⟨As (h.wt i e hd).1 E (fun x hx j=>by have:=h.OD i e hd x hx;omega),(h.wt i e hd).2⟩
    ·obtain rfl:i=s.waits.length:=zO;have f:(s.waits++[(v,l)])[s.waits.length]'zS=(v,l):=zS;show OI _ B ((s.waits++[(v,l)])[s.waits.length]'zS).1 _/\tight _;rw [f];exact ⟨As Y E (fun x hx j=>by have:=Bj Y hx;have:=V x hx;subst this;have:=hρ (Bj Y hx);omega),a5⟩
   wr:=fun i hi a0=>by
    simp only [zI,yG,xA,yJ] at hi a0;have b4:=h.Gv;by_cases e:i<s.CO.length
    ·have F:(s.CO++[u])[i]'(by simp;omega)=s.CO[i]:=jC e;have X:(s.waits++[(v,l)])[i]'(by simp;omega)=s.waits[i]'zO:=jC zO;show OI _ B ((s.CO++[u])[i]'(by simp;omega)) ((s.waits++[(v,l)])[i]'(by simp;omega)).2;rw [F,X];exact As (h.wr i e zO) E (fun x hx j=>by have:=h.OO _ (yD e) x hx;omega)
    ·have ei:i=s.CO.length:=zO;have F:(s.CO++[u])[i]'(by simp;omega)=u:=by rw [List.getElem_append_right zO];simp
     have X:(s.waits++[(v,l)])[i]'(by simp;omega)=(v,l):=by rw [List.getElem_append_right zO];simp
     show OI _ B ((s.CO++[u])[i]'(by simp;omega)) ((s.waits++[(v,l)])[i]'(by simp;omega)).2;rw [F,X];refine As (R:=fun k=>k≠g2) (ρ:=fun k=>k) L ⟨by simp [World.setCell];omega,fun k hk j=>?_⟩ (fun x hx j=>j (U x hx));have:k=g2:=by apply yB;exact j
     subst this;rw [zZ _ _ _ _ (show k≠gW by omega),d.block k (by simp;omega) (fun e=>by have:=(q k e.symm).2;omega),yK w2 o3 k hk]
   bk:=fun b N=>⟨(h.bk b N).1,fun v hv=>by
    obtain ⟨n,hn⟩:=(h.bk b N).2 v hv;exact ⟨n,As hn E (fun x hx j=>by have:=h.NV b N v hv x hx;omega)⟩⟩
   rW:=by rw [t gW y (fun e=>by have:=h.rW;rw [e] at this y;have:=hρ y;omega)];exact h.rW
   rl:=fun x hx=>by have:=h.rl x hx;rw [z h.len x hx zO];exact this
   Ke:=fun x hx=>by simp [Value.ownBlock] at hx;subst hx;exact a7
   rr:=fun x hx=>by simp [Value.ownBlock] at hx;subst hx;exact a9
   rb:=fun x hx=>by have:=h.rb x hx;rw [z h.OJ x hx zO];exact this
   OD:=fun i hi hd x hx=>by
    simp only [zI,yG,xA,yJ] at hi;by_cases e:i<s.waits.length
    ·have f:(s.waits++[(v,l)])[i]'(by simp;omega)=s.waits[i]:=jC e;have D:(s.waits[i]).1.ownBlock=some x:=by rw [<- f];exact hx
     have:=h.OD i e hd x D;rw [z (h.wt i e hd).1 x D zO];exact this
    ·obtain rfl:i=s.waits.length:=zO;have f:(s.waits++[(v,l)])[s.waits.length]'zS=(v,l):=zS;have D:v.ownBlock=some x:=by
      have W:((s.waits++[(v,l)])[s.waits.length]'zS).1.ownBlock=some x:=hx;rw [f] at W;exact W
     rw [V x D];exact rg
   OO:=fun v hv x hx=>by
    rcases yW.1 hv with hv | hv
    ·have:=h.OO v hv x hx;obtain ⟨i,hi,rfl⟩:=AT hv;rw [z (h.wr i hi (by have:=h.Gv;omega)) x hx zO];exact this
    ·simp only [yY] at hv;subst hv;rw [U x hx];exact a8
   NV:=fun b N v hv x hx=>by
    have:=h.NV b N v hv x hx;obtain ⟨n,hn⟩:=(h.bk b N).2 v hv;rw [z hn x hx zO];exact this
   Vp:=h.Vp
   Rh:=h.Rh
   UY:=h.UY
   UQ:=fun i hi=>by
    simp only [zI,yG,xA,yJ] at hi;by_cases e:i<s.waits.length
    ·have f:(s.waits++[(v,l)])[i]'(by simp;omega)=s.waits[i]:=jC e;show ((s.waits++[(v,l)])[i]'(by simp;omega)).2.length<=269;rw [f];exact h.UQ i e
    ·obtain rfl:i=s.waits.length:=zO;show ((s.waits++[(v,l)])[s.waits.length]'zS).2.length<=269;simp;exact a2
   UZ:=fun x hx=>Nd (h.UZ x hx) E (fun j=>by have:=h.Qe x hx;omega)
   Qe:=fun x hx=>by
    have:=h.Qe x hx;have J:=Jw (h.UZ x hx);rw [t x.1 J (fun e=>by rw [e] at this J;have:=hρ J;omega)];exact this }
theorem aP(B j:Nat)(ρ:Nat->Nat)(s:Aj)(g:Nat)(l:List Int)(w:World)(h:Inv B j 0 ρ s w)(V:OI w B (.slice (some ⟨g,0,none⟩) l.length l.length) l)(hl:0<l.length)(Y:l.length<=269)(hρ:5 < ρ g/\ρ g<9)(b1:s.CO.length<=1000000000)(a8:s.waits.length<=1000000000) :
  Calls prog 87 #[.pointer (some ⟨j,0,none⟩), .slice (some ⟨g,0,none⟩) l.length l.length] w fun e w'=>e= .returned (.tuple #[])/\Below B w w'/\∃ (ρ':Nat->Nat) (vw vr u:Value),Inv B j 0 ρ' { s with vw:=vw,waits:=s.waits++[(.slice (some ⟨g,0,none⟩) l.length l.length,l)],vr:=vr,CO:=s.CO++[u] } w'/\Kp (fun r=>r=2\/r=3\/r=5) ρ w w'/\(∀ k,k<w.heap.size->k≠g->ρ' k=ρ k):=by
 have O:=hid h;have v:=h.row.lt;have U:=h.hB;have c5:w.cell? ⟨j,5,none⟩=some s.vw:=h.row.cell (i:=5) zO;have c6:w.cell? ⟨j,6,none⟩=some s.vr:=h.row.cell (i:=6) zO;have f5:=h.row.frozen 5;have f6:=h.row.frozen 6;have p:s.vw.ownBlock≠some j:=fun e=>by have h1:=h.Ke j e;have h2:=h.rW;omega
 have G:s.vr.ownBlock≠some j:=fun e=>by have h1:=h.rr j e;have h2:=h.rW;omega
 have hw:=h.PA;clear h;obtain ⟨i0,hi,L,M,N⟩:=yM SE;obtain ⟨j0,hj,a2,a3,a4⟩:=yM Gf;go_enter func87,ntmps87
 go_upto_region 1 with (first | (at_builtin;refine xC _ rfl _ _ 71 rfl B 69 i0 (.slice none 0 0) 1 24 underlying71 hi L M N rfl zD s.vw s.waits.length (s.waits.map (·.1)) rfl (hw.alloc _) ⟨w.heap.size,0,none⟩ 1 1 [.slice (some ⟨g,0,none⟩) l.length l.length] rfl rfl (yX _ _ _) (by simp [Value.oneCell']) zO (by unfold maxLen;omega) zO (by simp;omega) (w.heap.size+1) zS ?_;intro g1 p1 w1 o b n A;have k5:=Fh b v p c5;have k6:=Fh b v p c6;have z5:=Fk b v p f5;have z6:=Fk b v p f6))
 obtain ⟨P,q⟩:=qe (w1.setCell ⟨j,5,none⟩ (.slice (some ⟨g1,0,none⟩) (s.waits.length+1) p1));have T:=QD (l:=l) O.out b o n;rw [<- q] at T;obtain ⟨y,X,a1,d⟩:=T;have R:P.cell? ⟨j,6,none⟩=some s.vr:=by rw [d.cell (i:=6) zO];simp [fld]
 have S:=d.frozen 6;have W:OI P B (.slice (some ⟨g,0,none⟩) l.length l.length) l:=As V y (fun g' t=>by simp [Value.ownBlock] at t;subst t;omega);have Z:=As O.out.RL y (fun g' t=>by have:=O.out.rr g' t;omega);have f:=d.lt;have H:=zG U y.size;have C:(Value.slice none 0 0).ownBlock≠some j:=by simp [Value.ownBlock]
 have z:=q;rw [<- q];have D:g1<P.heap.size:=by rw [z];simpa [World.setCell] using A
 have Q:=hid n;clear z q k5 k6 z5 z6 c5 c6 f5 f6 b o n A hw;go_region_law
  ((first
   | (refine xY _ (by rfl) (.const (.slice none 0 0)) (.tmp 19) _ (by rfl) B 3 j0 _ 1 8 underlying69 hj a2 a3 a4 rfl zO (.slice none 0 0) 0 [] (by rfl) (yU _ _ _ _) ⟨g,0,none⟩ l.length l.length (Al l) (by rfl) (by simp [Al]) (gM W) (Yz l) hl (by unfold maxLen;omega) zO H P.heap.size rfl ?_;intro g2 p2 w2 E a I a6;have k6:=(a.cell_far ⟨j,6,none⟩ f (zY C)).trans R;have z6:=(a.frozen_far ⟨j,6,none⟩ f (zY C)).trans S;have a0:=gR Z.drew a;have a5:=zM f a.size)
   | (refine xY _ (by rfl) (.tmp 18) (.tmp 21) _ (by rfl) B 69 i0 _ 1 24 underlying71 hi L M N rfl zO s.vr s.CO.length s.CO (by rfl) (a0.alloc _) ⟨w2.heap.size,0,none⟩ 1 1 [.slice (some ⟨g2,0,none⟩) l.length p2] (by rfl) (by rfl) (yX _ _ _) (by simp [Value.oneCell']) zO (by unfold maxLen;omega) zO (by have:=a.size;simp at this |-;omega) (w2.heap.size+1) zS ?_;intro g3 p3 w3 F c J a7;have a9:=Fh c (zM f a.size) G k6;have b0:=Fk c (zM f a.size) G z6)))
 all_goals go_wp2_with fail
 all_goals
  have T:=SG (g:=g) (g2:=g2) O.out V (Or.inr ⟨g,l.length,rfl⟩) Y (fun x hx=>by simp [Value.ownBlock] at hx;omega) (fun _=>hρ) (Or.inl (Bj V rfl)) y X a1 d Q.out D a (by simpa using E) (fun x hx=>by simp [Value.ownBlock] at hx;omega) (I.resolve_left (by simp [Value.ownBlock])) c F J;go_end0
  exact ⟨rfl,T.1,T.2⟩
theorem MD(B d:Nat)(ρ:Nat->Nat)(s:Aj)(w:World)(h:Inv B d 0 ρ s w)(a4:s.CO.length<=1000000000)(a0:s.waits.length<=1000000000) :
  Calls prog 87 #[.pointer (some ⟨d,0,none⟩), .slice none 0 0] w fun e S=>e= .returned (.tuple #[])/\Below B w S/\∃ (ρ':Nat->Nat) (vw vr u:Value),Inv B d 0 ρ' { s with vw:=vw,waits:=s.waits++[(.slice none 0 0,[])],vr:=vr,CO:=s.CO++[u] } S/\Kp (fun r=>r=2\/r=3\/r=5) ρ w S/\(∀ k,k<w.heap.size->ρ' k=ρ k):=by
 have I:=hid h;have p:=h.row.lt;have N:=h.hB;have U:w.cell? ⟨d,5,none⟩=some s.vw:=h.row.cell (i:=5) zO;have c6:w.cell? ⟨d,6,none⟩=some s.vr:=h.row.cell (i:=6) zO;have V:=h.row.frozen 5;have W:=h.row.frozen 6;have n:s.vw.ownBlock≠some d:=fun e=>by have h1:=h.Ke d e;have h2:=h.rW;omega
 have D:s.vr.ownBlock≠some d:=fun e=>by have h1:=h.rr d e;have h2:=h.rW;omega
 have hw:=h.PA;clear h;obtain ⟨i0,hi,F,G,H⟩:=yM SE;go_enter func87,ntmps87
 go_upto_region 1 with (first | (at_builtin;refine xC _ rfl _ _ 71 rfl B 69 i0 (.slice none 0 0) 1 24 underlying71 hi F G H rfl zD s.vw s.waits.length (s.waits.map (·.1)) rfl (hw.alloc _) ⟨w.heap.size,0,none⟩ 1 1 [.slice none 0 0] rfl rfl (yX _ _ _) (by simp [Value.oneCell']) zO (by unfold maxLen;omega) zO (by simp;omega) (w.heap.size+1) zS ?_;intro X p1 w1 j a f z;have k5:=Fh a p n U;have k6:=Fh a p n c6;have z5:=Fk a p n V;have z6:=Fk a p n W))
 obtain ⟨t,o⟩:=qe (w1.setCell ⟨d,5,none⟩ (.slice (some ⟨X,0,none⟩) (s.waits.length+1) p1));have T:=QD (l:=[]) I.out a j f;rw [<- o] at T;obtain ⟨q,O,R,c⟩:=T;have L:t.cell? ⟨d,6,none⟩=some s.vr:=by rw [c.cell (i:=6) zO];simp [fld]
 have M:=c.frozen 6;have Q:=As I.out.RL q (fun g' P=>by have:=I.out.rr g' P;omega);have y:=c.lt;have Y:=zG N q.size;have v:=o;rw [<- o];have A:X<t.heap.size:=by rw [v];simpa [World.setCell] using z
 have J:=hid f;clear v o k5 k6 z5 z6 U c6 V W a j f z hw;go_region_law
  ((refine xY _ (by rfl) (.tmp 18) (.tmp 21) _ (by rfl) B 69 i0 _ 1 24 underlying71 hi F G H rfl zO s.vr s.CO.length s.CO (by rfl) ((Q.alloc _).drew) ⟨t.heap.size,0,none⟩ 1 1 [.slice none 0 0] (by rfl) (by rfl) (yX t _ _) (by simp [Value.oneCell']) zO (by unfold maxLen;omega) zO (by simp;omega) (t.heap.size+1) zS ?_;intro g3 p3 w3 C b E Z;have a1:=SF b y D L;have a2:=TA b y D M))
 all_goals go_wp2_with fail
 all_goals
  have a3:=zG q.size (zG zS b.size);have T:=SG (g:=w3.heap.size+1) (g2:=t.heap.size) (w2:=t.drew) (u:= .slice none 0 0) I.out (OI.nil w B) (Or.inl rfl) zS (fun x hx=>by simp [Value.ownBlock] at hx) (fun hx=>zO) (Or.inr zL) q O R c J.out A ⟨rfl,rfl,rfl,zE _,fun _ _ _=>rfl⟩ (OI.nil t.drew B) (fun x hx=>by simp [Value.ownBlock] at hx) rfl b C E;go_end0
  obtain ⟨T1,ρ',vw,vr,u,T2,T3,T4⟩:=T;exact ⟨rfl,T1,ρ',vw,vr,u,T2,T3,fun k hk=>T4 k hk zO⟩
theorem Inv.ec(h:Inv B gW d ρ s w)(hk:k<s.waits.length)(hd:d<=k) :
  ∃ (gw p:Nat) (ad j:Option Addr) (o:Nat) (f u:Nat),s.vw= .slice (some ⟨gw,0,none⟩) s.waits.length p/\s.vr= .slice (some ⟨f,0,none⟩) s.waits.length u/\gw<w.heap.size/\f<w.heap.size/\
   w.cell? ⟨gw,k,none⟩=some (.slice ad (s.waits[k]).2.length (s.waits[k]).2.length)/\w.cell? ⟨f,k,none⟩=some (.slice j (s.waits[k]).2.length o)/\
   s.waits[k].1= .slice ad (s.waits[k]).2.length (s.waits[k]).2.length/\(ad=none->s.waits[k].2.length=0)/\Ap w ad (s.waits[k]).2/\Ap w j (s.waits[k]).2:=by
 obtain ⟨gw,p,hv,hB,r⟩:=h.PA.form zO;have b:=h.Gv;obtain ⟨f,u,c,A,i⟩:=h.RL.form zO;rw [b] at c;obtain ⟨C,t⟩:=h.wt k hk hd;have q:=h.wr k zO hk;obtain ⟨ad,y,l,c1⟩:=C.cells;obtain ⟨j,o,z,c2⟩:=q.cells;have a:y=(s.waits[k]).2.length/\(ad=none->(s.waits[k]).2.length=0):=by
  rcases t with e | ⟨g,n,e⟩
  ·rw [l] at e;simp only [vO] at e;exact ⟨zO,fun _=>zO⟩
  ·rw [l] at e;simp only [vO] at e;exact ⟨zO,fun x=>by rw [x] at e;simp at e⟩
 have hw:=h.PA;rw [hv] at hw;have v:=h.RL;rw [b,c] at v;refine ⟨gw,p,ad,j,o,f,u,hv,c,r,i,?_,?_,by rw [l,a.1],a.2,c1,c2⟩
 ·rw [xO hw k zO];simp [hk,l,a.1]
 ·rw [xO v k zO];simp [b,hk,z]
theorem VF(s:Aj)(m:Nat)(i:Nat)(hi:i<9):(if i=4 then (.int .i64 (m:Int)) else fld s i)=fld { s with CX:=m } i:=by
 have:i=0\/i=1\/i=2\/i=3\/i=4\/i=5\/i=6\/i=7\/i=8:=zO;rcases this with rfl | rfl | rfl | rfl | rfl | rfl | rfl | rfl | rfl <;> simp [fld]
theorem UC{m:Nat}{bs:List (Int×List Value)}(h:Inv B gW d ρ { s with CX:=m+k,vb:=vb,Ay:=bs } w)(a:OI w B v l)(hv:∀ g,v.ownBlock=some g->g≠gW) :
  OI (w.setCell ⟨gW,4,none⟩ (.int .i64 ((m:Int)+k+1))) B v (List.replicate 0 c++l.drop 0)/\(w.setCell ⟨gW,4,none⟩ (.int .i64 ((m:Int)+k+1))).rowIs gW 75 9 (fld { s with CX:=m+k+1,vb:=vb,Ay:=bs })/\Kp (fun r=>r=5\/r=10+d) ρ w (w.setCell ⟨gW,4,none⟩ (.int .i64 ((m:Int)+k+1)))/\Below B w (w.setCell ⟨gW,4,none⟩ (.int .i64 ((m:Int)+k+1))):=by
 refine ⟨?_,?_,Kp.Dm w _ _ (Or.inl h.rW),zB.setCell h.gB _⟩
 ·simp only [BO,AQ,jD];exact As (R:=fun k=>k=gW) (ρ:=fun k=>k) a ⟨by simp [World.setCell],fun k _ hk=>zZ _ _ _ _ hk⟩ (fun x hx=>hv x hx)
 ·have e:(m:Int)+k+1=((m+k+1:Nat):Int):=zO;rw [e];exact (h.row.set 4 _).congr (fun i hi=>VF { s with CX:=m+k,vb:=vb,Ay:=bs } (m+k+1) i hi)
theorem WG(h:OI w B (.slice (some ⟨g,0,none⟩) n n) (List.replicate j c++l.drop j))(d:n=l.length)(b:j<l.length):∃ y,w.cell? ⟨g,j,none⟩=some (.int .i64 y):=by
 have e:(List.replicate j c++l.drop j).length=n:=by simp;omega
 have a:w.ownsRow B 3 1 (.slice (some ⟨g,0,none⟩) n n) n (Al (List.replicate j c++l.drop j)):=by have:=h;unfold OI at this;rw [e] at this;exact this
 refine ⟨l[j],?_⟩;rw [xO a j zO];simp [Al,kQ,b]
theorem WH(h:OI w B (.slice (some ⟨g,0,none⟩) n n) (List.replicate j c++l.drop j))(d:n=l.length)(b:j<l.length)(i:Nat):w.frozen? ⟨g,i,none⟩=false:=by
 have e:(List.replicate j c++l.drop j).length=n:=by simp;omega
 have a:w.ownsRow B 3 1 (.slice (some ⟨g,0,none⟩) n n) n (Al (List.replicate j c++l.drop j)):=by have:=h;unfold OI at this;rw [e] at this;exact this
 exact BL a i
theorem WI(h:OI w B (.slice (some ⟨g,0,none⟩) n n) (List.replicate j c++l.drop j))(p:n=l.length)(o:j<l.length):OI (w.setCell ⟨g,j,none⟩ (.int .i64 c)) B (.slice (some ⟨g,0,none⟩) n n) (List.replicate (j+1) c++l.drop (j+1)):=by
 have e:(List.replicate j c++l.drop j).length=n:=by simp;omega
 have d:(List.replicate (j+1) c++l.drop (j+1)).length=n:=by simp;omega
 have k:w.ownsRow B 3 1 (.slice (some ⟨g,0,none⟩) n n) n (Al (List.replicate j c++l.drop j)):=by have:=h;unfold OI at this;rw [e] at this;exact this
 have h2:=(World.ownsRow.stored k j (.int .i64 c)).1;have f:(Al (List.replicate j c++l.drop j)).set j (.int .i64 c)=Al (List.replicate (j+1) c++l.drop (j+1)):=by
  unfold Al;rw [<- List.map_set];congr 1
  apply List.ext_getElem?;intro i;rw [BS];by_cases b:j=i
  ·subst b;rw [zC rfl];simp [kQ];omega
  ·rw [zA b];simp only [kQ,yZ,vW,jV];by_cases a:i<j
   ·rw [zC a,zC a,zC zO,zC zO]
   ·rw [zA a,zA zO];congr 1;omega
 rw [f] at h2;unfold OI;rw [d];exact h2
def bookF(m:Int)(v0 v1 v2 v3:Value):Nat->Value
 | 0=> .int .i64 m
 | 1=>v0
 | 2=>v1
 | 3=>v2
 | _=>v3
structure UX(B:Nat)(w:World)(gb:Nat)(W:World)(f:Nat->Value):Prop where
 bel:Below w.heap.size w W
 hB:B<=w.heap.size
 ge:w.heap.size<=gb
 row:W.rowIs gb 143 5 f
theorem UX.cell{f:Nat->Value}(h:UX B w gb W f)(hi:i<5):W.cell? ⟨gb,i,none⟩=some (f i):=h.row.cell hi
theorem UX.free{f:Nat->Value}(h:UX B w gb W f)(i:Nat):W.frozen? ⟨gb,i,none⟩=false:=h.row.frozen i
theorem UX.start(w:World)(m:Int)(v0:Value)(hB:B<=w.heap.size):UX B w w.heap.size (w.alloc (.cells #[.int .i64 m,v0, .slice none 0 0, .slice none 0 0, .slice none 0 0] 143)) (fun i=>bookF m v0 (.slice none 0 0) (.slice none 0 0) (.slice none 0 0) i) where
 bel:=zB.alloc zL _
 hB:=hB
 ge:=zE _
 row:=yL w _ _ _ (fun i hi=>by
  simp at hi;have:i=0\/i=1\/i=2\/i=3\/i=4:=zO;rcases this with rfl | rfl | rfl | rfl | rfl <;> rfl)
theorem UX.next{f:Nat->Value}(h:UX B w gb W f)(a:(W.alloc o).grownBy w1 none)(j:Nat)(v:Value):UX B w gb (w1.setCell ⟨gb,j,none⟩ v) (fun i=>if i=j then v else f i) where
 bel:=by
  refine ((h.bel.alloc h.bel.size o).grown a ?_ (fun x hx=>by simp at hx)).setCell h.ge v;have:=h.bel.size;simp;omega
 hB:=h.hB
 ge:=h.ge
 row:=by
  have b:=h.row.lt;exact (h.row.of_block ((a.block gb (by simp;omega) zS).trans (yK W o gb b))).set j v
theorem UX.nh{f:Nat->Value}(_:UX B w gb W f)(a:(W.alloc o).grownBy w1 none)(j:Nat)(v:Value)(d:OI W B u l)(b:∀ x,u.ownBlock=some x->x≠gb):OI (w1.setCell ⟨gb,j,none⟩ v) B u l:=by
 refine As (R:=fun k=>k=gb) (ρ:=fun k=>k) d ⟨by have:=a.size;simp [World.setCell] at this |-;omega,fun k hk c=>?_⟩ (fun x hx=>b x hx);rw [zZ _ _ _ _ c,a.block k (by simp;omega) zS,yK W o k hk]
theorem UX.new{f:Nat->Value}(h:UX B w gb W f)(a:w1.ownsRow (W.alloc o).heap.size 3 1 v l.length (Al l))(j:Nat)(x:Value):OI (w1.setCell ⟨gb,j,none⟩ x) B v l/\(∀ y,v.ownBlock=some y->w.heap.size<y/\y≠gb):=by
 have i:=h.row.lt;have b:∀ y,v.ownBlock=some y->W.heap.size+1<=y:=fun y c=>by have:=(a.lt y c).1;simpa using this
 have hs:=h.bel.size;refine ⟨?_,fun y c=>by have:=b y c;omega⟩;have h1:w1.ownsRow B 3 1 v l.length (Al l):=by
  refine ⟨a.1,?_⟩;rcases a.2 with hn | ⟨g,cap,cur,e,d,rest⟩
  ·exact .inl hn
  ·refine .inr ⟨g,cap,cur,e,?_,rest⟩;have:=h.hB;simp at d;omega
 exact As (R:=fun k=>k=gb) (ρ:=fun k=>k) h1 ⟨by simp [World.setCell],fun k _ hk=>zZ _ _ _ _ hk⟩ (fun y c=>by have:=b y c;omega)
theorem UX.kn{c:Nat}{f:Nat->Value}(h:UX B w gb W f)(a:w1.ownsRow (W.heap.size+1) 3 1 v (n+c) (Al (List.replicate n m)++List.replicate c (.int .i64 m)))(j:Nat)(x:Value):OI (w1.setCell ⟨gb,j,none⟩ x) B v (List.replicate (n+c) m)/\(∀ y,v.ownBlock=some y->w.heap.size<y/\y≠gb):=by
 refine h.new (o:= .cells #[] 0) (l:=List.replicate (n+c) m) ?_ j x;have e:Al (List.replicate (n+c) m)=Al (List.replicate n m)++List.replicate c (.int .i64 m):=by simp [Al,<- List.replicate_append_replicate]
 rw [e,yZ];simpa using a
theorem Ul(b o j:Nat):(⟨b,o,none⟩:Addr).add j=⟨b,o+j,none⟩:=by unfold Addr.add;split <;> simp_all
theorem NC{c:Nat}(h:OI w B (.slice ad n c) l)(r:Below w.heap.size w W)(o:Obj):∀ b,ad=some b->∀ (j:Nat) (u:Value),(Al l)[j]?=some u->(W.alloc o).cell? (b.add j)=some u:=by
 intro b i j u t;subst i;obtain ⟨ad',p,e,hc⟩:=h.cells;simp only [vO] at e;have s:j<l.length:=by
  rcases jN j l.length with g | g
  ·exact g
  ·simp [Al,g] at t
 obtain ⟨d,k,q,f,a⟩:=hc j s;have v:b=⟨d,k,none⟩:=by rw [<- e.1] at q;simpa using q
 subst v;rw [Ul];have y:(W.alloc o).cell? ⟨d,k+j,none⟩=w.cell? ⟨d,k+j,none⟩:=yV ((yK W o d (zM f r.size)).trans (r.block d f));rw [y,a];simpa [Al,s] using t
theorem YD(h:Inv B gW d ρ s w) :
  Inv B gW 0 ρ { s with vw:= .slice none 0 0,waits:=[],vr:= .slice none 0 0,CO:=[] } ((w.setCell ⟨gW,5,none⟩ (.slice none 0 0)).setCell ⟨gW,6,none⟩ (.slice none 0 0))/\Below B w ((w.setCell ⟨gW,5,none⟩ (.slice none 0 0)).setCell ⟨gW,6,none⟩ (.slice none 0 0)):=by
 have c:Kp (fun r=>r=5) ρ w ((w.setCell ⟨gW,5,none⟩ (.slice none 0 0)).setCell ⟨gW,6,none⟩ (.slice none 0 0)):=(Kp.Dm w _ _ h.rW).trans (Kp.Dm _ _ _ h.rW);refine ⟨?_,(zB.setCell h.gB _).setCell h.gB _⟩;exact {
  gB:=h.gB
  hB:=zG h.hB c.size
  row:=((h.row.set 5 _).set 6 _).congr (fun i hi=>by
   have:i=0\/i=1\/i=2\/i=3\/i=4\/i=5\/i=6\/i=7\/i=8:=zO;rcases this with rfl | rfl | rfl | rfl | rfl | rfl | rfl | rfl | rfl <;> simp [fld])
  len:=As h.len c (fun g a f=>by have:=h.rl g a;omega)
  PA:=yU _ _ _ _
  RL:=yU _ _ _ _
  OJ:=As h.OJ c (fun g a f=>by have:=h.rb g a;omega)
  Gv:=rfl
  wt:=fun i hi=>by simp at hi
  wr:=fun i hi=>by simp at hi
  bk:=fun b e=>⟨(h.bk b e).1,fun v hv=>by
   obtain ⟨n,j⟩:=(h.bk b e).2 v hv;exact ⟨n,As j c (fun g a f=>by have:=h.NV b e v hv g a;omega)⟩⟩
  rW:=h.rW
  rl:=h.rl
  Ke:=fun g a=>by simp [Value.ownBlock] at a
  rr:=fun g a=>by simp [Value.ownBlock] at a
  rb:=h.rb
  OD:=fun i hi=>by simp at hi
  OO:=fun v hv=>by simp at hv
  NV:=h.NV
  Vp:=h.Vp
  Rh:=h.Rh
  UY:=h.UY
  UQ:=fun i hi=>by simp at hi
  UZ:=fun x hx=>Nd (h.UZ x hx) c (fun f=>by have:=h.Qe x hx;omega)
  Qe:=h.Qe }
theorem WE{bs:List (Int×List Value)}{wk W3:World}{f:Nat->Value}{x1 x2 p2 x3:Nat}
  (h:Inv B gW k ρ { s with CX:=s.CX+k,vb:=vb,Ay:=bs } wk) (hk:Kp (fun r=>r=5\/r=10+k) ρ wk wr) (a:wr.rowIs gW 75 9 (fld { s with CX:=s.CX+k+1,vb:=vb,Ay:=bs })) (l:Below B w wr) (hm:s.CX+k+1<=1000000000)
  (hρ:∀ g,(Value.slice ad n n).ownBlock=some g->ρ g=10+k) (j:OI wr B (.slice ad n n) (List.replicate n m)) (hG:UX B wr wr.heap.size W3 f)
  (d:OI W3 B (.slice (some ⟨x1,0,none⟩) (n+1) p1) (List.replicate (n+1) m)/\∀ y,(Value.slice (some ⟨x1,0,none⟩) (n+1) p1).ownBlock=some y->wr.heap.size<y/\y≠wr.heap.size)
  (e:OI W3 B (.slice (some ⟨x2,0,none⟩) (n+2) p2) (List.replicate (n+2) m)/\∀ y,(Value.slice (some ⟨x2,0,none⟩) (n+2) p2).ownBlock=some y->wr.heap.size<y/\y≠wr.heap.size)
  (i:OI W3 B (.slice (some ⟨x3,0,none⟩) (n+3) p3) (List.replicate (n+3) m)/\∀ y,(Value.slice (some ⟨x3,0,none⟩) (n+3) p3).ownBlock=some y->wr.heap.size<y/\y≠wr.heap.size) :
  ∃ ρ2:Nat->Nat,Inv B gW (k+1) ρ2 { s with CX:=s.CX+(k+1),vb:=vb,Ay:=bs } W3/\
   (∀ v∈[Value.slice ad n n, .slice (some ⟨x1,0,none⟩) (n+1) p1, .slice (some ⟨x2,0,none⟩) (n+2) p2, .slice (some ⟨x3,0,none⟩) (n+3) p3],∃ c,OI W3 B v (List.replicate c m))/\
   (∀ v∈[Value.slice ad n n, .slice (some ⟨x1,0,none⟩) (n+1) p1, .slice (some ⟨x2,0,none⟩) (n+2) p2, .slice (some ⟨x3,0,none⟩) (n+3) p3],∀ g,v.ownBlock=some g->ρ2 g=0)/\Below B w W3:=by
 have h1:Inv B gW (k+1) ρ { s with CX:=s.CX+k+1,vb:=vb,Ay:=bs } wr:=h.marked (R:=fun r=>r=5\/r=10+k) hk (fun r o=>zO) zO a hm;have y1:=(d.2 x1 rfl).1;have y2:=(e.2 x2 rfl).1;have y3:=(i.2 x3 rfl).1;have h2:=h1.Hx (ρ':=fun y=>if ρ y=10+k\/y=x1\/y=x2\/y=x3 then 0 else ρ y) (fun y p o=>by
  rw [zA zO])
 refine ⟨_,h2.below hG.bel,?_,?_,l.trans (hG.bel.mono hG.hB)⟩
 ·intro v hv;simp only [xB,AP,or_false] at hv;rcases hv with rfl | rfl | rfl | rfl
  ·exact ⟨n,As (R:=fun _=>False) (ρ:=ρ) j (Kp.Bk hG.bel) (fun _ _ x=>x)⟩
  ·exact ⟨_,d.1⟩
  ·exact ⟨_,e.1⟩
  ·exact ⟨_,i.1⟩
 ·intro v hv g b;simp only [xB,AP,or_false] at hv;rcases hv with rfl | rfl | rfl | rfl
  ·rw [zC (Or.inl (hρ g b))]
  ·simp [Value.ownBlock] at b;rw [zC zO]
  ·simp [Value.ownBlock] at b;rw [zC zO]
  ·simp [Value.ownBlock] at b;rw [zC zO]
theorem WJ(B C:Nat)(ρ:Nat->Nat)(s:Aj)(w:World)(h:Inv B C 0 ρ s w)(g6:s.waits.length<=10000000)(f3:s.Ay.length<=900000000)(g3:s.CX<=900000000) :
  Calls prog 35 #[.pointer (some ⟨C,0,none⟩)] w fun e w'=>e= .returned (.bool true)/\Below B w w'/\∃ (ρ':Nat->Nat) (vb:Value) (J:List (Int×List Value)),Inv B C 0 ρ' { s with CX:=s.CX+s.waits.length,vb:=vb,Ay:=J,vw:= .slice none 0 0,waits:=[],vr:= .slice none 0 0,CO:=[] } w'/\J.length=s.Ay.length+s.waits.length:=by
 have HI:=hid h;have f9:=h.row.lt;obtain ⟨aw,cw,b6⟩:∃ aw cw,s.vw= .slice aw s.waits.length cw:=by
  rcases h.PA.2 with ⟨hv,h0⟩ | ⟨g,cap,cur,hv,_⟩
  ·exact ⟨none,0,by rw [hv,h0]⟩
  ·exact ⟨_,_,hv⟩
 have c5:w.cell? ⟨C,5,none⟩=some (.slice aw s.waits.length cw):=by rw [h.row.cell (i:=5) zO];simp [fld,b6]
 have a4:=hid b6;clear h b6;go_enter func35,ntmps35
 go_wp2_with fail
 go_loopw [3,4] (fun ok i wr=>∃ k q:Nat,k<=s.waits.length/\ok= .bool true/\i= .int .i64 k/\wr=w.drewN q) (fun _ i _=>s.waits.length - (intOf i).toNat)
 case atStart=>exact ⟨0,0,zH _,rfl,rfl,rfl⟩
 case round=>
  obtain ⟨k,q,hk,rfl,rfl,b7⟩:=hrel;have d7:wr.cell? ⟨C,5,none⟩=some (.slice aw s.waits.length cw):=by rw [b7];exact c5
  have v:=hid b7;clear b7 c5;by_cases D:k<s.waits.length
  ·obtain ⟨gw,a5,ad,bd,cr,gr,pr,hv,b5,d9,d4,d1,d2,_,_,k1,k2⟩:=HI.out.ec D (zH _);obtain ⟨rfl,rfl⟩:aw=some ⟨gw,0,none⟩/\cw=a5:=by have:=a4.out.symm.trans hv;simpa using this
   have c6:wr.cell? ⟨C,6,none⟩=some (.slice (some ⟨gr,0,none⟩) s.waits.length pr):=by rw [v.out];show w.cell? _=_;rw [HI.out.row.cell (i:=6) zO];simp [fld,b5]
   have hl:=(HI.out.UQ k D)
   obtain ⟨l,W⟩:∃ l,(s.waits[k]).2=l:=⟨_,rfl⟩
   rw [W] at d1 d2 k1 k2 hl;have e9:wr.cell? ⟨gw,k,none⟩=some (.slice ad l.length l.length):=by rw [v.out];exact d1
   have f0:wr.cell? ⟨gr,k,none⟩=some (.slice bd l.length cr):=by rw [v.out];exact d2
   have e3:Ap wr ad l:=by rw [v.out];exact k1.same rfl
   have e4:Ap wr bd l:=by rw [v.out];exact k2.same rfl
   clear W d1 d2 k1 k2;have g0:(0:Int)<=(k:Int):=zO;have g1:(k:Int)<(s.waits.length:Int):=zO;go_wp2_with fail
   go_quiet ((go_at_call 62;refine Calls.quiet_of (NY ad bd l.length cr l _ ?_ ?_ ?_);omega;exact e3.same rfl;exact e4.same rfl))
   go_wp2_with fail
   go_roundw
   case rel=>exact ⟨k+1,q+_,zO,rfl,by go_num,by rw [v.out,World.drewN_drewN]⟩
   case measure=>simp [intOf];omega
  ·obtain rfl:k=s.waits.length:=zO;go_wp2_with fail
   clear d7;have d5:Hid (Below B w wr):=by show Below B w wr;rw [v.out];exact ⟨rfl,rfl,rfl,zE _,fun _ _=>rfl⟩
   have d6:Hid (Inv B C 0 ρ s wr):=by show Inv B C 0 ρ s wr;rw [v.out];exact HI.out.drewN q
   clear v;obtain ⟨w0,g5⟩:=qe wr;go_loopw [6] (fun i ws=>∃ (k:Nat) (ρk:Nat->Nat) (vb:Value) (J:List (Int×List Value)),k<=s.waits.length/\i= .int .i64 k/\Inv B C k ρk { s with CX:=s.CX+k,vb:=vb,Ay:=J } ws/\J.length=s.Ay.length+k/\Below B w ws) (fun i _=>s.waits.length - (intOf i).toNat)
   case atStart=>exact ⟨0,ρ,s.vb,s.Ay,zH _,rfl,d6.out,rfl,d5.out⟩
   case round=>
    obtain ⟨k,ρk,vb,J,hk,rfl,V,d3,a0⟩:=hrel;have u:=hid V;have a3:=hid d3;have e7:=V.row.lt;have c5:wr.cell? ⟨C,5,none⟩=some (.slice aw s.waits.length cw):=by rw [V.row.cell (i:=5) zO];have:=a4.out;simp [fld,this]
    have c4:wr.cell? ⟨C,4,none⟩=some (.int .i64 (s.CX+k)):=by rw [V.row.cell (i:=4) zO];simp [fld]
    have f4:=V.row.frozen 4;have f5:=V.row.frozen 5;have f6:=V.row.frozen 6;have c6:wr.cell? ⟨C,6,none⟩=some s.vr:=by rw [V.row.cell (i:=6) zO];simp [fld]
    clear V d3;by_cases D:k<s.waits.length
    ·obtain ⟨gw,a5,ad,bd,cr,gr,pr,hv,b5,d9,d4,d1,d2,hval,d,k1,k2⟩:=u.out.ec D zL;obtain ⟨rfl,rfl⟩:aw=some ⟨gw,0,none⟩/\cw=a5:=by have:=a4.out.symm.trans hv;simpa using this
     have hl:=(u.out.UQ k D)
     obtain ⟨l,W⟩:∃ l,(s.waits[k]).2=l:=⟨_,rfl⟩
     have hO:=(u.out.wt k D zL).1;have hρ:=u.out.OD k D zL;simp only at d1 d2 k1 k2 hl hval d hO hρ;rw [W] at d1 d2 k1 k2 hl hval d hO;rw [hval] at hO hρ;clear k2 d2 b5 d4;have g2:(s.CX:Int)+k<=990000000:=zO;have S0:=UC (c:= -((s.CX:Int)+k+1)) u.out hO (fun g hg e=>by have:=hρ g hg;have:=u.out.rW;rw [e] at *;omega);go_wp2_with fail
     clear c4 c5 c6 f4 f5 f6 d1 k1;go_loopw [9] (fun i wx=>∃ j:Nat,j<=l.length/\i= .int .i64 j/\OI wx B (.slice ad l.length l.length) (List.replicate j (-((s.CX:Int)+k+1))++l.drop j)/\wx.rowIs C 75 9 (fld { s with CX:=s.CX+k+1,vb:=vb,Ay:=J })/\Kp (fun r=>r=5\/r=10+k) ρk wr wx/\Below B w wx) (fun i _=>l.length - (intOf i).toNat)
     case atStart=>exact ⟨0,zH _,rfl,S0.1,S0.2.1,S0.2.2.1,a0.trans S0.2.2.2⟩
     case round=>
      rename_i g7 _ _ _
      obtain ⟨j,hj,rfl,M,X,a8,a6⟩:=hrel;by_cases a7:j<l.length
      ·obtain ⟨g,rfl⟩:∃ g,ad=some ⟨g,0,none⟩:=by
        obtain ⟨g,cap,e,_⟩:=kK hO zO;simp only [vO] at e;exact ⟨g,e.1⟩
       obtain ⟨y,hy⟩:∃ y,wr.cell? ⟨g,j,none⟩=some (.int .i64 y):=WG M rfl a7;have hz:=WH M rfl a7 j;have S1:=WI M rfl a7;have S2:=X.setOther (a:=⟨g,j,none⟩) (by have:=hρ g rfl;have:=u.out.rW;intro e;simp at e;rw [e] at this;omega) (.int .i64 (-((s.CX:Int)+k+1)));have S3:=a8.trans (Kp.Dm wr ⟨g,j,none⟩ (.int .i64 (-((s.CX:Int)+k+1))) (Or.inr (hρ g rfl)));have S4:=a6.setCell (p:=⟨g,j,none⟩) (hO.lt g rfl).1 (.int .i64 (-((s.CX:Int)+k+1)));go_wp2_with fail
       go_roundw
       case rel=>exact ⟨j+1,zO,by go_num,S1,S2,S3,S4⟩
       case measure=>simp [intOf];omega
      ·obtain rfl:j=l.length:=zO;have L:OI wr B (.slice ad l.length l.length) (List.replicate l.length (-((s.CX:Int)+k+1))):=by
        have:=M;rw [BA,xV] at this;exact this
       clear M;obtain ⟨i0,hi,b8,b9,c0⟩:=yM Gf;have f8:=X.lt;have g4:=a6.size;have f2:=HI.out.hB;have R:UX B wr wr.heap.size (wr.alloc (.cells #[.int .i64 (-((s.CX:Int)+k+1)), .slice ad l.length l.length, .slice none 0 0, .slice none 0 0, .slice none 0 0] 143)) (fun i=>bookF (-((s.CX:Int)+k+1)) (.slice ad l.length l.length) (.slice none 0 0) (.slice none 0 0) (.slice none 0 0) i):=UX.start _ _ _ zO;go_upto_region 18 with fail
       obtain ⟨W0,c2⟩:=qe (wr.alloc (.cells #[.int .i64 (-((s.CX:Int)+k+1)), .slice ad l.length l.length, .slice none 0 0, .slice none 0 0, .slice none 0 0] 143));rw [<- c2] at R |-;clear c2;have q2:=R.cell (i:=2) zO;have z2:=R.free 2;have N:=NC L R.bel;go_upto_region 19 with (first | (at_builtin;refine jI _ rfl (.tmp 80) (.tmp 82) 69 rfl 3 i0 (.int .i64 0) 1 8 underlying69 hi b8 b9 c0 rfl zD ad l.length l.length (Al (List.replicate l.length (-((s.CX:Int)+k+1)))) rfl (fun e=>⟨d e,d e⟩) (by simp [Al]) (N _) ⟨W0.heap.size,0,none⟩ 1 1 [.int .i64 (-((s.CX:Int)+k+1))] rfl rfl ?q18a (by simp [Value.oneCell']) zO (by unfold maxLen;omega) zO ?_))
       case q18a=>exact xS (zJ W0 _)
       intro v1 w1 E o;obtain ⟨x1,p1,rfl,_,_⟩:=E.form zO;have qq:=Fh o R.row.lt zS q2;have zz:=Fk o R.row.lt zS z2;have Q:=R.next o 2 (.slice (some ⟨x1,0,none⟩) (l.length+1) p1);have H:=R.kn (c:=1) E 2 (.slice (some ⟨x1,0,none⟩) (l.length+1) p1);clear q2 z2 N;go_upto_region 19 with fail
       obtain ⟨W1,c3⟩:=qe (w1.setCell ⟨wr.heap.size,2,none⟩ (.slice (some ⟨x1,0,none⟩) (l.length+1) p1));rw [<- c3] at Q H |-;clear c3 qq zz E o R;have q3:=Q.cell (i:=3) zO;have z3:=Q.free 3;have O:=NC L Q.bel;go_upto_region 20 with (first | (at_builtin;refine jI _ rfl (.tmp 85) (.tmp 88) 69 rfl 3 i0 (.int .i64 0) 1 8 underlying69 hi b8 b9 c0 rfl zD ad l.length l.length (Al (List.replicate l.length (-((s.CX:Int)+k+1)))) rfl (fun e=>⟨d e,d e⟩) (by simp [Al]) (O _) ⟨W1.heap.size,0,none⟩ 2 2 [.int .i64 (-((s.CX:Int)+k+1)), .int .i64 (-((s.CX:Int)+k+1))] rfl rfl ?q19a (by simp [Value.oneCell']) zO (by unfold maxLen;omega) zO ?_))
       case q19a=>exact xS (zJ W1 _)
       intro v2 w2 F n;obtain ⟨x2,p2,rfl,_,_⟩:=F.form zO;have qq:=Fh n Q.row.lt zS q3;have zz:=Fk n Q.row.lt zS z3;have I:=Q.next n 3 (.slice (some ⟨x2,0,none⟩) (l.length+2) p2);have N2:=Q.kn (c:=2) F 3 (.slice (some ⟨x2,0,none⟩) (l.length+2) p2);have H:OI _ B _ _/\_:=⟨Q.nh n 3 (.slice (some ⟨x2,0,none⟩) (l.length+2) p2) H.1 (fun y hy=>(H.2 y hy).2),H.2⟩
       clear q3 z3 O;go_upto_region 20 with fail
       obtain ⟨W2,c8⟩:=qe (w2.setCell ⟨wr.heap.size,3,none⟩ (.slice (some ⟨x2,0,none⟩) (l.length+2) p2));rw [<- c8] at I H N2 |-;clear c8 qq zz F n Q;have q4:=I.cell (i:=4) zO;have z4:=I.free 4;have P:=NC L I.bel;go_upto_region 21 with (first | (at_builtin;refine jI _ rfl (.tmp 91) (.tmp 95) 69 rfl 3 i0 (.int .i64 0) 1 8 underlying69 hi b8 b9 c0 rfl zD ad l.length l.length (Al (List.replicate l.length (-((s.CX:Int)+k+1)))) rfl (fun e=>⟨d e,d e⟩) (by simp [Al]) (P _) ⟨W2.heap.size,0,none⟩ 3 3 [.int .i64 (-((s.CX:Int)+k+1)), .int .i64 (-((s.CX:Int)+k+1)), .int .i64 (-((s.CX:Int)+k+1))] rfl rfl ?q20a (by simp [Value.oneCell']) zO (by unfold maxLen;omega) zO ?_))
       case q20a=>exact xS (zJ W2 _)
       intro v3 w3 G f;obtain ⟨Z,Y,rfl,_,_⟩:=G.form zO;have qq:=Fh f I.row.lt zS q4;have zz:=Fk f I.row.lt zS z4;have G3:=I.next f 4 (.slice (some ⟨Z,0,none⟩) (l.length+3) Y);have N3:=I.kn (c:=3) G 4 (.slice (some ⟨Z,0,none⟩) (l.length+3) Y);have H:OI _ B _ _/\_:=⟨I.nh f 4 (.slice (some ⟨Z,0,none⟩) (l.length+3) Y) H.1 (fun y hy=>(H.2 y hy).2),H.2⟩
       have N2:OI _ B _ _/\_:=⟨I.nh f 4 (.slice (some ⟨Z,0,none⟩) (l.length+3) Y) N2.1 (fun y hy=>(N2.2 y hy).2),N2.2⟩
       clear q4 z4 P;go_upto_region 21 with fail
       obtain ⟨U,c9⟩:=qe (w3.setCell ⟨wr.heap.size,4,none⟩ (.slice (some ⟨Z,0,none⟩) (l.length+3) Y));rw [<- c9] at G3 H N2 N3 |-;clear c9 qq zz G f I;have T:=WE u.out a8 X a6 zO hρ L G3 H N2 N3;obtain ⟨ρ2,z⟩:=T;have b0:U.cell? ⟨wr.heap.size,0,none⟩=some (.int .i64 (-((s.CX:Int)+k+1))):=by rw [G3.cell (i:=0) zO];simp [bookF]
       have b1:U.cell? ⟨wr.heap.size,1,none⟩=some (.slice ad l.length l.length):=by rw [G3.cell (i:=1) zO];simp [bookF]
       have b2:U.cell? ⟨wr.heap.size,2,none⟩=some (.slice (some ⟨x1,0,none⟩) (l.length+1) p1):=by rw [G3.cell (i:=2) zO];simp
       have b3:U.cell? ⟨wr.heap.size,3,none⟩=some (.slice (some ⟨x2,0,none⟩) (l.length+2) p2):=by rw [G3.cell (i:=3) zO];simp
       have b4:U.cell? ⟨wr.heap.size,4,none⟩=some (.slice (some ⟨Z,0,none⟩) (l.length+3) Y):=by rw [G3.cell (i:=4) zO];simp
       have c7:U.cell? ⟨C,7,none⟩=some vb:=by rw [z.1.row.cell (i:=7) zO];simp [fld]
       have f7:=z.1.row.frozen 7;have a2:=z.1.row.lt;have e6:=G3.row.lt;have a1:=z.1.OJ;simp only at a1;have f1:=z.1.hB;have c1:vb.ownBlock≠some C:=fun e=>by have h1:=z.1.rb C e;have h2:=z.1.rW;omega
       have e5:J.length<=990000000:=by have:=a3.out;omega
       have S:Hid _:=z;obtain ⟨j0,d8,e0,e1,e2⟩:=yM SD;clear z H N2 N3 L X a8;go_region_law
        ((refine xY _ (by rfl) _ _ _ (by rfl) B 143 j0 _ 5 104 underlying72 d8 e0 e1 e2 rfl zO vb J.length (J.flatMap CQ) (by rfl) ((a1.alloc _).drew) ⟨U.heap.size,0,none⟩ 1 1 [.int .i64 (-((s.CX:Int)+k+1)), .slice ad l.length l.length, .slice (some ⟨x1,0,none⟩) (l.length+1) p1, .slice (some ⟨x2,0,none⟩) (l.length+2) p2, .slice (some ⟨Z,0,none⟩) (l.length+3) Y] (by rfl) (by rfl) (xS (cs:=#[.int .i64 (-((s.CX:Int)+k+1)), .slice ad l.length l.length, .slice (some ⟨x1,0,none⟩) (l.length+1) p1, .slice (some ⟨x2,0,none⟩) (l.length+2) p2, .slice (some ⟨Z,0,none⟩) (l.length+3) Y]) (t:=143) (fr:=(0,0)) (zJ U _)) (by simp [Value.oneCell']) zO (by unfold maxLen;omega) zO (by simp;omega) (U.heap.size+1) zS ?_;intro gg cap w4 a9 A d0 e8;have k7:=SF A a2 c1 c7;have z7:=TA A a2 c1 f7))
       all_goals
        go_wp2_with fail
        have T:=S.out.1.Yf (b:=((-((s.CX:Int)+k+1)),[.slice ad l.length l.length, .slice (some ⟨x1,0,none⟩) (l.length+1) p1, .slice (some ⟨x2,0,none⟩) (l.length+2) p2, .slice (some ⟨Z,0,none⟩) (l.length+3) Y])) A a9 d0 rfl S.out.2.1 S.out.2.2.1;go_roundw
        case rel=>exact ⟨k+1,_,_,_,zO,by go_num,T.1,by have:=a3.out;simp;omega,S.out.2.2.2.trans T.2.2⟩
        case measure=>simp [intOf];omega
    ·obtain rfl:k=s.waits.length:=zO;have T:=YD u.out;go_wp2
     go_ret
     exact ⟨rfl,a0.trans T.2,ρk,vb,J,T.1,a3.out⟩
def Gx(kd a b c:Int)(s:ByteArray)(p:Value):Array Value:=#[.int .i64 kd, .int .i64 a, .int .i64 b, .int .i64 c, .string s,p]
theorem Wp(s:ByteArray)(w:World)(c k:Nat)(hk:k<s.size):(w.alloc (.cells (bytesRow s c) 5 ((bytesRow s c).size,(bytesRow s c).size+1))).drew.cell? ⟨w.heap.size,k,none⟩=some (.int .u8 (bytesOf s k)):=by
 have h1:(w.alloc (.cells (bytesRow s c) 5 ((bytesRow s c).size,(bytesRow s c).size+1))).drew.heap[w.heap.size]?=some (.cells (bytesRow s c) 5 ((bytesRow s c).size,(bytesRow s c).size+1)):=
  zJ w (.cells (bytesRow s c) 5 ((bytesRow s c).size,(bytesRow s c).size+1))
 rw [yA _ _ k _ _ _ h1,bytesRow_at s c k hk];congr 2
 exact Kn s k hk
theorem bL(l:Nat)(a b c:Int)(s:ByteArray)(i:Option Addr)(n j:Nat)(w:World)(hs:s.size<=maxLen) :
  Calls prog 59 #[.pointer (some ⟨l,0,none⟩), .agg (Gx 3 a b c s (.slice i n j))] w fun e g=>e= .returned (.bool true)/\Below w.heap.size w g:=by
 have h:=fun w=>run_bytes_of_string (P:=prog) w 9 34 5 s underlying9 underlying34 underlying5
 unfold Gx;go_enter func59,ntmps59
 go_wp2_with (go_at_call 80;refine (gu s _ hs).mono ?_;rintro e g ⟨rfl,d⟩;have k4:g.cell? ⟨w.heap.size,4,none⟩=some (.string s):=(by rw [d.cell zS];simp);have f:=hid ((zB.alloc zL _).trans (d.mono zS));clear d)
 refine (Xu g.heap.size s.size _ (bytesOf s) _ hs (Pa s) (fun k hk=>Wp s _ _ k hk)).mono ?_;rintro e w2 ⟨rfl,rfl⟩;have Az:Hid (65536*(sxy (bytesOf s) s.size).2+(sxy (bytesOf s) s.size).1=nI s):=rfl;rw [Az.out];go_wp2
 go_ret
 exact ⟨zS,(f.out.alloc f.out.size _).drew⟩
theorem dW(w:World):(binOp .neq 69 (.slice none 0 0) (.slice none 0 0)).run prog w= .ok (.bool false) w:=by
 rw [run_neq_slice_nil_any w 69 3 none 0 0 0 0 underlying69];rfl
theorem Ko(w:World)(ad:Option Addr):Ap w ad []:=fun k hk=>by simp at hk
theorem Ju(w:World):Calls prog 84 #[.slice none 0 0] w fun e a=>e= .returned (.tuple #[.slice none 0 0, .int .i64 10])/\Below w.heap.size w a:=by
 refine (IW none 0 [] w zS (Ko w _)).mono ?_;rintro e a (⟨h,_⟩ | ⟨_,h⟩)
 ·exact absurd h zD
 ·exact h
theorem Hq(w:World):Calls prog 62 #[.slice none 0 0, .slice none 0 0] w fun e a=>e= .returned (.bool true)/\∃ q,a=w.drewN q:=
 NY none none 0 0 [] w zS (Ko w _) (Ko w _)
theorem Fo(h:Below B w w2)(q:Nat):Below B w (w2.drewN q):=⟨h.os,h.tape,h.output,h.size,h.block⟩
theorem OS(B d:Nat)(ρ:Nat->Nat)(s:Aj)(a b c:Int)(t:ByteArray)(V:Option Addr)(X W:Nat)(w:World)(h:Inv B d 0 ρ s w)(hv:s.vl= .slice none 0 0)(Z:s.waits.length<=100000000) :
  Calls prog 59 #[.pointer (some ⟨d,0,none⟩), .agg (Gx 4 a b c t (.slice V X W))] w fun e f=>e= .returned (.bool true)/\Below B w f/\∃ (ρ':Nat->Nat) (s':Aj),Inv B d 0 ρ' s' f/\mH s s'/\s'.vcs=s.vcs/\s'.GQ=s.GQ/\s'.vl=s.vl/\s'.lens=s.lens/\s'.CX<=s.CX+1/\s'.waits.length=s.waits.length+2/\s'.Ay.length<=s.Ay.length+1:=by
 have U:=hid h;have D:=h.row.lt;have c2:w.cell? ⟨d,2,none⟩=some (.slice none 0 0):=by rw [h.row.cell (i:=2) zO];simp [fld,hv]
 have E:=h.Gv;have g:=hid E;have HV:=hid hv;clear h E hv;have Y:=dW;unfold Gx;go_enter func59,ntmps59
 go_wp2_with (go_at_call 82;refine (dF _).mono ?_;rintro e f ⟨rfl,rfl⟩)
 have P:Below w.heap.size w (w.alloc (.cells #[.int .i64 4, .int .i64 a, .int .i64 b, .int .i64 c, .string t, .slice V X W] 79)):=zB.alloc zL _;refine (Jd none 0 _).mono ?_;rintro e w1 ⟨rfl,o⟩;have Q:=Ds P o;clear P o;go_wp2_with fail
 refine (Jd none 0 _).mono ?_;rintro e w2 ⟨rfl,r⟩;have F:=Ds Q r;have O:=(F.cell (p:=⟨d,2,none⟩) D).trans c2;clear Q r;go_wp2_with fail
 refine (Ju _).mono ?_;rintro e w3 ⟨rfl,v⟩;have G:=Ds F v;have j:=(G.cell (p:=⟨d,2,none⟩) D).trans c2;clear F v O;go_wp2_with fail
 refine (bJ d _ _).mono ?_;rintro e f ⟨rfl,rfl⟩;go_wp2_with fail
 refine (Hq _).mono ?_;rintro e f ⟨rfl,q,rfl⟩;go_wp2_with fail
 refine (Hq _).mono ?_;rintro e f ⟨rfl,q2,rfl⟩;go_wp2_with (go_at_call 86;refine (FM _ _).mono ?_;rintro e f ⟨rfl,rfl⟩)
 have R:=Fo G (q+q2);refine (Jd none 0 _).mono ?_;rintro e w4 ⟨rfl,y⟩;have S:=Ds R y;clear G R y j;go_wp2_with fail
 refine (Ju _).mono ?_;rintro e w5 ⟨rfl,z⟩;have T:=Ds S z;clear S z;go_wp2_with fail
 refine (Hq _).mono ?_;rintro e f ⟨rfl,q3,rfl⟩;have H:=Fo T q3;have k:=U.out.below H;have I:=hid (H.mono U.out.hB);clear T H;go_wp2_with (go_at_call 86;refine (FM _ _).mono ?_;rintro e f ⟨rfl,rfl⟩)
 refine (MD B d ρ s _ k (by have:=g.out;omega) zO).mono ?_;rintro e w6 ⟨rfl,A,ρ8,vw,vr,u,l,_,_⟩;have M:Hid _:=l;have J:=hid (I.out.trans A);clear k l A;go_wp2_with fail
 refine (MD B d ρ8 _ _ M.out (by have:=g.out;simp;omega) (by simp;omega)).mono ?_;rintro e w7 ⟨rfl,C,ρ9,a1,a0,u9,n,_,_⟩;have N:Hid _:=n;have L:=hid (J.out.trans C);clear n C;go_wp2
 go_ret
 exact ⟨rfl,L.out,ρ9,_,N.out,⟨rfl,rfl,rfl⟩,rfl,rfl,rfl,rfl,zS,zS,zS⟩
theorem MV(h:w.rowIs g 3 (l.length+n) (fun i=> .int .i64 (Gp l i))):Ap w (some ⟨g,0,none⟩) l:=fun k hk=>by
 refine ⟨g,0,rfl,h.lt,?_⟩;rw [yJ,h.cell zO];unfold Gp;rw [zC hk]
theorem Qd(h:w.rowIs g 3 (n+k) (fun _=> .int .i64 m)):Ap w (some ⟨g,0,none⟩) (List.replicate n m):=fun i hi=>by
 have a:i<n:=by simpa using hi
 refine ⟨g,0,rfl,h.lt,?_⟩;rw [yJ,h.cell zO];simp [a]
theorem Pc(h:Ap w (some ⟨g,0,none⟩) l):∀ (j:Nat) (u:Value),(Al l)[j]?=some u->w.cell? ((⟨g,0,none⟩:Addr).add j)=some u:=by
 intro j u d;have c:j<l.length:=by
  rcases jN j l.length with a | a
  ·exact a
  ·simp [Al,a] at d
 obtain ⟨b,o,e,_,hc⟩:=h j c;simp only [xP,xX,and_true] at e;rw [Ul,e.1,e.2,hc];simpa [Al,c] using d
theorem Ja(a:0<n)(hm:m<0):CT (List.replicate n m)=false:=by
 have:Ae (List.replicate n m)=false:=by
  rw [kU];intro h;have:=kF.1 h m (by simp;omega);simp [De] at this;omega
 simp [CT,this]
theorem Ny(ad:Option Addr)(cap:Nat)(l:List Int)(w:World)(hl:l.length<=9223372036854775807)(hc:Ap w ad l)(h:CT l=false) :
  Calls prog 84 #[.slice ad l.length cap] w fun e b=>e= .returned (.tuple #[.slice none 0 0, .int .i64 10])/\Below w.heap.size w b:=by
 by_cases h1:l.length<=269
 ·refine (IW ad cap l w h1 hc).mono ?_;rintro e b (⟨a,_⟩ | ⟨_,a⟩)
  ·rw [h] at a;simp at a
  ·exact a
 ·exact (Tv ad l.length cap w zO hl).mono fun e b ⟨he,hw⟩=>⟨he,hw ▸ zF _ _⟩
theorem Mu(ad:Option Addr)(cap:Nat)(l:List Int)(w:World)(hl:l.length<=9223372036854775807)(hc:Ap w ad l)(h:CT l=false) :
  Calls prog 83 #[.slice ad l.length cap] w fun e b=>e= .returned (.tuple #[.slice none 0 0, .int .i64 10])/\Below w.heap.size w b:=by
 refine (Pg ad cap l w hl hc).mono ?_;rintro e b (⟨a,_⟩ | ⟨_,a⟩)
 ·rw [h] at a;simp at a
 ·exact a
theorem Ph(ad:Option Addr)(cap n:Nat)(l:List Int)(w:World)(a:l.length=n)(hl:n<=9223372036854775807)(hc:Ap w ad l)(h:CT l=false) :
  Calls prog 83 #[.slice ad n cap] w fun e b=>e= .returned (.tuple #[.slice none 0 0, .int .i64 10])/\Below w.heap.size w b:=by
 subst a;exact Mu ad cap l w hl hc h
theorem Kc(ad:Option Addr)(cap n:Nat)(l:List Int)(w:World)(a:l.length=n)(hl:n<=9223372036854775807)(hc:Ap w ad l)(h:CT l=false) :
  Calls prog 84 #[.slice ad n cap] w fun e b=>e= .returned (.tuple #[.slice none 0 0, .int .i64 10])/\Below w.heap.size w b:=by
 subst a;exact Ny ad cap l w hl hc h
theorem RH(B C:Nat)(ρ:Nat->Nat)(s:Aj)(a b c:Int)(t:ByteArray)(ap:Option Addr)(np cp Q cl:Nat)(w:World)(h:Inv B C 0 ρ s w)(hv:s.vl= .slice (some ⟨Q,0,none⟩) s.lens.length cl)(hn:0<s.lens.length)(u:CT s.lens=false)(d4:s.waits.length<=100000000)(d0:s.Ay.length<=900000000)(d2:s.CX<=900000000) :
  Calls prog 59 #[.pointer (some ⟨C,0,none⟩), .agg (Gx 4 a b c t (.slice ap np cp))] w fun e P=>e= .returned (.bool true)/\Below B w P/\∃ (ρ':Nat->Nat) (s':Aj),Inv B C 0 ρ' s' P/\mH s s'/\s'.vcs=s.vcs/\s'.GQ=s.GQ/\s'.vl=s.vl/\s'.lens=s.lens/\s'.CX<=s.CX+1/\s'.waits.length=s.waits.length+2/\s'.Ay.length<=s.Ay.length+1:=by
 have HI:=hid h;have a7:=h.row.lt;have c2:w.cell? ⟨C,2,none⟩=some (.slice (some ⟨Q,0,none⟩) s.lens.length cl):=by rw [h.row.cell (i:=2) zO];simp [fld,hv]
 have d1:=h.Rh;have Z:=hid h.Gv;have HV:=hid hv;have a6:Ap w (some ⟨Q,0,none⟩) s.lens:=by
  obtain ⟨ad,cap,e,hc⟩:=h.len.cells;have:=hv.symm.trans e;simp only [vO] at this;rw [this.1];exact hc
 have HC:=hid a6;have b7:=h.hB;clear h hv a6;have d3:=dW;unfold Gx;go_enter func59,ntmps59
 go_wp2_with fail
 have B0:Below w.heap.size w (w.alloc (.cells #[.int .i64 4, .int .i64 a, .int .i64 b, .int .i64 c, .string t, .slice ap np cp] 79)):=zB.alloc zL _;refine (SH Q 0 cl s.lens _ zO (HC.out.below B0 zL)).mono ?_;rintro e w1 ⟨rfl,d,a3⟩;obtain ⟨g,hg⟩:=qe ((w.alloc (.cells #[.int .i64 4, .int .i64 a, .int .i64 b, .int .i64 c, .string t, .slice ap np cp] 79)).heap.size);have b9:w.heap.size<g:=by rw [hg];simp
 have B1:=Ds B0 a3;rw [<- hg] at d |-;clear B0 a3 hg;go_wp2_with fail
 refine (Mu (some ⟨g,0,none⟩) (s.lens.length+8) s.lens _ zO (MV d) u).mono ?_;rintro e w2 ⟨rfl,J⟩;have B2:=Ds B1 J;have j:=d.of_block (J.block g d.lt);clear B1 J d;go_wp2_with fail
 refine (Mu (some ⟨g,0,none⟩) (s.lens.length+8) s.lens _ zO (MV j) u).mono ?_;rintro e w3 ⟨rfl,L⟩;have B3:=Ds B2 L;have k:=j.of_block (L.block g j.lt);have b6:=(B3.cell (p:=⟨C,2,none⟩) a7).trans c2;clear B2 L j;go_wp2_with fail
 refine (Ny (some ⟨Q,0,none⟩) cl s.lens _ zO (HC.out.below B3 zL) u).mono ?_;rintro e w4 ⟨rfl,M⟩;have B4:=Ds B3 M;have A:=k.of_block (M.block g k.lt);have a0:=(B4.cell (p:=⟨C,2,none⟩) a7).trans c2;clear B3 M k b6;have a1:=(HI.out.fresh (x:=6) (Nat.le_of_lt b9)).below B4;have b0:=hid (B4.mono b7);clear B4;go_wp2_with fail
 refine (RF B C (setρ ρ g 6) s g Q cl _ a1 HV.out A (setρ_at _ _ _) zO zO zO).mono ?_;rintro e w5 ⟨rfl,a4,ρ5,c5,a2,_,n,_⟩;have b1:=hid (b0.out.trans a4);have W:=hid a2;clear a1 a2 a4 A a0;go_wp2_with fail
 refine (Hq _).mono ?_;rintro e P ⟨rfl,q,rfl⟩;go_wp2_with fail
 refine (Hq _).mono ?_;rintro e P ⟨rfl,R,rfl⟩;obtain ⟨m,hm⟩:∃ m, -((s.CX:Int)+1)=m:=⟨_,rfl⟩
 have c0:m<0:=zO;rw [hm] at n;clear hm;have o:(w5.drewN (q+R)).rowIs g 3 (s.lens.length+8) (fun _=> .int .i64 m):=n;have b8:=o.lt;obtain ⟨i0,hi,c1,c3,c4⟩:=yM Gf;have O:=Qd o;go_upto_region 16 with (first | (go_at_call 86;refine (FM _ _).mono ?_;rintro e P ⟨rfl,rfl⟩) | (at_builtin;refine jI _ rfl (.const (.slice none 0 0)) (.tmp 106) 69 rfl 3 i0 (.int .i64 0) 1 8 underlying69 hi c1 c3 c4 rfl zD none 0 0 [] rfl (fun _=>⟨rfl,rfl⟩) rfl (by intro _ e;simp at e) ⟨g,0,none⟩ s.lens.length (s.lens.length+8) (Al (List.replicate s.lens.length m)) rfl (by simp [Al]) (Pc O) (Yz _) zO (by unfold maxLen;omega) zO ?_;intro v7 w7 z r))
 have f:w7.ownsRow (w5.drewN (q+R)).heap.size 3 1 v7 s.lens.length (Al (List.replicate s.lens.length m)):=by simpa using z
 obtain ⟨g7,p7,rfl,_,_⟩:=f.form zO;have D:=zB.grown r zL (fun x hx=>by simp at hx);have a5:=O.below D zL;have a8:Ap w7 (some ⟨g7,0,none⟩) (List.replicate s.lens.length m):=by
  obtain ⟨ad,cap,e,hc⟩:=OI.cells (w:=w7) (B:=(w5.drewN (q+R)).heap.size) (v:= .slice (some ⟨g7,0,none⟩) s.lens.length p7) (l:=List.replicate s.lens.length m) (by unfold OI;rw [yZ];exact f);simp only [vO] at e;rw [e.1];exact hc
 have b2:=hid ((Fo b1.out (q+R)).trans (D.mono (W.out.drewN (q+R)).hB));have X:=hid ((W.out.drewN (q+R)).below D);have y:=Ja hn c0;clear z f r O o n b8 D;go_wp2_with fail
 refine (Ph (some ⟨g,0,none⟩) (s.lens.length+8) s.lens.length (List.replicate s.lens.length m) _ yZ zO a5 y).mono ?_;rintro e w8 ⟨rfl,E⟩;have a9:=a8.below E zL;have b3:=hid (b2.out.trans (E.mono X.out.hB));have Y:=hid (X.out.below E);clear a8 a5 E;go_wp2_with fail
 refine (Kc (some ⟨g7,0,none⟩) p7 s.lens.length (List.replicate s.lens.length m) _ yZ zO a9 y).mono ?_;rintro e w9 ⟨rfl,N⟩;have b4:=hid (b3.out.trans (N.mono Y.out.hB));have b5:=hid (Y.out.below N);clear a9 N;go_wp2_with fail
 refine (Hq _).mono ?_;rintro e P ⟨rfl,q3,rfl⟩;go_wp2_with (go_at_call 86;refine (FM _ _).mono ?_;rintro e P ⟨rfl,rfl⟩)
 refine (MD B C ρ5 (Eo s g c5) _ (b5.out.drewN q3) (by have:=Z.out;simp [Eo];omega) (by simp [Eo];omega)).mono ?_;rintro e d7 ⟨rfl,H,ρ10,c8,c6,d5,F,_,_⟩;have U:Hid _:=F;have S:=hid ((Fo b4.out q3).trans H);clear F H;go_wp2_with fail
 refine (MD B C ρ10 _ _ U.out (by have:=Z.out;simp [Eo];omega) (by simp [Eo];omega)).mono ?_;rintro e d8 ⟨rfl,I,ρ11,c9,c7,d6,G,_,_⟩;have V:Hid _:=G;have T:=hid (S.out.trans I);clear G I;go_wp2
 go_ret
 exact ⟨rfl,T.out,ρ11,_,V.out,⟨rfl,rfl,rfl⟩,rfl,rfl,rfl,rfl,by simp [Eo],by simp [Eo],by simp [Eo]⟩
theorem Tn{B' c:Nat}(h:w.ownsRow B' 3 1 (.slice (some ⟨g,0,none⟩) n c) l.length (Al l))(hB:B<=B'):OI w B (.slice (some ⟨g,0,none⟩) n c) l:=by
 refine ⟨h.1,?_⟩;rcases h.2 with hn | ⟨g,cap,cur,e,a,rest⟩
 ·exact .inl hn
 ·exact .inr ⟨g,cap,cur,e,zG hB a,rest⟩
theorem Ii(h:OI w B v l)(a:Below w.heap.size w w'):OI w' B v l:=As (R:=fun _=>False) (ρ:=fun _=>0) h (Kp.Bk a) (fun _ _ x=>x)
theorem Jn(h:OI w B v l)(q:Nat):OI (w.drewN q) B v l:=h
theorem QT{c:Nat}(h:OI w B (.slice ad n c) l):Ap w ad l:=by
 obtain ⟨ad',cap,e,hc⟩:=h.cells;simp only [vO] at e;rw [e.1];exact hc
theorem Iu(h:CT l=true):l.length<=269:=by simp [CT] at h;exact h.1.1
theorem Pj(ad:Option Addr)(cap:Nat)(l:List Int)(w:World)(hl:l.length<=9223372036854775807)(hc:Ap w ad l)(h:CT l=true) :
  Calls prog 83 #[.slice ad l.length cap] w fun e b=>∃ g,e= .returned (.tuple #[.slice (some ⟨g,0,none⟩) l.length l.length, .int .i64 0])/\w.heap.size<=g/\b.ownsRow w.heap.size 3 1 (.slice (some ⟨g,0,none⟩) l.length l.length) (Ct l).length (Al (Ct l))/\Below w.heap.size w b:=by
 refine (Pg ad cap l w hl hc).mono ?_;rintro e b (⟨_,g,he,d,a,j⟩ | ⟨c,_⟩)
 ·refine ⟨g,he,d,?_,j⟩;have f:=EL l;have:=OI.Tm (w:=b) (B:=w.heap.size) (g:=g) (l:=Ct l) (n:=l.length) d f (by have:=Iu h;unfold maxLen;omega) (a.congr (fun i hi=>by rw [TS l i hi]));unfold OI at this;rw [f] at this |-;exact this
 ·rw [h] at c;simp at c
theorem Tx(ad:Option Addr)(cap:Nat)(l:List Int)(w:World)(hc:Ap w ad l)(h:CT l=true) :
  Calls prog 84 #[.slice ad l.length cap] w fun e d=>∃ g c,e= .returned (.tuple #[.slice (some ⟨g,0,none⟩) l.length c, .int .i64 0])/\w.heap.size<=g/\d.ownsRow w.heap.size 3 1 (.slice (some ⟨g,0,none⟩) l.length c) (Ct l).length (Al (Ct l))/\Below w.heap.size w d:=by
 refine (IW ad cap l w (Iu h) hc).mono ?_;rintro e d (⟨_,v,he,hv,n⟩ | ⟨j,_⟩)
 ·have p:Ae l=true:=by simp [CT] at h;exact h.1.2
  have a:0<l.length:=by
   rcases jA l.length with b | b
   ·have:l=[]:=vV.1 b;subst this;rw [KX] at h;simp at h
   ·exact b
  obtain ⟨g,c,f,o,_⟩:=hv.form a;have k:FR l l.length=Ct l:=by
   unfold FR Ct;apply List.map_congr_left;intro i hi;exact iN p (by simpa using hi)
  refine ⟨g,c,by rw [he,f],o,?_,n⟩;rw [k,f] at hv;rw [EL];exact hv
 ·rw [h] at j;simp at j
theorem dv(ad b:Option Addr)(cap a n:Nat)(l:List Int)(w:World)(c:l.length=n)(hl:n<=9223372036854775807)(hc:Ap w ad l)(hd:Ap w b l) :
  Calls prog 62 #[.slice ad n cap, .slice b n a] w fun e d=>e= .returned (.bool true)/\∃ q,d=w.drewN q:=by
 subst c;exact NY ad b cap a l w hl hc hd
theorem Ns(B b:Nat)(ρ:Nat->Nat)(s:Aj)(g n:Nat)(l:List Int)(w:World)(j:l.length=n)(h:Inv B b 0 ρ s w)(i:OI w B (.slice (some ⟨g,0,none⟩) n n) l)(hl:0<n)(c:n<=269)(hρ:5 < ρ g/\ρ g<9)(d:s.CO.length<=1000000000)(a:s.waits.length<=1000000000) :
  Calls prog 87 #[.pointer (some ⟨b,0,none⟩), .slice (some ⟨g,0,none⟩) n n] w fun e f=>e= .returned (.tuple #[])/\Below B w f/\∃ (ρ':Nat->Nat) (vw vr u:Value),Inv B b 0 ρ' { s with vw:=vw,waits:=s.waits++[(.slice (some ⟨g,0,none⟩) n n,l)],vr:=vr,CO:=s.CO++[u] } f/\Kp (fun r=>r=2\/r=3\/r=5) ρ w f/\(∀ k,k<w.heap.size->k≠g->ρ' k=ρ k):=by
 subst j;exact aP B b ρ s g l w h i hl c hρ d a
theorem OT(B J:Nat)(ρ:Nat->Nat)(s:Aj)(a b c:Int)(t:ByteArray)(ap:Option Addr)(np cp gl cl:Nat)(w:World)(h:Inv B J 0 ρ s w)(hv:s.vl= .slice (some ⟨gl,0,none⟩) s.lens.length cl)(hn:0<s.lens.length)(n:CT s.lens=true)(h0:s.waits.length<=100000000)(g1:s.Ay.length<=900000000)(g8:s.CX<=900000000) :
  Calls prog 59 #[.pointer (some ⟨J,0,none⟩), .agg (Gx 4 a b c t (.slice ap np cp))] w fun e w'=>e= .returned (.bool true)/\Below B w w'/\∃ (ρ':Nat->Nat) (s':Aj),Inv B J 0 ρ' s' w'/\mH s s'/\s'.vcs=s.vcs/\s'.GQ=s.GQ/\s'.vl=s.vl/\s'.lens=s.lens/\s'.CX<=s.CX+1/\s'.waits.length=s.waits.length+2/\s'.Ay.length<=s.Ay.length+1:=by
 have HI:=hid h;have c7:=h.row.lt;have c2:w.cell? ⟨J,2,none⟩=some (.slice (some ⟨gl,0,none⟩) s.lens.length cl):=by rw [h.row.cell (i:=2) zO];simp [fld,hv]
 have g6:=h.Rh;have b3:=hid h.Gv;have HV:=hid hv;have c5:Ap w (some ⟨gl,0,none⟩) s.lens:=by
  obtain ⟨ad,cap,e,hc⟩:=h.len.cells;have:=hv.symm.trans e;simp only [vO] at this;rw [this.1];exact hc
 have HC:=hid c5;have L:=h.hB;clear h hv c5;have g9:=dW;unfold Gx;go_enter func59,ntmps59
 go_wp2_with fail
 have B0:Below w.heap.size w (w.alloc (.cells #[.int .i64 4, .int .i64 a, .int .i64 b, .int .i64 c, .string t, .slice ap np cp] 79)):=zB.alloc zL _;refine (SH gl 0 cl s.lens _ zO (HC.out.below B0 zL)).mono ?_;rintro e w1 ⟨rfl,d,c1⟩;obtain ⟨g,hg⟩:=qe ((w.alloc (.cells #[.int .i64 4, .int .i64 a, .int .i64 b, .int .i64 c, .string t, .slice ap np cp] 79)).heap.size);have g5:w.heap.size<g:=by rw [hg];simp
 have B1:=Ds B0 c1;rw [<- hg] at d |-;clear B0 c1 hg;go_wp2_with fail
 refine (Pj (some ⟨g,0,none⟩) (s.lens.length+8) s.lens _ zO (MV d) n).mono ?_;rintro e w2 ⟨D,rfl,g3,a0,a2⟩;have B2:=Ds B1 a2;have j:=d.of_block (a2.block g d.lt);have f4:=d.lt;have b5:=zG L B1.size;have e5:D<w2.heap.size:=Bj a0 rfl;clear B1 a2 d;go_wp2_with fail
 refine (Pj (some ⟨g,0,none⟩) (s.lens.length+8) s.lens _ zO (MV j) n).mono ?_;rintro e w3 ⟨gb,rfl,g2,a1,F⟩;have B3:=Ds B2 F;have o:=j.of_block (F.block g j.lt);have P:OI w3 B (.slice (some ⟨D,0,none⟩) s.lens.length s.lens.length) (Ct s.lens):=As (R:=fun _=>False) (ρ:=ρ) (Tn a0 b5) (Kp.Bk F) (fun _ _ x=>x);have Q:=Tn a1 (zG L B2.size);have e3:=(B3.cell (p:=⟨J,2,none⟩) c7).trans c2;have e4:gb<w3.heap.size:=Bj a1 rfl;have f5:=F.size;clear B2 F j a0 a1;go_wp2_with fail
 refine (Tx (some ⟨gl,0,none⟩) cl s.lens _ (HC.out.below B3 zL) n).mono ?_;rintro e w4 ⟨gd,cd,rfl,g4,c0,z⟩;have B4:=Ds B3 z;have I:=o.of_block (z.block g o.lt);have b4:=(B4.cell (p:=⟨J,2,none⟩) c7).trans c2;have W:OI w4 B (.slice (some ⟨D,0,none⟩) s.lens.length s.lens.length) (Ct s.lens):=As (R:=fun _=>False) (ρ:=ρ) P (Kp.Bk z) (fun _ _ x=>x);have Y:OI w4 B (.slice (some ⟨gb,0,none⟩) s.lens.length s.lens.length) (Ct s.lens):=As (R:=fun _=>False) (ρ:=ρ) Q (Kp.Bk z) (fun _ _ x=>x);have b6:=Tn c0 (zG L B3.size);have f6:=z.size;clear B3 z o e3 P Q c0;obtain ⟨ρ1,hρ1⟩:∃ ρ1:Nat->Nat,ρ1=setρ (setρ (setρ (setρ ρ g 6) D 7) gb 8) gd 0:=⟨_,rfl⟩
 have r1:ρ1 g=6:=by rw [hρ1,setρ_ne zO,setρ_ne zO,setρ_ne zO,setρ_at]
 have r2:ρ1 D=7:=by rw [hρ1,setρ_ne zO,setρ_ne zO,setρ_at]
 have r3:ρ1 gb=8:=by rw [hρ1,setρ_ne zO,setρ_at]
 have r4:ρ1 gd=0:=by rw [hρ1,setρ_at]
 have b8:=(HI.out.Hx (ρ':=ρ1) (fun k hk _=>by rw [hρ1,setρ_ne zO,setρ_ne zO,setρ_ne zO,setρ_ne zO])).below B4;have d0:=hid (B4.mono L);clear B4 hρ1;go_wp2_with fail
 refine (RF B J ρ1 s g gl cl _ b8 HV.out I r1 zO zO zO).mono ?_;rintro e w5 ⟨rfl,c3,ρ5,f2,b9,M,r,hρ5⟩;have d1:=hid (d0.out.trans c3);have b0:=hid b9;have X:OI w5 B (.slice (some ⟨D,0,none⟩) s.lens.length s.lens.length) (Ct s.lens):=As W M (fun x hx=>by simp [Value.ownBlock] at hx;subst hx;omega);have Z:OI w5 B (.slice (some ⟨gb,0,none⟩) s.lens.length s.lens.length) (Ct s.lens):=As Y M (fun x hx=>by simp [Value.ownBlock] at hx;subst hx;omega);have b7:OI w5 B (.slice (some ⟨gd,0,none⟩) s.lens.length cd) (Ct s.lens):=As b6 M (fun x hx=>by simp [Value.ownBlock] at hx;subst hx;omega);have p2:ρ5 D=7:=by rw [hρ5 D (Bj W rfl) zO];exact r2
 have p3:ρ5 gb=8:=by rw [hρ5 gb (Bj Y rfl) zO];exact r3
 have kc:=QT X;have kb:=QT Z;have kd:=QT b7;have d5:=hid X;have d9:=hid Z;have HP:=CL p2 p3;have c6:D≠gb:=zO;clear b8 b9 c3 I b4 W Y b6 X Z b7 M hρ5 r1 r2 r3 r4 p2 p3;go_wp2_with fail
 refine (dv (some ⟨D,0,none⟩) (some ⟨gd,0,none⟩) s.lens.length cd s.lens.length (Ct s.lens) _ (EL _) zO kc kd).mono ?_;rintro e w' ⟨rfl,q,rfl⟩;go_wp2_with fail
 refine (dv (some ⟨gb,0,none⟩) (some ⟨gd,0,none⟩) s.lens.length cd s.lens.length (Ct s.lens) (w5.drewN q) (EL _) zO (kb.same rfl) (kd.same rfl)).mono ?_;rintro e w' ⟨rfl,V,rfl⟩;obtain ⟨m,hm⟩:∃ m, -((s.CX:Int)+1)=m:=⟨_,rfl⟩
 have e7:m<0:=zO;rw [hm] at r;clear hm;have u:(w5.drewN (q+V)).rowIs g 3 (s.lens.length+8) (fun _=> .int .i64 m):=r;have e6:=u.lt;obtain ⟨i0,hi,e8,e9,f0⟩:=yM Gf;have a3:=Qd u;go_upto_region 16 with (first | (go_at_call 86;refine (FM _ _).mono ?_;rintro e w' ⟨rfl,rfl⟩) | (at_builtin;refine jI _ rfl (.const (.slice none 0 0)) (.tmp 106) 69 rfl 3 i0 (.int .i64 0) 1 8 underlying69 hi e8 e9 f0 rfl zD none 0 0 [] rfl (fun _=>⟨rfl,rfl⟩) rfl (by intro _ e;simp at e) ⟨g,0,none⟩ s.lens.length (s.lens.length+8) (Al (List.replicate s.lens.length m)) rfl (by simp [Al]) (Pc a3) (Yz _) zO (by unfold maxLen;omega) zO ?_;intro v7 w7 H y))
 have f:w7.ownsRow (w5.drewN (q+V)).heap.size 3 1 v7 s.lens.length (Al (List.replicate s.lens.length m)):=by simpa using H
 obtain ⟨g7,p7,rfl,_,_⟩:=f.form zO;have A:=zB.grown y zL (fun x hx=>by simp at hx);have c4:=a3.below A zL;have c8:Ap w7 (some ⟨g7,0,none⟩) (List.replicate s.lens.length m):=by
  obtain ⟨ad,cap,e,hc⟩:=OI.cells (w:=w7) (B:=(w5.drewN (q+V)).heap.size) (v:= .slice (some ⟨g7,0,none⟩) s.lens.length p7) (l:=List.replicate s.lens.length m) (by unfold OI;rw [yZ];exact f);simp only [vO] at e;rw [e.1];exact hc
 have d2:=hid ((Fo d1.out (q+V)).trans (A.mono (b0.out.drewN (q+V)).hB));have b1:=hid ((b0.out.drewN (q+V)).below A);have E:=Ja hn e7;have d6:=hid (Ii (Jn d5.out (q+V)) A);have e0:=hid (Ii (Jn d9.out (q+V)) A);clear H f y a3 u r e6 A kc kb kd;go_wp2_with fail
 refine (Ph (some ⟨g,0,none⟩) (s.lens.length+8) s.lens.length (List.replicate s.lens.length m) _ yZ zO c4 E).mono ?_;rintro e w8 ⟨rfl,C⟩;have c9:=c8.below C zL;have d3:=hid (d2.out.trans (C.mono b1.out.hB));have b2:=hid (b1.out.below C);have d7:=hid (Ii d6.out C);have e1:=hid (Ii e0.out C);clear c8 c4 C;go_wp2_with fail
 refine (Kc (some ⟨g7,0,none⟩) p7 s.lens.length (List.replicate s.lens.length m) _ yZ zO c9 E).mono ?_;rintro e w9 ⟨rfl,G⟩;have d4:=hid (d3.out.trans (G.mono b2.out.hB));have e2:=hid (b2.out.below G);have d8:=hid (Ii d7.out G);have a7:=hid (Ii e1.out G);clear c9 G;go_wp2_with fail
 refine (Hq _).mono ?_;rintro e w' ⟨rfl,q3,rfl⟩;go_wp2_with (go_at_call 86;refine (FM _ _).mono ?_;rintro e w' ⟨rfl,rfl⟩)
 refine (Ns B J ρ5 (Eo s g f2) D s.lens.length (Ct s.lens) _ (EL _) (e2.out.drewN q3) (Jn d8.out q3) hn (Iu n) (by rw [HP.out.1];omega) (by have:=b3.out;simp [Eo];omega) (by simp [Eo];omega)).mono ?_;rintro e f3 ⟨rfl,S,ρ10,f9,f7,h1,N,U,hρ10⟩;have a8:Hid _:=N;have a4:=hid ((Fo d4.out q3).trans S);have a6:Hid (OI f3 B (.slice (some ⟨gb,0,none⟩) s.lens.length s.lens.length) (Ct s.lens)):=As (Jn a7.out q3) U (fun x hx=>by simp [Value.ownBlock] at hx;subst hx;rw [HP.out.2];omega);have f1:ρ10 gb=8:=by rw [hρ10 gb (Bj (Jn a7.out q3) rfl) (zY c6)];exact HP.out.2
 clear N S U hρ10;go_wp2_with fail
 refine (Ns B J ρ10 _ gb s.lens.length (Ct s.lens) _ (EL _) a8.out a6.out hn (Iu n) (by rw [f1];omega) (by have:=b3.out;simp [Eo];omega) (by simp [Eo];omega)).mono ?_;rintro e h3 ⟨rfl,T,ρ11,g0,f8,h2,O,_,_⟩;have a9:Hid _:=O;have a5:=hid (a4.out.trans T);clear O T;go_wp2
 go_ret
 exact ⟨rfl,a5.out,ρ11,_,a9.out,⟨rfl,rfl,rfl⟩,rfl,rfl,rfl,rfl,by simp [Eo],by simp [Eo],by simp [Eo]⟩
structure Wc(s s':Aj):Prop where
 st:mH s s'
 cs:s'.vcs=s.vcs
 ss:s'.GQ=s.GQ
 ln:s'.lens.length<=s.lens.length+1
 CX:s'.CX<=s.CX+1
 wt:s'.waits.length<=s.waits.length+2
 bk:s'.Ay.length<=s.Ay.length+1
theorem Wc.refl(s:Aj):Wc s s:=⟨⟨rfl,rfl,rfl⟩,rfl,rfl,zO,zO,zO,zO⟩
theorem Ll(s:Aj)(v:Value)(l:List Int)(i:Nat)(hi:i<9):(if i=2 then v else fld s i)=fld { s with vl:=v,lens:=l } i:=by
 have:i=0\/i=1\/i=2\/i=3\/i=4\/i=5\/i=6\/i=7\/i=8:=zO;rcases this with rfl | rfl | rfl | rfl | rfl | rfl | rfl | rfl | rfl <;> simp [fld]
theorem Inv.dy{ρ':Nat->Nat}(h:Inv B gW d ρ s w)(hk:Kp (fun r=>r=1\/r=5) ρ w w')(j:w'.rowIs gW 75 9 (fld { s with vl:=v,lens:=l }))
  (t:OI w' B v l) (hv:∀ g,v.ownBlock=some g->ρ' g=1) (hρ:∀ k,k<w.heap.size->ρ' k=ρ k) (hl:l.length<=100000000) (q:v= .slice none 0 0\/0<l.length):Inv B gW d ρ' { s with vl:=v,lens:=l } w':=by
 have a:=h.Hx (ρ':=ρ') (fun k hk _=>hρ k hk);have e:Kp (fun r=>r=1\/r=5) ρ' w w':=hk.congr (fun k hk=>by rw [hρ k hk];exact fun x=>x);exact {
  gB:=h.gB
  hB:=zG h.hB e.size
  row:=j
  len:=t
  PA:=As a.PA e (fun g c f=>by have:=a.Ke g c;omega)
  RL:=As a.RL e (fun g c f=>by have:=a.rr g c;omega)
  OJ:=As a.OJ e (fun g c f=>by have:=a.rb g c;omega)
  Gv:=h.Gv
  wt:=fun i hi hd=>⟨As (a.wt i hi hd).1 e (fun g c f=>by have:=a.OD i hi hd g c;omega),(a.wt i hi hd).2⟩
  wr:=fun i hi p=>As (a.wr i hi p) e (fun g c f=>by have:=a.OO _ (yD hi) g c;omega)
  bk:=fun b o=>⟨(a.bk b o).1,fun x hx=>by
   obtain ⟨n,q⟩:=(a.bk b o).2 x hx;exact ⟨n,As q e (fun g c f=>by have:=a.NV b o x hx g c;omega)⟩⟩
  rW:=a.rW
  rl:=hv
  Ke:=a.Ke
  rr:=a.rr
  rb:=a.rb
  OD:=a.OD
  OO:=a.OO
  NV:=a.NV
  Vp:=h.Vp
  Rh:=hl
  UY:=q
  UQ:=h.UQ
  UZ:=fun x hx=>Nd (a.UZ x hx) e (fun f=>by have:=a.Qe x hx;omega)
  Qe:=a.Qe }
theorem dE{x:Int}(h:Inv B gW d ρ s w)
  (b:(w.alloc o).drew.grownBy w1 s.vl.ownBlock) (j:w1.ownsRow B 3 1 (.slice (some ⟨gg,0,none⟩) (s.lens.length+1) cap) (s.lens.length+1) (Al s.lens++[.int .i64 x]))
  (f:s.vl.ownBlock=some gg\/gg=w.heap.size+1) (hl:s.lens.length+1<=100000000) :
  Below B w (w1.setCell ⟨gW,2,none⟩ (.slice (some ⟨gg,0,none⟩) (s.lens.length+1) cap))/\
  Inv B gW d (setρ ρ gg 1) { s with vl:= .slice (some ⟨gg,0,none⟩) (s.lens.length+1) cap,lens:=s.lens++[x] } (w1.setCell ⟨gW,2,none⟩ (.slice (some ⟨gg,0,none⟩) (s.lens.length+1) cap)):=by
 have l:Kp (fun r=>r=1) ρ w w1:=by
  have a:Kp (fun r=>r=1) ρ w (w.alloc o).drew:=Kp.Bk ((zB.alloc zL o).drew);exact a.trans (Kp.QS b (fun g c=>h.rl g c))
 have k2:Kp (fun r=>r=1\/r=5) ρ w (w1.setCell ⟨gW,2,none⟩ (.slice (some ⟨gg,0,none⟩) (s.lens.length+1) cap)):=
  (l.mono (fun _ x=>Or.inl x)).trans (Kp.Dm w1 _ _ (Or.inr h.rW))
 have p:gg≠gW:=by
  rcases f with e | e
  ·intro n;have:=h.rl gg e;rw [n,h.rW] at this;omega
  ·have:=h.row.lt;omega
 refine ⟨?_,h.dy k2 (((ER h.row l (by rw [h.rW];omega)).set 2 _).congr (fun i hi=>Ll s _ _ i hi)) ?_ (fun g c=>by simp [Value.ownBlock] at c;subst c;exact setρ_at _ _ _) (fun k hk=>?_) (by simpa using hl) (Or.inr zS)⟩
 ·have a:=(zB.alloc h.hB o).drew;exact (a.grown b (by have:=h.hB;simp;omega) (fun g c=>(h.len.lt g c).1)).setCell h.gB _
 ·have e:Al (s.lens++[x])=Al s.lens++[.int .i64 x]:=by simp [Al]
  unfold OI;rw [e];simp only [zI,yG,xA,yJ];exact As (R:=fun k=>k=gW) (ρ:=fun k=>k) j ⟨by simp [World.setCell],fun k _ hk=>zZ _ _ _ _ hk⟩ (fun g c=>by simp [Value.ownBlock] at c;omega)
 ·by_cases e:k=gg
  ·subst e;rcases f with e | e
   ·rw [setρ_at,h.rl _ e]
   ·omega
  ·exact setρ_ne e
theorem So(B d:Nat)(ρ:Nat->Nat)(s:Aj)(a b c:Int)(t:ByteArray)(j:Option Addr)(n k:Nat)(w:World)(h:Inv B d 0 ρ s w) :
  Calls prog 34 #[.pointer (some ⟨d,0,none⟩), .agg (Gx 2 a b c t (.slice j n k))] w fun e o=>e= .returned (.bool true)/\Below B w o/\∃ (ρ':Nat->Nat) (s':Aj),Inv B d 0 ρ' s' o/\Wc s s':=by
 have f:=hid h;have y:=h.row.lt;have A:Below w.heap.size w (w.alloc (.cells #[.int .i64 2, .int .i64 a, .int .i64 b, .int .i64 c, .string t, .slice j n k] 79)):=zB.alloc zL _;have c2:w.cell? ⟨d,2,none⟩=some s.vl:=h.row.cell (i:=2) zO;have C:=h.row.frozen 2;unfold Gx;clear h;go_enter func34,ntmps34
 go_wp2
 go_ret
 have z:Kp (fun r=>r=1\/r=5) ρ w (w.setCell ⟨d,2,none⟩ (.slice none 0 0)):=Kp.Dm w _ _ (Or.inr f.out.rW);have q:=f.out.dy (ρ':=ρ) (v:= .slice none 0 0) (l:=[]) z ((f.out.row.set 2 _).congr (fun i hi=>Ll s _ _ i hi)) (OI.nil _ _) (fun g u=>by simp [Value.ownBlock] at u) (fun _ _=>rfl) zS (Or.inl rfl);have p:Below B w (w.setCell ⟨d,2,none⟩ (.slice none 0 0)):=zB.setCell f.out.gB _;exact ⟨rfl,p.alloc (by have:=f.out.hB;simp [World.setCell];omega) _,ρ,_,q.below (zB.alloc zL _),⟨⟨rfl,rfl,rfl⟩,rfl,rfl,zS,zS,zS,zS⟩⟩
theorem OF(B l:Nat)(ρ:Nat->Nat)(s:Aj)(a b c:Int)(t:ByteArray)(q:Option Addr)(A r:Nat)(w:World)(h:Inv B l 0 ρ s w)(J:s.lens.length<=90000000) :
  Calls prog 34 #[.pointer (some ⟨l,0,none⟩), .agg (Gx 1 a b c t (.slice q A r))] w fun e D=>e= .returned (.bool true)/\Below B w D/\∃ (ρ':Nat->Nat) (s':Aj),Inv B l 0 ρ' s' D/\Wc s s':=by
 obtain ⟨g,f⟩:=qe (w.alloc (.cells #[.int .i64 1, .int .i64 a, .int .i64 b, .int .i64 c, .string t, .slice q A r] 79));have p:Below w.heap.size w g:=by rw [f];exact zB.alloc zL _
 have j:=h.below p;have F:=hid j;have E:=hid (p.mono h.hB);have n:=j.row.lt;have H:=j.hB;have c2:g.cell? ⟨l,2,none⟩=some s.vl:=j.row.cell (i:=2) zO;have G:=j.row.frozen 2;have o:g.ownsRow B 3 1 s.vl s.lens.length (Al s.lens):=j.len;have C:s.vl.ownBlock≠some l:=fun e=>by have h1:=j.rl l e;have h2:=j.rW;omega
 have M:g.cell? ⟨w.heap.size,1,none⟩=some (.int .i64 a):=by
  have h1:g.heap[w.heap.size]?=some (.cells #[.int .i64 1, .int .i64 a, .int .i64 b, .int .i64 c, .string t, .slice q A r] 79 (0,0)):=by rw [f];exact zJ w _
  rw [yA _ _ 1 _ _ _ h1];rfl
 have I:w.heap.size<g.heap.size:=by rw [f];simp
 clear h j p;unfold Gx;obtain ⟨i0,hi,v,y,z⟩:=yM Gf;go_enter func34,ntmps34
 go_upto_region 2 with fail
 rw [<- f];clear f;go_region_law
  ((refine xY _ (by rfl) _ _ _ (by rfl) B 3 i0 _ 1 8 underlying69 hi v y z rfl zO s.vl s.lens.length (Al s.lens) (by rfl) ((o.alloc _).drew) ⟨g.heap.size,0,none⟩ 1 1 [.int .i64 a] (by rfl) (by rfl) (yX g _ _) (by simp [Value.oneCell']) zO (by unfold maxLen;omega) zO (by simp;omega) (g.heap.size+1) zS ?_;intro N cap w1 k d u L;have k2:=SF d n C c2;have z2:=TA d n C G))
 all_goals go_wp2_with fail
 all_goals go_ret
 all_goals
  have T:=dE F.out d k u zO;exact ⟨rfl,E.out.trans T.1,_,_,T.2,⟨⟨rfl,rfl,rfl⟩,rfl,rfl,zS,zS,zS,zS⟩⟩
theorem Qm(B d:Nat)(ρ:Nat->Nat)(s:Aj)(kd a b c:Int)(t:ByteArray)(i:Option Addr)(k j:Nat)(w:World)(h:Inv B d 0 ρ s w)(hk:kd<=0) :
  Calls prog 34 #[.pointer (some ⟨d,0,none⟩), .agg (Gx kd a b c t (.slice i k j))] w fun e l=>e= .returned (.bool true)/\Below B w l/\∃ (ρ':Nat->Nat) (s':Aj),Inv B d 0 ρ' s' l/\Wc s s':=by
 have g:=hid h;have f:Hid (Below w.heap.size w (w.alloc (.cells #[.int .i64 kd, .int .i64 a, .int .i64 b, .int .i64 c, .string t, .slice i k j] 79))):=zB.alloc zL _;unfold Gx;clear h;have t1:(kd==1)=false:=by simp;omega
 have t2:(kd==2)=false:=by simp;omega
 have t3:(kd==8)=false:=by simp;omega
 have t4:decide (3<=kd)=false:=by simp;omega
 have t5:decide (8<kd)=false:=by simp;omega
 go_enter func34,ntmps34
 go_wp2
 go_ret
 exact ⟨rfl,f.out.mono g.out.hB,ρ,s,g.out.below f.out,Wc.refl s⟩
theorem YO(B d:Nat)(ρ:Nat->Nat)(s:Aj)(kd a b c:Int)(t:ByteArray)(f:Option Addr)(i g:Nat)(w:World)(h:Inv B d 0 ρ s w)(hk:kd<3)(j:s.lens.length<=90000000) :
  Calls prog 34 #[.pointer (some ⟨d,0,none⟩), .agg (Gx kd a b c t (.slice f i g))] w fun e k=>e= .returned (.bool true)/\Below B w k/\∃ (ρ':Nat->Nat) (s':Aj),Inv B d 0 ρ' s' k/\Wc s s':=by
 have h3:kd<=0\/kd=1\/kd=2:=zO;rcases h3 with h3 | rfl | rfl
 ·exact Qm B d ρ s kd a b c t f i g w h h3
 ·exact OF B d ρ s a b c t f i g w h j
 ·exact So B d ρ s a b c t f i g w h
theorem eJ(B g:Nat)(ρ:Nat->Nat)(s:Aj)(a b c:Int)(t:ByteArray)(i:Option Addr)(k j:Nat)(w:World)(h:Inv B g 0 ρ s w)(p:t.size<=maxLen) :
  Calls prog 34 #[.pointer (some ⟨g,0,none⟩), .agg (Gx 3 a b c t (.slice i k j))] w fun e n=>e= .returned (.bool true)/\Below B w n/\∃ (ρ':Nat->Nat) (s':Aj),Inv B g 0 ρ' s' n/\Wc s s':=by
 have l:=hid h;have o:Hid (Below w.heap.size w (w.alloc (.cells #[.int .i64 3, .int .i64 a, .int .i64 b, .int .i64 c, .string t, .slice i k j] 79))):=zB.alloc zL _;clear h;unfold Gx;go_enter func34,ntmps34
 go_wp2_with fail
 refine (bL g a b c t i k j _ p).mono ?_;rintro e w1 ⟨rfl,f⟩;have d:=hid (Ds o.out f);clear f;go_wp2
 go_ret
 exact ⟨rfl,d.out.mono l.out.hB,ρ,s,l.out.below d.out,Wc.refl s⟩
theorem WX(B f:Nat)(ρ:Nat->Nat)(s:Aj)(a b c:Int)(t:ByteArray)(n:Option Addr)(q o:Nat)(w:World)(h:Inv B f 0 ρ s w)(j:s.waits.length<=100000000)(k:s.Ay.length<=900000000)(l:s.CX<=900000000) :
  Calls prog 59 #[.pointer (some ⟨f,0,none⟩), .agg (Gx 4 a b c t (.slice n q o))] w fun e i=>e= .returned (.bool true)/\Below B w i/\∃ (ρ':Nat->Nat) (d:Aj),Inv B f 0 ρ' d i/\Wc s d:=by
 have fin:∀ (e:Ending) (i:World),(e= .returned (.bool true)/\Below B w i/\∃ (ρ':Nat->Nat) (d:Aj),Inv B f 0 ρ' d i/\mH s d/\d.vcs=s.vcs/\d.GQ=s.GQ/\d.vl=s.vl/\d.lens=s.lens/\d.CX<=s.CX+1/\d.waits.length=s.waits.length+2/\d.Ay.length<=s.Ay.length+1)->(e= .returned (.bool true)/\Below B w i/\∃ (ρ':Nat->Nat) (d:Aj),Inv B f 0 ρ' d i/\Wc s d):=by
  rintro e i ⟨he,z,ρ',d,y,a0,u,a2,_,a4,a5,A,v⟩;exact ⟨he,z,ρ',d,y,⟨a0,u,a2,by rw [a4];omega,a5,zO,v⟩⟩
 by_cases p:0<s.lens.length
 ·obtain ⟨r,cl,hv,_,_⟩:=kK h.len p;cases g:CT s.lens
  ·exact (RH B f ρ s a b c t n q o r cl w h hv p g j k l).mono fin
  ·exact (OT B f ρ s a b c t n q o r cl w h hv p g j k l).mono fin
 ·have hv:s.vl= .slice none 0 0:=by
   rcases h.UY with e | e
   ·exact e
   ·exact absurd e p
  exact (OS B f ρ s a b c t n q o w h hv j).mono fin
theorem YN(B i:Nat)(ρ:Nat->Nat)(s:Aj)(a b c:Int)(t:ByteArray)(n:Option Addr)(u o:Nat)(w:World)(h:Inv B i 0 ρ s w)(r:s.waits.length<=100000000)(p:s.Ay.length<=900000000)(q:s.CX<=900000000) :
  Calls prog 34 #[.pointer (some ⟨i,0,none⟩), .agg (Gx 4 a b c t (.slice n u o))] w fun e z=>e= .returned (.bool true)/\Below B w z/\∃ (ρ':Nat->Nat) (s':Aj),Inv B i 0 ρ' s' z/\Wc s s':=by
 have y:=hid h;have v:Hid (Below w.heap.size w (w.alloc (.cells #[.int .i64 4, .int .i64 a, .int .i64 b, .int .i64 c, .string t, .slice n u o] 79))):=zB.alloc zL _;clear h;unfold Gx;go_enter func34,ntmps34
 go_wp2_with fail
 refine (WX B i ρ s a b c t n u o _ (y.out.below v.out) r p q).mono ?_;rintro e w1 ⟨rfl,f,ρ1,A,d,g⟩;have j:=hid ((v.out.mono y.out.hB).trans f);have k:=hid d;have l:=hid g;clear f d g;go_wp2
 go_ret
 exact ⟨rfl,j.out,ρ1,A,k.out,l.out⟩
theorem Ma(B d:Nat)(ρ:Nat->Nat)(s:Aj)(kd a b c:Int)(t:ByteArray)(f:Option Addr)(i g:Nat)(w:World)(h:Inv B d 0 ρ s w)(hk:kd<=4)(p:t.size<=maxLen)(k:s.lens.length<=90000000)(n:s.waits.length<=100000000)(j:s.Ay.length<=900000000)(l:s.CX<=900000000) :
  Calls prog 34 #[.pointer (some ⟨d,0,none⟩), .agg (Gx kd a b c t (.slice f i g))] w fun e o=>e= .returned (.bool true)/\Below B w o/\∃ (ρ':Nat->Nat) (s':Aj),Inv B d 0 ρ' s' o/\Wc s s':=by
 have:kd<=0\/kd=1\/kd=2\/kd=3\/kd=4:=zO;rcases this with h0 | rfl | rfl | rfl | rfl
 ·exact Qm B d ρ s kd a b c t f i g w h h0
 ·exact OF B d ρ s a b c t f i g w h k
 ·exact So B d ρ s a b c t f i g w h
 ·exact eJ B d ρ s a b c t f i g w h p
 ·exact YN B d ρ s a b c t f i g w h n j l
def QY:Array Value:=#[.int .i64 0, .int .i64 9, .int .i64 9, .int .i64 9, .int .i64 1, .int .i64 9, .int .i64 99]
theorem gQ(w:World):Calls prog 32 #[] w fun e a=>e= .returned (.agg QY)/\a=w.alloc (.cells QY 42):=by
 go_enter func32,ntmps32
 go_wp2_with fail
 exact zX (v:= .agg QY) (by simp [results,results32,go_sem,QY]) rfl ⟨rfl,rfl⟩
def iK:List (Int×Int×Int×Int×ByteArray):=
 [(3,0,0,0,⟨#[97]⟩),(1,1,0,0,⟨#[]⟩),(1,1,0,0,⟨#[]⟩),(4,0,0,0,⟨#[]⟩),(1,1,0,0,⟨#[]⟩),(4,0,0,0,⟨#[]⟩),(2,0,0,0,⟨#[]⟩),
  (5,0,0,0,⟨#[1,2,0,253,255,104,105]⟩),(5,0,0,0,⟨#[7]⟩),(7, -1,0,0,⟨#[1,2,0,253,255,104,105]⟩),(7,1,0,0,⟨#[115,1,1,2,0,253,255,104,105,1,59,0,210]⟩),
  (8, -1, -1,0,⟨#[]⟩),(10,0,6,2,⟨#[]⟩),(11,0,1,0,⟨#[]⟩),(10,0,1,0,⟨#[]⟩),(12,0,0,0,⟨#[]⟩),(13,0,0,0,⟨#[]⟩),(11,0,9,0,⟨#[]⟩)]
def SS(l:List (Int×Int×Int×Int×ByteArray)):List Value:=l.flatMap fun x=>[.int .i64 x.1, .int .i64 x.2.1, .int .i64 x.2.2.1, .int .i64 x.2.2.2.1, .string x.2.2.2.2, .slice none 0 0]
def Er:Array Value:=(SS iK).toArray
theorem Vs(w:World):Calls prog 33 #[] w fun e a=>e= .returned (.slice (some ⟨w.heap.size,0,none⟩) 18 18)/\a=w.alloc (.cells Er 79):=by
 go_enter func33,ntmps33
 go_wp2
 go_ret
 exact ⟨rfl,rfl⟩
theorem Nr:(prog.info? 42).map (fun i=>(i.zero,i.size,i.bytes))=some (some (.agg #[.int .i64 0, .int .i64 0, .int .i64 0, .int .i64 0, .int .i64 0, .int .i64 0, .int .i64 0]),7,56):=zK
theorem Jj:(prog.info? 9).map (fun i=>(i.zero,i.size,i.bytes))=some (some (.string ⟨#[]⟩),1,16):=zK
theorem Gl{P:Program}{ops:Array Oper}{o:Oper}{a:Go.Act}{K:Go.Act->World->Prop}{Q:Exit->Go.Act->World->Prop}(g:o.guard=none)
  (f:FuncId) (args:Array Value) (b:(execOp a.eval o).run P w= .ok (.enter f args) w) (v:Value) (d:World)
  (hc:Calls P f args w fun e c=>e= .returned v/\c=d) (h:K (a.put o.dst v) d) :
  if Region.wanted o (yielded ops a.tmps)=true then Oper.wp P o a w K Q else E:=by
 have hw:Region.wanted o (yielded ops a.tmps)=true:=by simp [Region.wanted,g]
 rw [zC hw];unfold Oper.wp;rw [b,Oper.upon_enter];refine hc.mono fun e c i=>?_
 obtain ⟨rfl,rfl⟩:=i;exact h
theorem eI{ops:Array Oper}{o:Oper}{a:Go.Act}{K:Go.Act->World->Prop}{Q:Exit->Go.Act->World->Prop}(c:o.guard=none)(_ho:o.op= .call { callee:= .value (.func 32),args:=#[],argTypes:=#[] })
  (b:(execOp a.eval o).run prog w= .ok (.enter 32 #[]) w)
  (h:K (a.put o.dst (.agg #[.int .i64 0, .int .i64 9, .int .i64 9, .int .i64 9, .int .i64 1, .int .i64 9, .int .i64 99])) (w.alloc (.cells #[.int .i64 0, .int .i64 9, .int .i64 9, .int .i64 9, .int .i64 1, .int .i64 9, .int .i64 99] 42))) :
  if Region.wanted o (yielded ops a.tmps)=true then Oper.wp prog o a w K Q else E:=
 Gl c _ _ b _ _ (gQ w) h
def DS(vcs GQ:Value)(still:List (Nat×Obj)):Aj:={ vcs:=vcs,GQ:=GQ,vl:= .slice none 0 0,lens:=[],CX:=0,vw:= .slice none 0 0,waits:=[],vr:= .slice none 0 0,CO:=[],vb:= .slice none 0 0,Ay:=[],still:=still,DZ:= .slice none 0 0,Ec:= .slice none 0 0 }
theorem Inv.nP{vcs GQ:Value}{still:List (Nat×Obj)}(h5:ρ w.heap.size=5)(f:∀ x∈still,ρ x.1=9)(c:Below w.heap.size w W)(d:W.rowIs w.heap.size 75 9 (fld (DS vcs GQ still)))
  (e:∀ x∈still,W.heap[x.1]?=some x.2):Inv w.heap.size w.heap.size 0 ρ (DS vcs GQ still) W where
 gB:=zE _
 hB:=c.size
 row:=d
 len:=OI.nil _ _
 PA:=yU _ _ _ _
 RL:=yU _ _ _ _
 OJ:=yU _ _ _ _
 Gv:=rfl
 wt:=fun i hi=>by simp [DS] at hi
 wr:=fun i hi=>by simp [DS] at hi
 bk:=fun b c=>by simp [DS] at c
 rW:=h5
 rl:=fun g a=>by simp [DS,Value.ownBlock] at a
 Ke:=fun g a=>by simp [DS,Value.ownBlock] at a
 rr:=fun g a=>by simp [DS,Value.ownBlock] at a
 rb:=fun g a=>by simp [DS,Value.ownBlock] at a
 OD:=fun i hi=>by simp [DS] at hi
 OO:=fun v hv=>by simp [DS] at hv
 NV:=fun b c=>by simp [DS] at c
 Vp:=by simp [DS]
 Rh:=by simp [DS]
 UY:=Or.inl rfl
 UQ:=fun i hi=>by simp [DS] at hi
 UZ:=e
 Qe:=f
theorem OL(W:World)(o a:Obj):((W.alloc o).alloc a).drew.heap[W.heap.size+1]?=some a:=by
 have h:=zJ (W.alloc o) a;have e:(W.alloc o).heap.size=W.heap.size+1:=zS;rw [e] at h;exact h
theorem jb{row:Option Nat}(h:((W.alloc o).alloc o').drew.grownBy w' row)(a:g<W.heap.size)(b:row≠some g)(hc:W.cell? ⟨g,k,none⟩=some v):w'.cell? ⟨g,k,none⟩=some v:=by
 rw [yV ((h.block g (by simp;omega) (fun e=>b e.symm)).trans ((yK (W.alloc o) o' g (by simp;omega)).trans (yK W o g a)))];exact hc
theorem ly{row:Option Nat}(h:((W.alloc o).alloc o').drew.grownBy w' row)(a:g<W.heap.size)(b:row≠some g)(hc:W.frozen? ⟨g,k,none⟩=false):w'.frozen? ⟨g,k,none⟩=false:=by
 rw [kL ((h.block g (by simp;omega) (fun e=>b e.symm)).trans ((yK (W.alloc o) o' g (by simp;omega)).trans (yK W o g a)))];exact hc
def iT:Nat->Value:=fld (DS (.slice none 0 0) (.slice none 0 0) [])
theorem ee(w:World):(w.alloc (.cells #[.slice none 0 0, .slice none 0 0, .slice none 0 0, .slice none 0 0, .int .i64 0, .slice none 0 0, .slice none 0 0, .slice none 0 0, .slice none 0 0] 75)).rowIs w.heap.size 75 9 iT:=
 yL w _ _ _ (fun i hi=>by
  simp at hi;have:i=0\/i=1\/i=2\/i=3\/i=4\/i=5\/i=6\/i=7\/i=8:=zO;rcases this with rfl | rfl | rfl | rfl | rfl | rfl | rfl | rfl | rfl <;> rfl)
theorem ML{e:TypeId}{x:Addr}(h:w.ownsRow B e sz (.slice (some x) n cap) n xs):n<=cap:=by
 rcases h.2 with ⟨hv,_⟩ | ⟨g,c,cur,hv,_,_,a,_⟩
 ·simp at hv
 ·simp at hv;omega
theorem XI(a b v:Value)(st:List (Nat×Obj))(i:Nat)(hi:i<9):(if i=0 then v else fld (DS a b st) i)=fld (DS v b st) i:=by
 have:i=0\/i=1\/i=2\/i=3\/i=4\/i=5\/i=6\/i=7\/i=8:=zO;rcases this with rfl | rfl | rfl | rfl | rfl | rfl | rfl | rfl | rfl <;> simp [fld,DS]
theorem XJ(a b v:Value)(st:List (Nat×Obj))(i:Nat)(hi:i<9):(if i=1 then v else fld (DS a b st) i)=fld (DS a v st) i:=by
 have:i=0\/i=1\/i=2\/i=3\/i=4\/i=5\/i=6\/i=7\/i=8:=zO;rcases this with rfl | rfl | rfl | rfl | rfl | rfl | rfl | rfl | rfl <;> simp [fld,DS]
theorem iy{a:Value}{st:List (Nat×Obj)}(f:W.rowIs w.heap.size 75 9 (fld (DS a b st)))(d:Below w.heap.size w W)(c:((W.alloc o).alloc o').drew.grownBy w1 none) :
  (w1.setCell ⟨w.heap.size,0,none⟩ v).rowIs w.heap.size 75 9 (fld (DS v b st))/\Below w.heap.size w (w1.setCell ⟨w.heap.size,0,none⟩ v):=by
 have e:=f.lt;refine ⟨((f.of_block ((c.block _ (by simp;omega) zS).trans ((yK (W.alloc o) o' _ (by simp;omega)).trans (yK W o _ e)))).set 0 v).congr (fun i hi=>XI a b v st i hi),?_⟩;have h:=((d.alloc d.size o).alloc (by have:=d.size;simp;omega) o').drew;exact (h.grown c (by have:=d.size;simp;omega) (fun g j=>by simp at j)).setCell zL v
theorem iz{a:Value}{st:List (Nat×Obj)}(f:W.rowIs w.heap.size 75 9 (fld (DS a b st)))(d:Below w.heap.size w W)(c:(W.alloc o).grownBy w1 none) :
  (w1.setCell ⟨w.heap.size,1,none⟩ v).rowIs w.heap.size 75 9 (fld (DS a v st))/\Below w.heap.size w (w1.setCell ⟨w.heap.size,1,none⟩ v):=by
 have e:=f.lt;refine ⟨((f.of_block ((c.block _ (by simp;omega) zS).trans (yK W o _ e))).set 1 v).congr (fun i hi=>XJ a b v st i hi),?_⟩;have h:=d.alloc d.size o;exact (h.grown c (by have:=d.size;simp;omega) (fun g j=>by simp at j)).setCell zL v
theorem gN(k:Nat)(hk:k<18):∃ (kd a b c:Int) (t:ByteArray),Er[k*6]?=some (.int .i64 kd)/\Er[k*6+1]?=some (.int .i64 a)/\Er[k*6+2]?=some (.int .i64 b)/\Er[k*6+3]?=some (.int .i64 c)/\Er[k*6+4]?=some (.string t)/\Er[k*6+5]?=some (.slice none 0 0)/\t.size<=maxLen:=by
 have:k=0\/k=1\/k=2\/k=3\/k=4\/k=5\/k=6\/k=7\/k=8\/k=9\/k=10\/k=11\/k=12\/k=13\/k=14\/k=15\/k=16\/k=17:=zO;rcases this with rfl | rfl | rfl | rfl | rfl | rfl | rfl | rfl | rfl | rfl | rfl | rfl | rfl | rfl | rfl | rfl | rfl | rfl <;> exact ⟨_,_,_,_,_,rfl,rfl,rfl,rfl,rfl,rfl,zD⟩
theorem Inv.same(h:Inv B gW 0 ρ s w):Inv B gW 0 ρ s (w.setCell ⟨gW,i,none⟩ (fld s i))/\Below B w (w.setCell ⟨gW,i,none⟩ (fld s i)):=by
 refine ⟨h.marked (m:=s.CX) (R:=fun r=>r=5) (Kp.Dm w _ _ h.rW) (fun r a=>zO) zL ((h.row.set i _).congr (fun j _=>?_)) h.Vp,zB.setCell h.gB _⟩;by_cases e:j=i
 ·rw [zC e,e]
 ·rw [zA e]
structure en(k:Nat)(s:Aj):Prop where
 ln:s.lens.length<=k+18
 wt:s.waits.length<=2*k+36
 mm:s.CX+s.waits.length<=3*k+54
 bk:s.Ay.length+s.waits.length<=3*k+54
 tx:s.Ec= .slice none 0 0/\s.DZ= .slice none 0 0
open Go.RowKit Go.Deep
theorem Ms:prog.cellsOf 3=1:=zK
theorem Mt:prog.cellsOf 9=1:=zK
theorem Pd:prog.cellsOf 30=1:=zK
theorem Lg:prog.cellsOf 79=6:=zK
theorem bn(d:DataW H):1<=Rows.uptoBulk d:=by
 cases d with
 | lit l=>cases l <;> simp [Rows.uptoBulk]
 | _=>simp [Rows.uptoBulk]
theorem Nk(l:List (DataW H)):l.length<=Rows.uptoBulkAll l:=by
 induction l with
 | nil=>simp [Rows.uptoBulkAll]
 | cons x r ih=>have:=bn x;simp only [Rows.uptoBulkAll,yG];omega
theorem mi{enc:TypeId×Value->H}{base:Nat}{spare:Nat->Bool}{held:Bool}{cs:List Value}{x:DataW H×List MemPlace}(h:DataW.trod enc prog W base spare held n 79 cs=some x) :
  ∃ (kd a b c:Int) (t:ByteArray) (f:Option Addr) (j g:Nat),cs=[.int .i64 kd, .int .i64 a, .int .i64 b, .int .i64 c, .string t, .slice f j g]/\t.size<=maxLen:=by
 obtain ⟨z,k,hk,C,hlen,l,d⟩:=BG underlying79 h;rw [Lg] at hlen;have i:z.length=6:=l;match z,i,cs,hlen with
 | [y0,y1,y2,y3,y4,y5],_,[v0,v1,v2,v3,v4,v5],_=>
  have g0:=d 0 _ rfl;have u:=d 1 _ rfl;have g2:=d 2 _ rfl;have v:=d 3 _ rfl;have w:=d 4 _ rfl;have y:=d 5 _ rfl;simp [Ms,Mt,Pd] at g0 u g2 v w y;obtain ⟨z0,o,_,_⟩:=xF underlying3 g0;obtain ⟨D,p,_,_⟩:=xF underlying3 u;obtain ⟨z2,q,_,_⟩:=xF underlying3 g2;obtain ⟨z3,r,_,_⟩:=xF underlying3 v;obtain ⟨t,s,_,B⟩:=DataW.trod_string underlying9 w;obtain ⟨f,j,g,A⟩:∃ f j g,v5= .slice f j g:=by
   rcases DataW.trod_slice underlying30 y with ⟨e,_⟩ | ⟨a,len,cap,_,_,_,_,e,_⟩
   ·exact ⟨none,0,0,by simpa using e⟩
   ·exact ⟨some a,len,cap,by simpa using e⟩
  simp at o p q r s;exact ⟨z0,D,z2,z3,t,f,j,g,by rw [o,p,q,r,s,A],B⟩
end Go.Proofs.YtbcjmakpempkiaaGreatDoor
