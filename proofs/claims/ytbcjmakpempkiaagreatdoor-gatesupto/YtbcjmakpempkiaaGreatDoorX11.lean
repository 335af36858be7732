import Derived.Test.YtbcjmakpempkiaaGreatDoorX08
set_option maxRecDepth 100000
set_option maxHeartbeats 8000000
set_option linter.all false
namespace Go.Proofs.YtbcjmakpempkiaaGreatDoor
variable {l:List Int} {k m n p x:Nat} {w wr:World} {v1 v2 v3 v4:Value}
open Go.Proofs.Tryz
open Go.RowKit
namespace Gs
theorem four(k:Nat):∃ (v1:Int) (v2:Bool) (v3 v4:Int),EU k=#[.int .i64 v1, .bool v2, .int .i64 v3, .int .i64 v4]:=by
 unfold EU;(repeat' split) <;> exact ⟨_,_,_,_,rfl⟩
def Jm(wr:World)(p n:Nat)(l:List Int):World:=
 (((wr.setCell ⟨p,37,none⟩ (.slice (some ⟨wr.heap.size,0,none⟩) n n)).alloc (.cells (madeCells #[.int .i64 0, .bool false, .int .i64 0, .int .i64 0] (n*4)) 127)).alloc (.cells (arr (fun _=>0)) 197)).setRow (wr.heap.size+1) (arr (bsum l))
def KA(j:Nat):Value:=if j%4=1 then .bool false else .int .i64 0
theorem dM(w:World)(n:Nat)(t:TypeId):(w.alloc (.cells (madeCells #[.int .i64 0, .bool false, .int .i64 0, .int .i64 0] (n*4)) t)).rowIs w.heap.size t (n*4) KA:=by
 have:=yL w (madeCells #[.int .i64 0, .bool false, .int .i64 0, .int .i64 0] (n*4)) t KA (fun i hi=>by
  have h2:i<n*4:=by simpa [vL] using hi
  have h3:i%4=0\/i%4=1\/i%4=2\/i%4=3:=zO;rcases h3 with h3 | h3 | h3 | h3 <;> simp [madeCells,KA,h2,h3])
 rwa [vL] at this
theorem IK(wr:World)(p n:Nat):((((wr.setCell ⟨p,37,none⟩ (.slice (some ⟨wr.heap.size,0,none⟩) n n)).alloc (.cells (madeCells #[.int .i64 0, .bool false, .int .i64 0, .int .i64 0] (n*4)) 127)).alloc (.cells (arr (fun _=>0)) 197)).heap[wr.heap.size+1]?)=some (.cells (arr (fun _=>0)) 197):=by
 have:=heap_alloc2_new (wr.setCell ⟨p,37,none⟩ (.slice (some ⟨wr.heap.size,0,none⟩) n n)) (.cells (madeCells #[.int .i64 0, .bool false, .int .i64 0, .int .i64 0] (n*4)) 127) (.cells (arr (fun _=>0)) 197);simpa using this
theorem Ho{Cq fst:Nat->Int}{lg:Nat}(h:wr.rowIs p 265 38 (LS Cq fst (FT l 12) lg (.slice none 0 0)))(a:Below w.heap.size w wr)(hp:w.heap.size<=p) :
  (Jm wr p n l).rowIs p 265 38 (LS Cq fst (FT l 12) lg (.slice (some ⟨wr.heap.size,0,none⟩) n n))/\(Jm wr p n l).rowIs wr.heap.size 127 (n*4) KA/\
  (Jm wr p n l).rowIs (wr.heap.size+1) 197 12 (fun j=> .int .i64 (bsum l j))/\Below w.heap.size w (Jm wr p n l):=by
 have hl:=h.lt;have b:(wr.setCell ⟨p,37,none⟩ (.slice (some ⟨wr.heap.size,0,none⟩) n n)).heap.size=wr.heap.size:=zS;have hs:=a.size;refine ⟨?_,?_,?_,?_⟩
 ·exact (((Rp _ h).alloc _).alloc _).of_block (xD _ _ _ _ zO)
 ·have:=(dM (wr.setCell ⟨p,37,none⟩ (.slice (some ⟨wr.heap.size,0,none⟩) n n)) n 127).alloc (.cells (arr (fun _=>0)) 197);rw [b] at this;exact this.of_block (xD _ _ _ _ zO)
 ·exact ⟨arr (bsum l),xK _ _ _ _ _ _ (IK wr p n),rfl,fun i hi=>Hz _ _ hi⟩
 ·exact xN (((a.setCell (p:=⟨p,37,none⟩) hp _).alloc (by rw [b];exact hs) _).alloc (by simp;omega) _) zO _
def Cx(l:List Int)(f:Nat->Value)(k:Nat):Prop:=∀ i,i<k->0<l.getD i 0->#[f (pos l i*4),f (pos l i*4+1),f (pos l i*4+2),f (pos l i*4+3)]=EU i
theorem Cx.skip{f:Nat->Value}(h:Cx l f k)(a:l.getD k 0=0):Cx l f (k+1):=fun i hi h0=>by
 by_cases e:i=k
 ·subst e;omega
 ·exact h i zO h0
theorem Cx.step{f:Nat->Value}(h:Cx l f k)(hl:l.length<=269)(A:Ae l=true)(hk:k<l.length)(hx:l[k]=(x:Int))(h0:0<x)(u:x<12)(hv:EU k=#[v1,v2,v3,v4]) :
  Cx l (fun j=>if j=pos l k*4+3 then v4 else if j=pos l k*4+2 then v3 else if j=pos l k*4+1 then v2 else if j=pos l k*4 then v1 else f j) (k+1):=fun i hi hp=>by
 by_cases e:i=k
 ·subst e;simp [hv]
 ·have n:i<k:=zO;have g:i<l.length:=zO;obtain ⟨y,v,o⟩:∃ y:Nat,l[i]=(y:Int)/\y<12:=by
   have:=(EV l).1 A l[i] (yD g);exact ⟨l[i].toNat,zO,zO⟩
  have B:l.getD i 0=(y:Int):=by simp [g,v]
  have ne:=Xn n hk g v hx hl zO o h0 u;have z:=h i n hp;rw [<- z];have q:∀ j,pos l i*4<=j->j<pos l i*4+4->(if j=pos l k*4+3 then v4 else if j=pos l k*4+2 then v3 else if j=pos l k*4+1 then v2 else if j=pos l k*4 then v1 else f j)=f j:=fun j h1 h2=>by
   rw [zA zO,zA zO,zA zO,zA zO]
  have w:∀ a b c d p r s t:Value,a=p->b=r->c=s->d=t->#[a,b,c,d]=#[p,r,s,t]:=by intro a b c d p r s t h1 h2 h3 h4;rw [h1,h2,h3,h4]
  exact w _ _ _ _ _ _ _ _ (q _ zO zO) (q _ zO zO) (q _ zO zO) (q _ zO zO)
theorem CR{i j l:Nat}{v u x y:Value}{q:Addr}(h:q.block≠m):((((w.setCell ⟨m,i,none⟩ v).setCell ⟨m,j,none⟩ u).setCell ⟨m,k,none⟩ x).setCell ⟨m,l,none⟩ y).cell? q=w.cell? q:=
 (((vE _ _ _ _ (zY h)).trans (vE _ _ _ _ (zY h))).trans (vE _ _ _ _ (zY h))).trans (vE _ _ _ _ (zY h))
theorem Ig{w7:World}{P:Nat}{F:Nat->Value}{f:Nat->Value}(g:wr.rowIs p 265 38 F)(h:wr.rowIs m 127 (n*4) f)(i:wr.rowIs (m+1) 197 12 (fun j=> .int .i64 (bsum l j+cn (l.take k) j)))
  (o:Below w.heap.size w wr) (d:Below wr.heap.size wr w7) (hk:k<l.length) (hx:l[k]=(x:Int)) (h0:0<x) (_h12:x<12) (b:p≠m) (c:p≠m+1) (_hp:w.heap.size<=p) (hm:w.heap.size<=m) (q:bsum l x+cn (l.take k) x=(pos l k:Int)) (hP:P=pos l k) :
  (((((w7.setCell ⟨m,P*4,none⟩ v1).setCell ⟨m,P*4+1,none⟩ v2).setCell ⟨m,P*4+2,none⟩ v3).setCell ⟨m,P*4+3,none⟩ v4).setCell ⟨m+1,x,none⟩ (.int .i64 (P+1))).rowIs p 265 38 F/\
  (((((w7.setCell ⟨m,P*4,none⟩ v1).setCell ⟨m,P*4+1,none⟩ v2).setCell ⟨m,P*4+2,none⟩ v3).setCell ⟨m,P*4+3,none⟩ v4).setCell ⟨m+1,x,none⟩ (.int .i64 (P+1))).rowIs m 127 (n*4) (fun j=>if j=P*4+3 then v4 else if j=P*4+2 then v3 else if j=P*4+1 then v2 else if j=P*4 then v1 else f j)/\
  (((((w7.setCell ⟨m,P*4,none⟩ v1).setCell ⟨m,P*4+1,none⟩ v2).setCell ⟨m,P*4+2,none⟩ v3).setCell ⟨m,P*4+3,none⟩ v4).setCell ⟨m+1,x,none⟩ (.int .i64 (P+1))).rowIs (m+1) 197 12 (fun j=> .int .i64 (bsum l j+cn (l.take (k+1)) j))/\
  Below w.heap.size w (((((w7.setCell ⟨m,P*4,none⟩ v1).setCell ⟨m,P*4+1,none⟩ v2).setCell ⟨m,P*4+2,none⟩ v3).setCell ⟨m,P*4+3,none⟩ v4).setCell ⟨m+1,x,none⟩ (.int .i64 (P+1))):=by
 have e:(P:Int)+1=bsum l x+cn (l.take k) x+1:=zO;refine ⟨?_,?_,?_,?_⟩
 ·exact (((((Dc g d g.lt).setOther (a:=⟨m,P*4,none⟩) b _).setOther (a:=⟨m,P*4+1,none⟩) b _).setOther (a:=⟨m,P*4+2,none⟩) b _).setOther (a:=⟨m,P*4+3,none⟩) b _).setOther (a:=⟨m+1,x,none⟩) c _
 ·exact (((((Dc h d h.lt).set (P*4) _).set (P*4+1) _).set (P*4+2) _).set (P*4+3) _).setOther (a:=⟨m+1,x,none⟩) zS _
 ·rw [e];exact Ol hk hx h0 (((((Dc i d i.lt).setOther (a:=⟨m,P*4,none⟩) zS _).setOther (a:=⟨m,P*4+1,none⟩) zS _).setOther (a:=⟨m,P*4+2,none⟩) zS _).setOther (a:=⟨m,P*4+3,none⟩) zS _)
 ·exact (((((o.trans (d.mono o.size)).setCell (p:=⟨m,P*4,none⟩) hm _).setCell (p:=⟨m,P*4+1,none⟩) hm _).setCell (p:=⟨m,P*4+2,none⟩) hm _).setCell (p:=⟨m,P*4+3,none⟩) hm _).setCell (p:=⟨m+1,x,none⟩) (by show w.heap.size<=m+1;omega) _
theorem cv:(prog.info? 127).map (fun i=>(i.zero,i.size,i.bytes))=some (some (.agg #[.int .i64 0, .bool false, .int .i64 0, .int .i64 0]),4,32):=zK
theorem make(n:Nat)(c:n<=12000000)(w:World):(Instr.makeSlice 263 (.int .i64 (n:Int)) (.int .i64 (n:Int))).run prog w= .ok (.slice (some ⟨w.heap.size,0,none⟩) n n) (w.alloc (.cells (madeCells #[.int .i64 0, .bool false, .int .i64 0, .int .i64 0] (n*4)) 127)):=by
 obtain ⟨i,hi,a⟩:=kW.1 cv;simp only [vF] at a;have b:=run_make (P:=prog) w 263 127 i _ underlying263 hi a.1 .i64 .i64 n n zO (kT _) (by rw [a.2.2];omega) zO;simp only [jW,a.2.1] at b;exact b
theorem Ir(f g:Nat->Int)(w:World):(Instr.build 265 #[(0, .agg (arr f)),(1, .agg (arr g))]).run prog w= .ok (.agg (Hu f g)) w:=zK
theorem Me(f g:Nat->Int)(w:World):(Instr.box 265 (.agg (Hu f g))).run prog w= .ok (.pointer (some ⟨w.heap.size,0,none⟩)) (w.alloc (.cells (Hu f g) 265)):=zK
theorem QQ(ad:Option Addr)(cap:Nat)(l:List Int)(w:World)(b5:l.length<=269)(hc:Ap w ad l)(hr:Ae l=true) :
  Calls prog 168 #[.slice ad l.length cap, .func (.func 169) #[] #[]] w fun e w'=>∃ (p m n:Nat) (f:Nat->Value),e= .returned (.pointer (some ⟨p,0,none⟩))/\bsum l 12=n/\
   It w' 265 4 p m n (cn l) (fc (cn l)) (FT l 12) (EB l 12) (fun j=>[f (j*4),f (j*4+1),f (j*4+2),f (j*4+3)])/\Cx l f l.length/\w.heap.size<=p/\w.heap.size<=m/\Below w.heap.size w w':=by
 have hl:l.length<=269:=zO;have HC:=hid hc;have HB:=hid (FV hl);go_enter func168,ntmps168
 go_wp2_with fail
 refine (El ad cap l _ zO hc hr).mono ?_;rintro e w1 ⟨rfl,N⟩;have D:=hid N;clear N hc;go_wp2_with (first | (refine yS rfl 199 _ _ rfl _ _ rfl rfl 199 _ (zJ _ _) (GU _) rfl (FZ _) ?_;rw [vN]))
 have hW:(w1.alloc (.cells (arr (cn l)) 199)).heap[w1.heap.size]?=some (.cells (arr (cn l)) 199):=zJ _ _;have HW:Hid (Below w.heap.size w (w1.alloc (.cells (arr (cn l)) 199))):=D.out.alloc D.out.size _;have M:w1.heap.size<(w1.alloc (.cells (arr (cn l)) 199)).heap.size:=zS;generalize w1.alloc (.cells (arr (cn l)) 199)=W at *;have O:=Ir (cn l) (fc (cn l));have a6:=Me (cn l) (fc (cn l));unfold arr at O;generalize hg:w1.heap.size=g at *;clear hg;go_region_held3 (fun u=>u.cell? ⟨g,0,none⟩=some (.int .i64 (cn l 0))/\u.cell? ⟨g,1,none⟩=some (.int .i64 (cn l 1))/\u.cell? ⟨g,2,none⟩=some (.int .i64 (cn l 2))/\u.cell? ⟨g,3,none⟩=some (.int .i64 (cn l 3))/\u.cell? ⟨g,4,none⟩=some (.int .i64 (cn l 4))/\u.cell? ⟨g,5,none⟩=some (.int .i64 (cn l 5))/\u.cell? ⟨g,6,none⟩=some (.int .i64 (cn l 6))/\u.cell? ⟨g,7,none⟩=some (.int .i64 (cn l 7))/\u.cell? ⟨g,8,none⟩=some (.int .i64 (cn l 8))/\u.cell? ⟨g,9,none⟩=some (.int .i64 (cn l 9))/\u.cell? ⟨g,10,none⟩=some (.int .i64 (cn l 10))/\u.cell? ⟨g,11,none⟩=some (.int .i64 (cn l 11))) (first | exact MW (w:=W.drew) hW | exact MW B | exact MW ((xQ _ _ Q).trans B))
  (first | (go_at_call 151;refine (GA (cn l) _ HB.out).mono ?_;rintro e H ⟨rfl,A⟩;have B:=(A.block _ M).trans hW;have Q:=zM M A.size;unfold arr))
 have E:=hid (HW.out.drew.trans (A.mono HW.out.size));have a5:=hid B;clear A B hW O a6 HW D;have a9:(H.alloc (.cells (Hu (cn l) (fc (cn l))) 265)).rowIs H.heap.size 265 38 (LS (cn l) (fc (cn l)) (FT l 0) (EB l 0) (.slice none 0 0)):=Qt _ _ _;have L:(H.alloc (.cells (Hu (cn l) (fc (cn l))) 265)).heap[g]?=some (.cells (arr (cn l)) 199):=(xQ _ _ Q).trans a5.out;have a4:Hid (Below w.heap.size w (H.alloc (.cells (Hu (cn l) (fc (cn l))) 265))):=E.out.alloc E.out.size _;have y:=E.out.size;have hi:=idx (cn l);unfold Hu at *;generalize H.alloc _=w4 at *;generalize H.heap.size=p at *;go_wp2_with (refine yT rfl 197 _ rfl _ rfl 199 (arr (cn l)) (0,0) _ L underlying197 rfl (FU _) ?_)
 go_loopw [7,22] (fun t i wr=>∃ k:Nat,k<=12/\i= .int .i64 k/\t= .int .i64 (bsum l k)/\wr.rowIs p 265 38 (LS (cn l) (fc (cn l)) (FT l k) (EB l k) (.slice none 0 0))/\Below w.heap.size w wr) (fun _ i _=>12 - (intOf i).toNat)
 case atStart=>exact ⟨0,zH _,rfl,rfl,a9,a4.out⟩
 case round=>
  obtain ⟨k,hk,rfl,rfl,a,r⟩:=hrel;by_cases d:k<12
  ·have b9:=hi k d;have ⟨b1,b2⟩:=GY hl k hk;have ⟨b3,b4⟩:=HB.out k d;have g1:=a.cell (i:=24+k) zO;have g2:=a.frozen (24+k);have g3:=a.cell (i:=36) zO;have g4:=a.frozen 36;have R:=Wi k (bsum l k) d a;rw [Mo] at R;have R1:=r.setCell (p:=⟨p,24+k,none⟩) y (.int .i64 (bsum l k));by_cases h:0<cn l k
   ·have R2:=Wj k R;have J:EB l (k+1)=k:=zC h;go_wp2
    go_roundw
    case rel=>exact ⟨k+1,zO,by go_num,rfl,by rw [J];exact R2,R1.setCell (p:=⟨p,36,none⟩) y _⟩
    case measure=>simp [intOf];omega
   ·have J:EB l k=EB l (k+1):=(zA h).symm;rw [J] at R;go_wp2
    go_roundw
    case rel=>exact ⟨k+1,zO,by go_num,rfl,R,R1⟩
    case measure=>simp [intOf];omega
  ·obtain rfl:k=12:=zO;have HR:=CL a r;obtain ⟨n,hn⟩:∃ n:Nat,bsum l 12=n:=⟨(bsum l 12).toNat,by have:=(GY hl 12 zO).1;omega⟩
   have a8:n<=12000000:=by have:=(GY hl 12 zO).2;omega
   rw [hn];have g1:=a.cell (i:=37) zO;have g2:=a.frozen 37;have a7:=make n a8;clear hi;have r5:((wr.setCell ⟨p,37,none⟩ (.slice (some ⟨wr.heap.size,0,none⟩) n n)).alloc (.cells (madeCells #[.int .i64 0, .bool false, .int .i64 0, .int .i64 0] (n*4)) 127)).rowIs p 265 38 (LS (cn l) (fc (cn l)) (FT l 12) (EB l 12) (.slice (some ⟨wr.heap.size,0,none⟩) n n)):=(Rp _ a).alloc _;have m5:=UO r5;have c0:=a.lt;have h6:=IK wr p n;have NF:=Ho (n:=n) a r y;unfold Jm at NF;rw [show arr (fun _=>0)=#[.int .i64 0, .int .i64 0, .int .i64 0, .int .i64 0, .int .i64 0, .int .i64 0, .int .i64 0, .int .i64 0, .int .i64 0, .int .i64 0, .int .i64 0, .int .i64 0] from rfl] at NF;have z:Hid _:=NF;clear NF;go_wp2_with (first | (refine wpList_load_mid rfl 197 _ rfl p 24 rfl (arr (bsum l)).toList _ m5 underlying197 rfl (FU (bsum l)) ?_;rw [CB]) | (refine yS rfl 197 _ _ rfl (wr.heap.size+1) (arr (bsum l)) rfl rfl 197 _ h6 (FU _) rfl (FZ _) ?_))
   have S:=r.size;clear h6 m5 r5 g1 g2 a7 a L r HR;generalize (((wr.setCell ⟨p,37,none⟩ (.slice (some ⟨wr.heap.size,0,none⟩) n n)).alloc (.cells (madeCells #[.int .i64 0, .bool false, .int .i64 0, .int .i64 0] (n*4)) 127)).alloc (.cells #[.int .i64 0, .int .i64 0, .int .i64 0, .int .i64 0, .int .i64 0, .int .i64 0, .int .i64 0, .int .i64 0, .int .i64 0, .int .i64 0, .int .i64 0, .int .i64 0] 197)).setRow (wr.heap.size+1) (arr (bsum l))=w6 at *;generalize wr.heap.size=m at *;go_loopw [53] (fun i wx=>∃ (k:Nat) (f:Nat->Value),k<=l.length/\i= .int .i64 k/\wx.rowIs p 265 38 (LS (cn l) (fc (cn l)) (FT l 12) (EB l 12) (.slice (some ⟨m,0,none⟩) n n))/\wx.rowIs m 127 (n*4) f/\Cx l f k/\wx.rowIs (m+1) 197 12 (fun j=> .int .i64 (bsum l j+cn (l.take k) j))/\Below w.heap.size w wx) (fun i _=>l.length - (intOf i).toNat)
   case atStart=>exact ⟨0,KA,zH _,rfl,z.out.1,z.out.2.1,fun i hi=>absurd hi zO,z.out.2.2.1.congr fun i _=>by simp [Iv],z.out.2.2.2⟩
   case round=>
    obtain ⟨k,f,hk,rfl,F,s,q3,G,X⟩:=hrel;by_cases d:k<l.length
    ·obtain ⟨b,o,x,rfl,g,b6,hx⟩:=(HC.out.below X zL).LZ hr d;have Y:=IQ F s G X;have HF:=hid q3;clear q3;by_cases h:0<x
     ·have e1:=pos_eq d hx.out hl zO;have J:=Tq d hx.out hl h zO;rw [hn] at J;have c3:pos l k<n:=zO;have c1:wr.cell? ⟨p,37,none⟩=some (.slice (some ⟨m,0,none⟩) n n):=F.cell (i:=37) zO;have c2:wr.cell? ⟨m+1,x,none⟩=some (.int .i64 (pos l k)):=by rw [G.cell (i:=x) zO,e1]
      have HN:=hid e1.symm;obtain ⟨v1,v2,v3,v4,hv⟩:=four k;have I:=HF.out.step hl hr d hx.out h zO hv;have a3:Hid _:=I;clear I e1;have b7:Hid ((wr:World)=wr):=rfl;obtain ⟨P,hP⟩:=qe (pos l k);have l1:=F.lt;have C:=s.lt;have l3:=G.lt;have b8:(P:Int)<n:=zO;have b0:(x:Int)<12:=zO;have k1:=s.cell (i:=P*4) zO;have k2:=s.cell (i:=P*4+1) zO;have k3:=s.cell (i:=P*4+2) zO;have k4:=s.cell (i:=P*4+3) zO;have y1:=s.frozen (P*4);have y2:=s.frozen (P*4+1);have y4:=s.frozen (P*4+2);have y5:=s.frozen (P*4+3);have a1:Hid (∀ w:World,Calls prog 169 #[.int .i64 k] w fun x w'=>x= .returned (.agg #[.int .i64 v1, .bool v2, .int .i64 v3, .int .i64 v4])/\Below w.heap.size w w'):=fun w=>by rw [<- hv];exact Td k w
      clear hv;rw [<- hP] at c2;have HP:=hid hP;have U:p≠m:=zO;have V:p≠m+1:=zO;have y3:=G.frozen x;clear F s G X hP;go_wp2_with fail
      go_region_held3 (fun u=>u.cell? ⟨p,37,none⟩=some (.slice (some ⟨m,0,none⟩) n n)/\u.cell? ⟨m+1,x,none⟩=some (.int .i64 P)) (first | exact ⟨c1,c2⟩ | exact ⟨d1,d2⟩ | exact ⟨(CR (q:=⟨p,37,none⟩) U).trans d1,(CR (q:=⟨m+1,x,none⟩) zS).trans d2⟩)
       (first | (go_at_call 169;refine (a1.out _).mono ?_;rintro e w7 ⟨rfl,c⟩;have d1:=(c.cell l1).trans c1;have d2:=(c.cell l3).trans c2;have d3:=(c.cell C).trans k1;have d4:=(c.cell C).trans k2;have e3:=(c.cell C).trans k3;have e4:=(c.cell C).trans k4;have d5:=(c.frozen C).trans y1;have d6:=(c.frozen C).trans y2;have e5:=(c.frozen C).trans y4;have e6:=(c.frozen C).trans y5;have d7:=(c.frozen l3).trans y3;have a0:Hid (Below wr.heap.size wr w7):=⟨c.os,c.tape,c.output,c.size,c.block⟩;clear c))
      have T:=Ig (v1:= .int .i64 v1) (v2:= .bool v2) (v3:= .int .i64 v3) (v4:= .int .i64 v4) Y.out.1 Y.out.2.1 Y.out.2.2.1 Y.out.2.2.2 a0.out d hx.out h zO U V y S HN.out HP.out;have Z:Hid _:=T;clear T k1 k2 k3 k4 y1 y2 y3 y4 y5;go_wp2
      go_roundw
      case rel=>exact ⟨k+1,_,zO,by go_num,Z.out.1,Z.out.2.1,by rw [HP.out];exact a3.out,Z.out.2.2.1,Z.out.2.2.2⟩
      case measure=>simp [intOf];omega
     ·obtain rfl:x=0:=zO;have R:=Oj d hx.out G;have e0:l.getD k 0=0:=by have:=hx.out;simp [d];simpa using this
      have a2:=hid (HF.out.skip e0);go_wp2
      go_roundw
      case rel=>exact ⟨k+1,f,zO,by go_num,F,s,a2.out,R,X⟩
      case measure=>simp [intOf];omega
    ·obtain rfl:k=l.length:=zO;go_wp2
     go_ret
     refine ⟨p,m,n,f,rfl,hn,⟨F,fun j hj=>⟨rfl,?_⟩,F.lt,s.lt⟩,q3,y,S,X⟩;intro t v hv;have ht:t=0\/t=1\/t=2\/t=3:=by have:=(vH.1 hv).1;simp at this;omega
     rcases ht with rfl | rfl | rfl | rfl
     ·rw [<- Option.some.inj hv];exact s.cell (i:=j*4) zO
     ·rw [<- Option.some.inj hv];exact s.cell (i:=j*4+1) zO
     ·rw [<- Option.some.inj hv];exact s.cell (i:=j*4+2) zO
     ·rw [<- Option.some.inj hv];exact s.cell (i:=j*4+3) zO
end Gs
end Go.Proofs.YtbcjmakpempkiaaGreatDoor
