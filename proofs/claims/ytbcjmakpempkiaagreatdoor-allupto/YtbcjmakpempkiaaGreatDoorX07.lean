import Derived.Test.YtbcjmakpempkiaaGreatDoorX05
set_option maxRecDepth 100000
set_option maxHeartbeats 8000000
set_option linter.all false
namespace Go.Proofs.YtbcjmakpempkiaaGreatDoor
variable {t:Tr} {B e g i k p r:Nat} {W w wr:World} {L l:List Int} {va vo vs:Value} {ad:Option Addr} {x:Int}
open Go.Proofs.Tryz
open Go.RowKit
def QV:Array Value:=#[.int .i64 13, .int .i64 14, .int .i64 12, .int .i64 0, .int .i64 7, .int .i64 8, .int .i64 6, .int .i64 9, .int .i64 5, .int .i64 10, .int .i64 4, .int .i64 11, .int .i64 3, .int .i64 2, .int .i64 1]
def Bs(w:World)(B:Nat):Prop:=1<B/\∃ fr,w.heap[1]?=some (.cells QV 245 fr)
theorem Bs.below{w':World}(h:Bs w B)(a:Below B w w'):Bs w' B:=by
 obtain ⟨h0,fr,h1⟩:=h;exact ⟨h0,fr,(a.block 1 h0).trans h1⟩
theorem JD(h:k<15):QV[k]?=some (.int .i64 ((Tr.order.getD k 0:Nat):Int))/\Tr.order.getD k 0<15:=by
 have:k=0\/k=1\/k=2\/k=3\/k=4\/k=5\/k=6\/k=7\/k=8\/k=9\/k=10\/k=11\/k=12\/k=13\/k=14:=zO;rcases this with rfl | rfl | rfl | rfl | rfl | rfl | rfl | rfl | rfl | rfl | rfl | rfl | rfl | rfl | rfl <;> exact ⟨rfl,zD⟩
theorem Bs.cell(h:Bs w B)(hk:k<15):w.cell? ⟨1,k,none⟩=some (.int .i64 ((Tr.order.getD k 0:Nat):Int)):=by
 obtain ⟨_,fr,h1⟩:=h;rw [yA _ _ k _ _ _ h1];exact (JD hk).1
structure PK(B p:Nat)(vo va vs:Value)(W:World)(gh m:Nat)(t0:Tr)(fin:List Int×Tr)(wr:World)(k:Nat)(L:List Int)(t1:Tr):Prop where
 go:Tr.helps (m - k) k L t1=fin
 len:L.length=15
 ON:Ae L=true
 row:wr.rowIs gh 3 15 (fun j=> .int .i64 (L.getD j 0))
 kept:Kept B p vo va vs t1 W wr
 CU:t1.Ao
 s:t1.s=t0.s
 CN:t1.ended=false->m<=15
theorem Tr.cu(h:t.ended=false):Tr.helps (r+1) i L t=Tr.helps r (i+1) (L.set (Tr.order.getD i 0) (t.number 3).1) (t.number 3).2:=by rw [Tr.helps,zA (by rw [h];simp)]
theorem Tr.VY(h:t.ended=true):Tr.helps r i L t=(L,t):=by
 cases r with
 | zero=>rfl
 | succ r=>rw [Tr.helps,zC h]
theorem Tr.Rv(r:Nat):∀ (i:Nat) (L:List Int) (t:Tr),Tr.Da t (Tr.helps r i L t).2:=by
 induction r with
 | zero=>intro i L t;exact Tr.Da.refl t
 | succ r ih=>
  intro i L t;unfold Tr.helps;split
  ·exact Tr.Da.refl t
  ·exact (Tr.Bb t 3).trans (ih _ _ _)
theorem Vc(h:Ae L=true){x:Nat}(hx:x<=11):Ae (L.set i (x:Int))=true:=by
 unfold Ae at *;rw [kF] at *;intro y a;rcases AR a with a | rfl
 ·exact h y a
 ·simp [De];omega
theorem PK.next{gh m:Nat}{t0 ti:Tr}{fin:List Int×Tr}{w3:World}{t1:Tr}(h:PK B p vo va vs W gh m t0 fin wr k L t1)(h0:Ft B p vo va vs ti W)(b:W.heap.size<=gh)(he:t1.ended=false)(hk:k<m)(a:Kept B p vo va vs (t1.number 3).2 wr w3) :
  PK B p vo va vs W gh m t0 fin (w3.setCell ⟨gh,Tr.order.getD k 0,none⟩ (.int .i64 (t1.number 3).1)) (k+1) (L.set (Tr.order.getD k 0) (t1.number 3).1) (t1.number 3).2:=by
 have hp:=h0.row.lt;have c:(t1.number 3).1<8:=Tr.Dy t1 3;refine ⟨?_,by rw [vU];exact h.len,Vc h.ON zO,?_,?_,h.CU.number 3,(Tr.Bb t1 3).s.trans h.s,fun _=>h.CN he⟩
 ·rw [<- h.go,show m - k=(m - (k+1))+1 by omega,Tr.cu he]
 ·have r3:=h.row.of_block (a.kp.block gh h.row.lt (by show gh≠p;omega));refine (r3.set (Tr.order.getD k 0) _).congr fun i hi=>?_
  have hl:=h.len;generalize Tr.order.getD k 0=o at *;by_cases e:i=o
  ·subst e;rw [zC rfl,yF,BS,zC rfl,zC zO];rfl
  ·rw [zA e,yF,yF,BS,zA (fun x=>e x.symm)]
 ·exact (h.kept.trans a).low h0 (zB.setCell b _)
def Av:Array Value:=#[.slice none 0 0, .slice none 0 0, .int .i64 0, .bool false]
theorem aq(h:w.heap[g]?=some (.cells Av 273 (0,0))) :
  (w.cell? ⟨g,0,none⟩=some (.slice none 0 0)/\w.cell? ⟨g,1,none⟩=some (.slice none 0 0)/\w.cell? ⟨g,2,none⟩=some (.int .i64 0)/\w.cell? ⟨g,3,none⟩=some (.bool false))/\
  (w.frozen? ⟨g,0,none⟩=false/\w.frozen? ⟨g,1,none⟩=false/\w.frozen? ⟨g,2,none⟩=false/\w.frozen? ⟨g,3,none⟩=false):=by
 have k:=fun j=>yA w g j _ _ _ h
 refine ⟨⟨k 0,k 1,k 2,k 3⟩,?_,?_,?_,?_⟩ <;> simp [World.frozen?,h]
theorem Ap.lt(h:Ap w ad l)(hl:0<l.length):∀ b o f,ad=some ⟨b,o,f⟩->b<w.heap.size:=fun b o f e=>by
 obtain ⟨d,g,a,c,_⟩:=h 0 hl;rw [e] at a;simp only [xP,xX] at a;omega
theorem Fs.new(h:Ft B p vo va vs t w)(a:Fl w.heap.size ad)(hl:∀ b o f,ad=some ⟨b,o,f⟩->b<W.heap.size):Fs W p vo va ad:=fun b o f e=>by
 have h1:=a b o f e;refine ⟨hl b o f e,by have:=h.row.lt;omega,fun e=>by have:=(h.out.lt _ e).2;omega,fun e=>by have:=(h.Br.lt _ e).2;omega⟩
theorem nL(w:World)(h:Ft B p vo va vs t w)(hf:t.Ao)(hs:t.s.size<=maxLen)(hO:Bs w B) :
  Calls prog 202 #[.pointer (some ⟨p,0,none⟩)] w fun x u=>∃ a1 a2 b1 b2 k1 k2 l1 l2,x= .returned (.tuple #[.agg (ED t.own.1 a1 k1 a2 k2), .agg (ED t.own.2.1 b1 l1 b2 l2)])/\Kept B p vo va vs t.own.2.2 w u/\Mn u p vo va t.own.1 a1 a2/\Mn u p vo va t.own.2.1 b1 b2/\t.own.1.l.length<=269/\t.own.2.1.l.length<=16:=by
 obtain ⟨V,c7⟩:=qe (((w.alloc (.cells Av 273)).alloc (.cells Av 273)).alloc (.cells Av 273));have B0:Below w.heap.size w V:=by rw [c7];exact ((zB.alloc zL _).alloc zS _).alloc (by simp;omega) _
 have p7:V.heap.size=w.heap.size+3:=by rw [c7];simp
 have g0:=hid (h.below B0);have g1:=hid ((Kept.refl h).below B0);have i5:=hid h;have i6:=hid (hO.below (B0.mono h.hB));have s2:=h.row.lt;have HF:=CL hf hs;have HG:Hid (V.heap[w.heap.size]?=some (.cells Av 273 (0,0))/\V.heap[w.heap.size+1]?=some (.cells Av 273 (0,0))/\V.heap[w.heap.size+1+1]?=some (.cells Av 273 (0,0))):=by
  show _/\_;rw [c7];refine ⟨?_,?_,?_⟩
  ·rw [yK _ _ _ (by simp;omega),yK _ _ _ zS];exact zJ _ _
  ·rw [yK _ _ _ zS];have:=zJ (w.alloc (.cells Av 273)) (.cells Av 273);simpa using this
  ·have:=zJ ((w.alloc (.cells Av 273)).alloc (.cells Av 273)) (.cells Av 273);simpa using this
 clear h hf hs hO B0;go_enter func202,ntmps202
 go_upto_region 3 with fail
 change Calls prog _ _ (((w.alloc (.cells Av 273)).alloc (.cells Av 273)).alloc (.cells Av 273)) _
 rw [<- c7];clear c7;refine (FG 4 V g0.out HF.out.1 HF.out.2 zO).mono ?_;rintro e w1 ⟨rfl,q1⟩;have d8:=hid q1;have k5:(t.number 4).1<16:=Tr.Dy t 4;clear q1;obtain ⟨r,I⟩:=qe (if 12<(t.number 4).1 then (t.number 4).2.fail 10 else (t.number 4).2);have a9:Hid (Tr.Da t r/\r.Ao/\(12<(t.number 4).1->r.ended=true)):=by
  show _/\_;rw [I];split
  ·exact ⟨(Tr.Bb t 4).trans (Tr.CK _ zD),(HF.out.1.number 4).fail zD,fun _=>Tr.Cz _ zD⟩
  ·exact ⟨Tr.Bb t 4,HF.out.1.number 4,fun h=>zO⟩
 have j2:Hid (t.CP=((t.number 4).1,(r.number 4).1,((r.number 4).2.number 4).1,if 11<((r.number 4).2.number 4).1 then ((r.number 4).2.number 4).2.fail 10 else ((r.number 4).2.number 4).2)):=by show _=_;rw [I];rfl
 obtain ⟨D,h6⟩:=qe ((t.number 4).1);rw [<- h6] at k5 I a9 |-;have l8:=hid h6;clear h6;go_upto_if 20 with fail
 go_cut [5] (fun s5 wx=>s5= .int .i64 D/\Hid (Kept B p vo va vs r V wx))
 case first=>
  by_cases c6:12<D
  ·rw [zC c6] at I;have HT:=hid I;clear I;go_wp2_with fail
   refine (Dn 10 _ d8.out.inv).mono ?_;rintro e w2 ⟨rfl,q2⟩;have a8:Hid (Kept B p vo va vs r V w2):=by show Kept _ _ _ _ _ _ _ _;rw [HT.out];exact d8.out.trans q2
   clear q2;go_wp2_with fail
   go_meet
   exact ⟨rfl,a8⟩
  ·rw [zA c6] at I;have a8:Hid (Kept B p vo va vs r V w1):=by show Kept _ _ _ _ _ _ _ _;rw [I];exact d8.out
   clear I;go_wp2_with fail
   go_meet
   exact ⟨rfl,a8⟩
 case rest=>
 obtain ⟨rfl,a8⟩:=hcut;clear d8 I;have c4:Hid (r.s.size<=maxLen):=by show _<=_;rw [a9.out.1.s];exact HF.out.2
 go_upto_region 6 with (go_at_call 198;refine (FG 4 _ a8.out.inv a9.out.2.1 c4.out zO).mono ?_;rintro e W ⟨rfl,q3⟩;have g4:=hid (a8.out.trans q3);clear q3)
 have a4:Hid (Tr.Da t (r.number 4).2/\(r.number 4).2.Ao):=⟨a9.out.1.trans (Tr.Bb _ _),a9.out.2.1.number 4⟩
 have j3:Hid ((r.number 4).2.s.size<=maxLen):=by show _<=_;rw [a4.out.1.s];exact HF.out.2
 have p3:(r.number 4).1<16:=Tr.Dy r 4;have p4:((r.number 4).2.number 4).1<16:=Tr.Dy (r.number 4).2 4;go_upto_region 7 with (go_at_call 198;refine (FG 4 _ g4.out.inv a4.out.2 j3.out zO).mono ?_;rintro e w4 ⟨rfl,q4⟩;have d9:=hid (g4.out.trans q4);clear q4)
 obtain ⟨T3,J⟩:=qe (if 11<((r.number 4).2.number 4).1 then ((r.number 4).2.number 4).2.fail 10 else ((r.number 4).2.number 4).2);have g5:Hid (Tr.Da t T3/\T3.Ao/\(T3.ended=false->((r.number 4).2.number 4).1<=11)):=by
  show _/\_;rw [J];split
  ·exact ⟨(a4.out.1.trans (Tr.Bb _ 4)).trans (Tr.CK _ zD),(a4.out.2.number 4).fail zD,fun h=>by rw [Tr.Cz _ zD] at h;cases h⟩
  ·exact ⟨a4.out.1.trans (Tr.Bb _ 4),a4.out.2.number 4,fun _=>zO⟩
 have j1:Hid (T3.ended=false->D<=12):=fun h=>by
  have f:Tr.Da r T3:=by
   rw [J];split
   ·exact ((Tr.Bb r 4).trans (Tr.Bb _ 4)).trans (Tr.CK _ zD)
   ·exact (Tr.Bb r 4).trans (Tr.Bb _ 4)
  have h1:=f.Gh h;by_cases h2:12<D
  ·rw [a9.out.2.2 h2] at h1;cases h1
  ·omega
 have g6:Hid (t.CP=(D,(r.number 4).1,((r.number 4).2.number 4).1,T3)):=by show _=_;rw [j2.out,l8.out,J]
 have m6:=hid a4.out.1.s;clear j2 a8 g4;generalize hX:(r.number 4)=X at *;generalize hY:(X.2.number 4)=Y at *;clear hX;go_upto_if 28 with fail
 go_cut [7] (fun s7 wx=>s7= .int .i64 Y.1/\Hid (Kept B p vo va vs T3 V wx))
 case first=>
  by_cases c6:11<Y.1
  ·rw [zC c6] at J;have HT:=hid J;clear J;go_wp2_with fail
   refine (Dn 10 _ d9.out.inv).mono ?_;rintro e w5 ⟨rfl,q5⟩;have C:Hid (Kept B p vo va vs T3 V w5):=by show Kept _ _ _ _ _ _ _ _;rw [HT.out];exact d9.out.trans q5
   clear q5;go_wp2_with fail
   go_meet
   exact ⟨rfl,C⟩
  ·rw [zA c6] at J;have C:Hid (Kept B p vo va vs T3 V w4):=by show Kept _ _ _ _ _ _ _ _;rw [J];exact d9.out
   clear J;go_wp2_with fail
   go_meet
   exact ⟨rfl,C⟩
 case rest=>
 obtain ⟨rfl,C⟩:=hcut;clear d9 J a9 a4 c4 j3 m6;have o2:∀ w:World,(Instr.makeSlice 69 (.int .i64 15) (.int .i64 15)).run prog w= .ok (.slice (some ⟨w.heap.size,0,none⟩) 15 15) (w.alloc (.cells (madeCells #[.int .i64 0] 15) 3)):=xZ (P:=prog) 69 3 (.int .i64 0) 8 underlying69 Gf rfl .i64 .i64 15 zO zO;have l4:=C.out.kp.size;obtain ⟨G,h0⟩:=qe wc.heap.size;have i1:Hid (∃ fin,fin=Tr.helps (4+Y.1) 0 (List.replicate 15 0) T3):=⟨_,rfl⟩
 obtain ⟨fin,c8⟩:=i1.out;have H0:Hid (PK B p vo va vs V G (4+Y.1) t fin (wc.alloc (.cells (madeCells #[.int .i64 0] 15) 3)) 0 (List.replicate 15 0) T3):=by
  refine ⟨c8.symm,zS,zD,?_,C.out.below (zB.alloc zL _),g5.out.2.1,g5.out.1.s,fun h=>by have:=g5.out.2.2 h;omega⟩;rw [h0];refine (jK wc (.int .i64 0) 15 3).congr fun i hi=>?_
  rw [yF,vW,zC hi];rfl
 have k8:V.heap.size<=G:=zO;have i0:=hid c8;have i7:Hid (∀ wr t1,Kept B p vo va vs t1 V wr->Bs wr B):=fun wr t1 k=>i6.out.below k.bel
 have r1:=i6.out.1;have s3:=g0.out.pB;clear i1 c8;go_upto_block 0 with fail
 rw [<- h0];clear h0;go_cut [9] (fun _ wx=>∃ (k:Nat) (L:List Int) (t1:Tr),Hid (PK B p vo va vs V G (4+Y.1) t fin wx k L t1/\(L,t1)=fin))
 case first=>
  go_wp2_with fail
  go_loopw [9] (fun i wr=>∃ (k:Nat) (L:List Int) (t1:Tr),k<=4+Y.1/\i= .int .i64 k/\Hid (PK B p vo va vs V G (4+Y.1) t fin wr k L t1)) (fun i _=>4+Y.1 - (intOf i).toNat)
  case atStart=>exact ⟨0,_,T3,zH _,rfl,H0⟩
  case round=>
   obtain ⟨k,L,t1,hk,rfl,HH⟩:=hrel;clear H0 C;by_cases d2:k<4+Y.1
   ·cases he:t1.ended
    ·have HE:=hid he;clear he;have c9:k<15:=by have:=HH.out.CN HE.out;omega
     have ho:=(JD c9).2;have m7:Hid (t1.s.size<=maxLen):=by show _<=_;rw [HH.out.s];exact HF.out.2
     have co:=(i7.out wr t1 HH.out.kept).cell c9;have l7:Hid (∀ W,Kept B p vo va vs (t1.number 3).2 wr W->W.cell? ⟨1,k,none⟩=some (.int .i64 ((Tr.order.getD k 0:Nat):Int))):=fun W q=>(i7.out W _ (HH.out.kept.trans q)).cell c9
     have HN:Hid (∀ W,Kept B p vo va vs (t1.number 3).2 wr W->PK B p vo va vs V G (4+Y.1) t fin (W.setCell ⟨G,Tr.order.getD k 0,none⟩ (.int .i64 (t1.number 3).1)) (k+1) (L.set (Tr.order.getD k 0) (t1.number 3).1) (t1.number 3).2):=fun W q=>HH.out.next g0.out k8 HE.out d2 q
     have i9:Hid (∀ W,Kept B p vo va vs (t1.number 3).2 wr W->W.rowIs G 3 15 (fun j=> .int .i64 (L.getD j 0))):=fun W q=>HH.out.row.of_block (q.kp.block G HH.out.row.lt (by show G≠p;omega))
     generalize Tr.order.getD k 0=o at *;have s1:(o:Int)<15:=zO;have r6:(k:Int)<15:=zO;go_wp2_with (go_at_call 182;refine (Bc _ HH.out.kept.inv).mono ?_;rw [HE.out];rintro e u ⟨rfl,rfl⟩)
     go_region_with (go_at_call 198;refine (FG 3 _ (HH.out.kept.inv.drewN 1) HH.out.CU m7.out zO).mono ?_;rintro e W ⟨rfl,q3⟩;have e0:=hid (((Kept.refl HH.out.kept.inv).drewN 1).trans q3);have q8:=l7.out W e0.out;have s9:=(i9.out W e0.out).cell (i:=o) zO;have r0:=(i9.out W e0.out).frozen o;clear q3)
     all_goals
      have l9:=hid (HN.out W e0.out);go_wp2_with fail
      go_roundw
      case rel=>exact ⟨k+1,_,_,zO,by go_num,l9⟩
      case measure=>simp [intOf];omega
    ·have HE:=hid he;clear he;go_wp2_with (go_at_call 182;refine (Bc _ HH.out.kept.inv).mono ?_;rw [HE.out];rintro e u ⟨rfl,rfl⟩)
     go_meet
     exact ⟨k,L,t1,HH.out,by rw [<- HH.out.go,Tr.VY HE.out]⟩
   ·obtain rfl:k=4+Y.1:=zO;go_wp2_with fail
    go_meet
    exact ⟨_,L,t1,HH.out,by rw [<- HH.out.go,kX];rfl⟩
 case rest=>
 obtain ⟨k4,L,T4,y⟩:=hcut;clear H0 C o2 l4;have M:=hid y.out.1.len;have i2:=hid y.out.2;have d5:Hid (Ap wc (some ⟨G,0,none⟩) L):=fun k hk=>⟨G,0,rfl,y.out.1.row.lt,by rw [yJ];exact y.out.1.row.cell (by have:=M.out;omega)⟩
 obtain ⟨S,T⟩:=qe (if sumOf gw L=2048 then T4 else T4.fail 10);have d7:Hid (t.DW=(L,S)):=by
  show t.DW=_;have e:(Tr.helps (4+t.CP.2.2.1) 0 (List.replicate 15 0) t.CP.2.2.2)=(L,T4):=by rw [g6.out,y.out.2];exact i0.out.symm
  unfold Tr.DW;simp only;rw [e,T]
 have c3:Hid (Tr.Da T4 S/\S.Ao/\(S.ended=false->sumOf gw L=2048)):=by
  show _/\_;rw [T];split
  ·exact ⟨Tr.Da.refl _,y.out.1.CU,fun _=>by assumption⟩
  ·exact ⟨Tr.CK _ zD,y.out.1.CU.fail zD,fun h=>by rw [Tr.Cz _ zD] at h;cases h⟩
 have b9:=hid y.out.1.kept;have b0:=FI (some ⟨G,0,none⟩) 15 L wc (by have:=M.out;omega) d5.out y.out.1.ON;rw [M.out] at b0;have h9:Hid (Calls prog 118 #[.slice (some ⟨G,0,none⟩) 15 15] wc fun e u=>e= .returned (.bool (sumOf gw L==2048))/\wc=u):=b0;clear b0;go_upto_if 53 with (go_at_call 118;refine h9.out.mono ?_;rintro e u ⟨rfl,rfl⟩)
 obtain ⟨wq,e8⟩:=qe wc;rw [<- e8] at b9 d5;have f8:Hid (wq.rowIs G 3 15 (fun j=> .int .i64 (L.getD j 0))/\Ae L=true/\T4.s=t.s):=by show _/\_;rw [e8];exact ⟨y.out.1.row,y.out.1.ON,y.out.1.s⟩
 rw [<- e8];clear e8 y h9;go_cut [8,10,51,52,53] (fun s8 _ _ _ _ wx=>s8= .slice (some ⟨G,0,none⟩) 15 15/\Hid (Kept B p vo va vs S wq wx))
 case first=>
  cases e6:(sumOf gw L==2048)
  ·have hc:sumOf gw L≠2048:=by simpa using e6
   rw [zA hc] at T;have HT:=hid T;clear T hc e6;go_wp2_with fail
   refine (Dn 10 _ b9.out.inv).mono ?_;rintro e w5 ⟨rfl,q5⟩;have C:Hid (Kept B p vo va vs S wq w5):=by show Kept _ _ _ _ _ _ _ _;rw [HT.out];exact q5
   clear q5;go_wp2_with fail
   go_meet
   exact ⟨rfl,C⟩
  ·have hc:sumOf gw L=2048:=by simpa using e6
   rw [zC hc] at T;have C:Hid (Kept B p vo va vs S wq wq):=by show Kept _ _ _ _ _ _ _ _;rw [T];exact Kept.refl b9.out.inv
   clear T hc e6;go_wp2_with fail
   go_meet
   exact ⟨rfl,C⟩
 case rest=>
 obtain ⟨rfl,g2⟩:=hcut;clear T;have a0:=hid (b9.out.trans g2.out);have f1:=hid (d5.out.JJ g2.out.kp (fun b o f e=>by simp only [xP,xX] at e;omega));have Z:Hid (wc.heap[w.heap.size]?=some (.cells Av 273 (0,0))/\wc.heap[w.heap.size+1]?=some (.cells Av 273 (0,0))/\wc.heap[w.heap.size+1+1]?=some (.cells Av 273 (0,0))):=⟨(a0.out.kp.block _ zO (by show w.heap.size≠p;omega)).trans HG.out.1,(a0.out.kp.block _ zO (by show w.heap.size+1≠p;omega)).trans HG.out.2.1,(a0.out.kp.block _ zO (by show w.heap.size+2≠p;omega)).trans HG.out.2.2⟩
 clear b9 g2 d5;cases he:S.ended
 ·have HE:=hid he;clear he;have h8:=hid (c3.out.2.2 HE.out);have EF:=MX (some ⟨G,0,none⟩) 15 L wc (by have:=M.out;omega) f1.out f8.out.2.1;rw [M.out] at EF;have f2:Hid (Calls prog 213 #[.slice (some ⟨G,0,none⟩) 15 15] wc fun e u=>∃ ad' c5,e= .returned (.agg (ED (Ax L) (some ⟨G,0,none⟩) 15 ad' c5))/\JZ u (Ax L) (some ⟨G,0,none⟩) ad'/\Fl wc.heap.size ad'/\Below wc.heap.size wc u):=EF;clear EF;go_upto_region 19 with (go_at_call 182;refine (Bc _ a0.out.inv).mono ?_;rw [HE.out];rintro e u ⟨rfl,rfl⟩)
  go_upto_region 20 with (go_at_call 213;refine f2.out.mono ?_;rintro e w6 ⟨ad',c5,rfl,j9,j6,k6⟩)
  have p5:D<=12:=by
   have h4:=c3.out.1.Gh HE.out;have f:Tr.Da T3 T4:=by
    have f:=Tr.Rv (4+Y.1) 0 (List.replicate 15 0) T3;rw [<- i0.out,<- i2.out] at f;exact f
   exact j1.out (f.Gh h4)
  obtain ⟨N,l0⟩:=qe (257+D+1+X.1);rw [show (257+(D:Int)+1+X.1)=(N:Int) by omega];have d6:=hid (a0.out.below k6);have p6:p<G:=zO;have p9:=a0.out.kp.size;have g3:Hid (WY p (some ⟨G,0,none⟩)/\WY p ad'):=⟨fun b o f e=>by simp only [xP,xX] at e;omega,fun b o f e=>by have:=j6 b o f e;omega⟩
  have m5:Hid (S.s.size<=maxLen):=by show _<=_;rw [c3.out.1.s,f8.out.2.2];exact HF.out.2
  have j0:=hid j9;clear k6 j6 j9;refine (nM (Ax L) (some ⟨G,0,none⟩) ad' 15 c5 N w6 d6.out.inv c3.out.2.1 m5.out j0.out g3.out.1 g3.out.2 M.out zO f8.out.2.1 h8.out (Lh h8.out)).mono ?_;rintro e E ⟨v,rfl,l5,q7,r7,l3⟩;have i8:Hid (t.ownRow=Tr.row (Ax L) N [] S):=by
   show _=_;unfold Tr.ownRow;rw [d7.out,g6.out,l0]
  have m4:Hid (Tr.Da S (Tr.row (Ax L) N [] S).2/\(Tr.row (Ax L) N [] S).2.Ao/\((Tr.row (Ax L) N [] S).2.ended=false->(Tr.row (Ax L) N [] S).1.length=N)):=by
   obtain ⟨a,b,c⟩:=Tr.Sf (H:=Ax L) (n:=N) S.mu [] S zL;exact ⟨a,b c3.out.2.1,fun h=>c h (zH _)⟩
  generalize Tr.row (Ax L) N [] S=R at *;have A:=hid (d6.out.trans q7);have e4:=CL l5 l3;have O:Hid (E.heap[w.heap.size]?=some (.cells Av 273 (0,0))/\E.heap[w.heap.size+1]?=some (.cells Av 273 (0,0))/\E.heap[w.heap.size+1+1]?=some (.cells Av 273 (0,0))):=⟨(A.out.kp.block _ zO (by show w.heap.size≠p;omega)).trans HG.out.1,(A.out.kp.block _ zO (by show w.heap.size+1≠p;omega)).trans HG.out.2.1,(A.out.kp.block _ zO (by show w.heap.size+2≠p;omega)).trans HG.out.2.2⟩
  have p8:w.heap.size+3<=w6.heap.size:=by have:=d6.out.kp.size;omega
  clear l5 l3 q7 d6 f2 j0 g3 Z f1;cases he:R.2.ended
  ·have b4:=hid he;clear he;have e5:=m4.out.2.2 b4.out;obtain ⟨g,F,hv,o1,k8⟩:=e4.out.1.form zO;have b3:=e4.out.1;rw [hv,e5] at b3;have r4:N<=F:=by
    rcases b3.2 with ⟨e,_⟩ | ⟨g',c',_,e,_,_,hc,_⟩
    ·cases e
    ·cases e;exact hc
   have k7:F<=maxLen:=by
    rcases b3.2 with ⟨e,_⟩ | ⟨g',c',_,e,_,_,_,hc,_⟩
    ·cases e
    ·cases e;exact hc
   unfold maxLen at k7;have h7:Hid (Ap E (some ⟨g,0,none⟩) R.1):=by
    obtain ⟨ad,cap,e,hc⟩:=OI.cells (w:=E) (B:=w6.heap.size) (v:=v) (l:=R.1) e4.out.1;rw [hv] at e;cases e
    exact hc
   obtain ⟨m,hm⟩:=qe (257+D);have r9:(257:Int)+D=(m:Int):=zO;have s0:m<=N:=zO;have b5:=hid e5;have f9:Hid (D+257=m/\N=m+1+X.1):=⟨zO,zO⟩
   rw [e5] at hv;subst hv;have r3:¬ F=m:=zO;clear b3 e5 hm l0;go_upto_region 24 with (go_at_call 182;refine (Bc _ A.out.inv).mono ?_;rw [b4.out];rintro e u ⟨rfl,rfl⟩)
   have f6:Hid (Ap E (some ⟨g,0,none⟩) (R.1.take m)):=fun k hk=>by
    have k9:k<m:=by simp at hk;omega
    obtain ⟨b,o,e,d2,hc⟩:=h7.out k (by rw [b5.out];omega);exact ⟨b,o,e,d2,by rw [hc];simp [k9]⟩
   have d4:Hid (Ap E (some ⟨g,m,none⟩) (R.1.drop m)):=fun k hk=>by
    have k9:m+k<N:=by simp at hk;have:=b5.out;omega
    obtain ⟨b,o,e,d2,hc⟩:=h7.out (m+k) (by rw [b5.out];omega);cases e
    exact ⟨g,m,rfl,d2,by rw [yJ] at hc;rw [hc];simp⟩
   have a7:Hid ((R.1.take m).length=m):=by show _=_;simp;have:=b5.out;omega
   have a3:Hid ((R.1.drop m).length=N - m):=by show _=_;simp;have:=b5.out;omega
   have c1:Hid (Ae (R.1.take m)=true/\Ae (R.1.drop m)=true):=by
    have h:=e4.out.2;unfold Ae at h |-;rw [kF] at h;exact ⟨kF.2 fun x hx=>h x (BQ hx),kF.2 fun x hx=>h x (jO hx)⟩
   have r8:m<=269/\257<=m:=by have:=f9.out.1;omega
   have g9:N - m<=16/\0<N - m:=by have:=f9.out.2;omega
   have p2:E.cell? ⟨g,256,none⟩=some (.int .i64 ((R.1.take m).getD 256 0)):=by
    obtain ⟨b,o,e,_,hc⟩:=f6.out 256 (by rw [a7.out];omega);cases e
    rw [yJ] at hc;exact hc
   generalize hA:R.1.take m=Q at *;generalize j4:R.1.drop m=z at *;have K1:=FI (some ⟨g,0,none⟩) F Q E (by rw [a7.out];omega) f6.out c1.out.1;have K2:=FI (some ⟨g,m,none⟩) (F - m) z E (by rw [a3.out];omega) d4.out c1.out.2;have K3:=Hs (some ⟨g,m,none⟩) (F - m) z E (by rw [a3.out];omega) d4.out c1.out.2;have K4:=KF (some ⟨g,m,none⟩) (F - m) z E (by rw [a3.out];omega) d4.out;rw [a7.out] at K1;rw [a3.out] at K2 K3 K4;have HK:Hid (Calls prog 118 #[.slice (some ⟨g,0,none⟩) m F] E (fun e u=>e= .returned (.bool (sumOf gw Q==2048))/\E=u)/\Calls prog 118 #[.slice (some ⟨g,m,none⟩) (N - m) (F - m)] E (fun e u=>e= .returned (.bool (sumOf gw z==2048))/\E=u)/\Calls prog 119 #[.slice (some ⟨g,m,none⟩) (N - m) (F - m)] E (fun e u=>e= .returned (.bool (single z))/\E=u)/\Calls prog 153 #[.slice (some ⟨g,m,none⟩) (N - m) (F - m)] E (fun e u=>e= .returned (.int .i64 (sumOf (fun _=>1) z))/\E=u)):=⟨K1,K2,K3,K4⟩
   clear K1 K2 K3 K4;go_upto_region 27 with (first | (go_at_call 118;first | (refine HK.out.1.mono ?_;rintro e u ⟨rfl,rfl⟩) | (refine HK.out.2.1.mono ?_;rintro e u ⟨rfl,rfl⟩)) | (go_at_call 119;refine HK.out.2.2.1.mono ?_;rintro e u ⟨rfl,rfl⟩))
   have e9:Hid (∃ b8,b8=(((Q.getD 256 0)==0) || !(sumOf gw Q==2048) || (!(sumOf gw z==2048) && !(single z) && decide (0<sumOf (fun _=>1) z)))):=⟨_,rfl⟩
   obtain ⟨b8,d⟩:=e9.out;clear e9;go_cut [14,15,16,82,84,86,107] (fun _ _ _ _ _ _ sb wx=>sb= .bool b8/\E=wx)
   case first=>
    generalize Q.getD 256 0=l6 at *;generalize sumOf (fun _=>1) z=Cq at *;cases h1:(l6==0)
    ·cases h2:(sumOf gw Q==2048)
     ·go_wp2_with fail
      go_meet
      exact ⟨by rw [d,h1,h2];rfl,rfl⟩
     ·cases h3:(sumOf gw z==2048)
      ·cases h4:single z
       ·by_cases h5:0<Cq
        ·go_wp2_with (go_at_call 153;refine HK.out.2.2.2.mono ?_;rintro e u ⟨rfl,rfl⟩)
         go_meet
         exact ⟨by rw [d,h1,h2,h3,h4];simp [h5],rfl⟩
        ·go_wp2_with (go_at_call 153;refine HK.out.2.2.2.mono ?_;rintro e u ⟨rfl,rfl⟩)
         go_meet
         exact ⟨by rw [d,h1,h2,h3,h4,show decide (0<Cq)=false by simp;omega];rfl,rfl⟩
       ·go_wp2_with fail
        go_meet
        exact ⟨by rw [d,h1,h2,h3,h4];rfl,rfl⟩
      ·go_wp2_with fail
       go_meet
       exact ⟨by rw [d,h1,h2,h3];rfl,rfl⟩
    ·go_wp2_with fail
     go_meet
     exact ⟨by rw [d,h1];rfl,rfl⟩
   case rest=>
   obtain ⟨rfl,rfl⟩:=hcut;obtain ⟨T7,U⟩:=qe (if b8=true then R.2.fail 10 else R.2);have m3:Hid (t.own=(Ax Q,Ax z,T7)):=by
    show t.own=_;unfold Tr.own;rw [d7.out,i8.out,g6.out];simp only;rw [zA (by rw [HE.out];simp),zA (by rw [b4.out];simp)];have e1:257+D=m:=by have:=f9.out.1;omega
    rw [e1,hA,j4,U];have e2:(Q.getD 256 0=0\/sumOf gw Q≠2048\/(sumOf gw z≠2048/\single z=false/\0<sumOf (fun _=>1) z))↔b8=true:=by
     rw [d];simp;rw [or_assoc,and_assoc]
    simp only [e2]
   have q6:Hid (Tr.Da R.2 T7):=by
    show Tr.Da _ _;rw [U];split
    ·exact Tr.CK _ zD
    ·exact Tr.Da.refl _
   have q0:=CL b5.out o1;clear hA j4;go_upto_if 107 with fail
   go_cut [12] (fun o3 wx=>o3= .slice (some ⟨g,0,none⟩) m F/\Hid (Kept B p vo va vs T7 E wx))
   case first=>
    cases hb:b8
    ·rw [hb,zA zS] at U;have HQ:Hid (Kept B p vo va vs T7 E E):=by show Kept _ _ _ _ _ _ _ _;rw [U];exact Kept.refl A.out.inv
     clear U d hb;go_wp2_with fail
     go_meet
     exact ⟨rfl,HQ⟩
    ·rw [hb,zC rfl] at U;have HT:=hid U;clear U d hb;go_wp2_with fail
     refine (Dn 10 _ A.out.inv).mono ?_;rintro e w9 ⟨rfl,q9⟩;have HQ:Hid (Kept B p vo va vs T7 E w9):=by show Kept _ _ _ _ _ _ _ _;rw [HT.out];exact q9
     clear q9;go_wp2_with fail
     go_meet
     exact ⟨rfl,HQ⟩
   case rest=>
   obtain ⟨rfl,c0⟩:=hcut;clear U d;have d3:∀ o,WY p (some ⟨g,o,none⟩):=fun o b o' f e=>by simp only [xP,xX] at e;omega
   have f0:=CL (f6.out.JJ c0.out.kp (d3 0)) (d4.out.JJ c0.out.kp (d3 m));have J1:=MX (some ⟨g,0,none⟩) F Q wc (by rw [a7.out];omega) f0.out.1 c1.out.1;rw [a7.out] at J1;have r5:w.heap.size+3<=g:=zO;have s6:w.heap.size+3<=wc.heap.size:=by have h1:=c0.out.kp.size;have h2:=A.out.kp.size;omega
   go_wp2_with fail
   refine J1.mono ?_;clear J1;rintro e w8 ⟨b6,a5,rfl,k0,j7,g8⟩;have J2:=MX (some ⟨g,m,none⟩) (F - m) z w8 (by rw [a3.out];omega) (f0.out.2.below g8 zL) c1.out.2;rw [a3.out] at J2;have c2:=Ji k0 j7 g8;clear k0 j7 g8;go_wp2_with fail
   refine J2.mono ?_;clear J2;rintro e w9 ⟨b7,a6,rfl,k3,j8,g9⟩;have e3:=Ji k3 j8 g9;clear k3 j8 g9;have f5:=hid (c2.out.2.2.trans (e3.out.2.2.mono c2.out.2.2.size));have m0:=hid (((g1.out.trans A.out).trans c0.out).below f5.out);have f7:Hid (w9.heap[w.heap.size]?=some (.cells Av 273 (0,0))/\w9.heap[w.heap.size+1]?=some (.cells Av 273 (0,0))):=by
    have h1:=c0.out.kp;exact ⟨((f5.out.block _ zO).trans (h1.block _ (by have:=A.out.kp.size;omega) (by show w.heap.size≠p;omega))).trans O.out.1,((f5.out.block _ zO).trans (h1.block _ (by have:=A.out.kp.size;omega) (by show w.heap.size+1≠p;omega))).trans O.out.2.1⟩
   have i3:=DN (Ax Q) (some ⟨g,0,none⟩) b6 F a5;have i4:=DN (Ax z) (some ⟨g,m,none⟩) b7 (F - m) a6;have m1:=GF (Ax Q) (some ⟨g,0,none⟩) b6 F a5;have m2:=GF (Ax z) (some ⟨g,m,none⟩) b7 (F - m) a6;have c4:Hid (Av.size=(ED (Ax Q) (some ⟨g,0,none⟩) F b6 a5).size/\Av.size=(ED (Ax z) (some ⟨g,m,none⟩) (F - m) b7 a6).size):=⟨rfl,rfl⟩
   generalize n9:ED (Ax Q) (some ⟨g,0,none⟩) F b6 a5=ca at *;generalize o0:ED (Ax z) (some ⟨g,m,none⟩) (F - m) b7 a6=cb at *;have j5:=(xD w9 w.heap.size (w.heap.size+1) ca zO).trans f7.out.2;go_wp2_with (first | (refine yS rfl 273 _ _ rfl _ ca rfl rfl 273 _ f7.out.1 i3 c4.out.1 m1 ?_) | (refine yS rfl 273 _ _ rfl _ cb rfl rfl 273 _ j5 i4 c4.out.2 m2 ?_))
   have n7:((w9.setRow w.heap.size ca).setRow (w.heap.size+1) cb).heap[w.heap.size]?=some (.cells ca 273 (0,0)):=(xD _ _ _ _ zO).trans (xK _ _ _ _ _ _ f7.out.1);have n8:((w9.setRow w.heap.size ca).setRow (w.heap.size+1) cb).heap[w.heap.size+1]?=some (.cells cb 273 (0,0)):=xK _ _ _ _ _ _ j5;refine zX (v:= .tuple #[.agg ca, .agg cb]) ?_ rfl ?_
   ·exact Es results202 _ _ _ _ 273 273 ca cb (0,0) (0,0) _ rfl rfl n7 n8 underlying273 rfl i3 i4
   ·have g7:Below w.heap.size w9 ((w9.setRow w.heap.size ca).setRow (w.heap.size+1) cb):=xN (xN zB zL ca) zO cb;have e7:∀ k,k≠w.heap.size->k≠w.heap.size+1->((w9.setRow w.heap.size ca).setRow (w.heap.size+1) cb).heap[k]?=w9.heap[k]?:=fun k h1 h2=>(xD _ _ _ _ h2).trans (xD _ _ _ _ h1)
    have f3:0<Q.length:=by have:=a7.out;omega
    have f4:0<z.length:=by have:=a3.out;omega
    have s4:=c2.out.2.2.size;have A1:=c2.out.1.below e3.out.2.2;have A2:=e3.out.1;have mk:∀ (ad:Option Addr) (l:List Int),0<l.length->Ap w9 ad l->Fl (w.heap.size+3) ad->Ap ((w9.setRow w.heap.size ca).setRow (w.heap.size+1) cb) ad l/\Fs ((w9.setRow w.heap.size ca).setRow (w.heap.size+1) cb) p vo va ad:=fun ad l hl hc hn=>⟨hc.Ih g7.size (fun b o f e _=>e7 b (by have:=hn b o f e;omega) (by have:=hn b o f e;omega)),
      Fs.new i5.out (fun b o f e=>by have:=hn b o f e;omega) (fun b o f e=>zM (hc.lt hl b o f e) g7.size)⟩
    have n1:∀ o,Fl (w.heap.size+3) (some ⟨g,o,none⟩):=fun o b o' f e=>by simp only [xP,xX] at e;omega
    have M1:=mk (some ⟨g,0,none⟩) Q f3 A1.len (n1 0);have M2:=mk b6 (FR Q Q.length) (by rw [FP];exact f3) A1.fB (fun b o f e=>by have:=c2.out.2.1 b o f e;omega);have M3:=mk (some ⟨g,m,none⟩) z f4 A2.len (n1 m);have M4:=mk b7 (FR z z.length) (by rw [FP];exact f4) A2.fB (fun b o f e=>by have:=e3.out.2.1 b o f e;omega);rw [m3.out];exact ⟨some ⟨g,0,none⟩,b6,some ⟨g,m,none⟩,b7,F,a5,F - m,a6,by rw [<- n9,<- o0],m0.out.low i5.out g7,⟨⟨M1.1,M2.1⟩,M1.2,M2.2⟩,⟨⟨M3.1,M4.1⟩,M3.2,M4.2⟩,by have:=a7.out;show Q.length<=269;omega,by have:=a3.out;show z.length<=16;omega⟩
  ·have b4:=hid he;clear he;have r2:=aq O.out.2.2;have d0:=aq O.out.1;have d1:=aq O.out.2.1;obtain ⟨r20,r21,r22,r23⟩:=r2.1;obtain ⟨m8,m9,n0,n2⟩:=d0.1;obtain ⟨n3,n4,n5,n6⟩:=d1.1;obtain ⟨o4,o5,o6,o7⟩:=d0.2;obtain ⟨o8,o9,p0,p1⟩:=d1.2;clear r2 d0 d1;go_wp2_with (go_at_call 182;refine (Bc _ A.out.inv).mono ?_;rw [b4.out];rintro e u ⟨rfl,rfl⟩)
   go_region
   go_wp2_with fail
   have E0:=fun i v hv=>Gy (i:=i) (v:=v) O.out.1 hv
   have E1:=fun i v hv=>Gy (i:=i) (v:=v) O.out.2.1 hv
   rw [E0 0 (.slice none 0 0) rfl,E0 1 (.slice none 0 0) rfl,E0 2 (.int .i64 0) rfl,E0 3 (.bool false) rfl,E1 0 (.slice none 0 0) rfl,E1 1 (.slice none 0 0) rfl,E1 2 (.int .i64 0) rfl,E1 3 (.bool false) rfl];refine zX (v:= .tuple #[.agg Av, .agg Av]) ?_ rfl ?_
   ·exact Es results202 _ _ _ _ 273 273 Av Av (0,0) (0,0) _ rfl rfl O.out.1 O.out.2.1 underlying273 rfl (DN Du none none 0 0) (DN Du none none 0 0)
   ·have e1:t.own=(Du,Du,R.2):=by
     unfold Tr.own;rw [d7.out,i8.out];simp only;rw [zA (by rw [HE.out];simp),zC b4.out]
    rw [e1];have hk:=(g1.out.trans A.out).drewN 1;exact ⟨none,none,none,none,0,0,0,0,rfl,hk,⟨⟨fun k hk=>by simp [Du] at hk,fun k hk=>by simp [Du,FR] at hk⟩,Fs.none _ _ _ _,Fs.none _ _ _ _⟩,⟨⟨fun k hk=>by simp [Du] at hk,fun k hk=>by simp [Du,FR] at hk⟩,Fs.none _ _ _ _,Fs.none _ _ _ _⟩,by simp [Du],by simp [Du]⟩
 ·have HE:=hid he;clear he;have r2:=aq Z.out.2.2;have d0:=aq Z.out.1;have d1:=aq Z.out.2.1;obtain ⟨r20,r21,r22,r23⟩:=r2.1;obtain ⟨m8,m9,n0,n2⟩:=d0.1;obtain ⟨n3,n4,n5,n6⟩:=d1.1;obtain ⟨o4,o5,o6,o7⟩:=d0.2;obtain ⟨o8,o9,p0,p1⟩:=d1.2;clear r2 d0 d1;go_wp2_with (go_at_call 182;refine (Bc _ a0.out.inv).mono ?_;rw [HE.out];rintro e u ⟨rfl,rfl⟩)
  go_region
  go_wp2_with fail
  have E0:=fun i v hv=>Gy (i:=i) (v:=v) Z.out.1 hv
  have E1:=fun i v hv=>Gy (i:=i) (v:=v) Z.out.2.1 hv
  rw [E0 0 (.slice none 0 0) rfl,E0 1 (.slice none 0 0) rfl,E0 2 (.int .i64 0) rfl,E0 3 (.bool false) rfl,E1 0 (.slice none 0 0) rfl,E1 1 (.slice none 0 0) rfl,E1 2 (.int .i64 0) rfl,E1 3 (.bool false) rfl];refine zX (v:= .tuple #[.agg Av, .agg Av]) ?_ rfl ?_
  ·exact Es results202 _ _ _ _ 273 273 Av Av (0,0) (0,0) _ rfl rfl Z.out.1 Z.out.2.1 underlying273 rfl (DN Du none none 0 0) (DN Du none none 0 0)
  ·have e1:t.own=(Du,Du,S):=by
    unfold Tr.own;rw [d7.out];simp only;rw [zC HE.out]
   rw [e1];have hk:=(g1.out.trans a0.out).drewN 1;exact ⟨none,none,none,none,0,0,0,0,rfl,hk,⟨⟨fun k hk=>by simp [Du] at hk,fun k hk=>by simp [Du,FR] at hk⟩,Fs.none _ _ _ _,Fs.none _ _ _ _⟩,⟨⟨fun k hk=>by simp [Du] at hk,fun k hk=>by simp [Du,FR] at hk⟩,Fs.none _ _ _ _,Fs.none _ _ _ _⟩,by simp [Du],by simp [Du]⟩
theorem Di:Tr.Bi.length=269:=by rw [Tr.Bi,zI,yZ,yZ]
theorem Ey:Tr.Bw.length=16:=by rw [Tr.Bw,yZ]
theorem Np(m:Nat)(hx:De x=true):Ae (List.replicate m x)=true:=by
 have:=Tr.Dk (l:=[]) rfl hx m;rwa [AQ] at this
theorem XF:Ae Tr.Bi=true:=Tr.Dk (Np 243 zD) zD 26
theorem XG:Ae Tr.Bw=true:=Np 16 zD
theorem Zz(h:k<=242):Tr.Bi.take (k+1)=Tr.Bi.take k++[8]:=by
 have hk:k<Tr.Bi.length:=by rw [Di];omega
 rw [vA hk];have e:Tr.Bi[k]?=some 8:=by
  rw [Tr.Bi,kE (by rw [yZ];omega),vW,zC zO]
 rw [xR hk] at e;rw [xE e]
theorem Zy(h:242<k)(h2:k<269):Tr.Bi.take (k+1)=Tr.Bi.take k++[9]:=by
 have hk:k<Tr.Bi.length:=by rw [Di];omega
 rw [vA hk];have e:Tr.Bi[k]?=some 9:=by
  rw [Tr.Bi,AV (by rw [yZ];omega),vW,yZ,zC zO]
 rw [xR hk] at e;rw [xE e]
theorem VC(h:k<16):Tr.Bw.take (k+1)=Tr.Bw.take k++[4]:=by
 have hk:k<Tr.Bw.length:=by rw [Ey];omega
 rw [vA hk];have e:Tr.Bw[k]=4:=List.getElem_replicate _;rw [e]
structure Wb(W:World)(l:List Int)(v:Value)(wr:World)(k:Nat):Prop where
 own:wr.ownsRow W.heap.size 3 1 v k (Al (l.take k))
 bel:Below W.heap.size W wr
theorem Wb.next{v:Value}{w5:World}{c:Nat}{o:Obj}(h:Wb W l v wr k)(hl:l.take (k+1)=l.take k++[x])
  (b:w5.ownsRow W.heap.size 3 1 (.slice (some ⟨g,0,none⟩) (k+1) c) (k+1) (Al (l.take k)++[.int .i64 x])) (a:(wr.alloc o).grownBy w5 v.ownBlock):Wb W l (.slice (some ⟨g,0,none⟩) (k+1) c) w5 (k+1):=by
 refine ⟨?_,(h.bel.alloc h.bel.size _).grown a (by have:=h.bel.size;simp;omega) (fun g d=>(h.own.lt g d).1)⟩;rw [hl];have e:Al (l.take k++[x])=Al (l.take k)++[.int .i64 x]:=by simp [Al]
 rw [e];exact b
theorem aB(w:World) :
  Calls prog 200 #[] w fun x w'=>∃ a1 a2 b1 b2 k1 k2 l1 l2,x= .returned (.tuple #[.agg (ED (Ax Tr.Bi) a1 k1 a2 k2), .agg (ED (Ax Tr.Bw) b1 l1 b2 l2)])/\JZ w' (Ax Tr.Bi) a1 a2/\JZ w' (Ax Tr.Bw) b1 b2/\Fl w.heap.size a1/\Fl w.heap.size a2/\Fl w.heap.size b1/\Fl w.heap.size b2/\Below w.heap.size w w':=by
 obtain ⟨r,z⟩:=qe ((w.alloc (.cells Av 273)).alloc (.cells Av 273));have B0:Below w.heap.size w r:=by rw [z];exact (zB.alloc zL _).alloc zS _
 have c7:r.heap.size=w.heap.size+2:=by rw [z];simp
 have HG:Hid (r.heap[w.heap.size]?=some (.cells Av 273 (0,0))/\r.heap[w.heap.size+1]?=some (.cells Av 273 (0,0))):=by
  show _/\_;rw [z];refine ⟨?_,?_⟩
  ·rw [yK _ _ _ zS];exact zJ _ _
  ·have:=zJ (w.alloc (.cells Av 273)) (.cells Av 273);simpa using this
 have b7:=hid B0;have H0:Hid (Wb r Tr.Bi (.slice none 0 0) r 0):=⟨yU _ _ _ _,zF _ _⟩
 obtain ⟨i3,Q,T,U,V⟩:=yM Gf;clear B0;go_enter func200,ntmps200
 go_wp2_with fail
 have b3:((w.alloc (Obj.cells #[.slice none 0 0, .slice none 0 0, .int .i64 0, .bool false] 273)).alloc (Obj.cells #[.slice none 0 0, .slice none 0 0, .int .i64 0, .bool false] 273))=r:=z.symm;rw [b3];clear b3 z;go_loopw [2,3] (fun v i wr=>∃ k:Nat,k<=269/\i= .int .i64 k/\Hid (Wb r Tr.Bi v wr k)) (fun _ i _=>269 - (intOf i).toNat)
 case atStart=>exact ⟨0,zH _,rfl,H0⟩
 case round=>
  obtain ⟨k,hk,rfl,q⟩:=hrel;clear H0;have c:=q.out.own;have L:=q.out.bel.size;by_cases R:k<269
  ·by_cases a3:242<k
   ·go_wp2_with (at_builtin;refine xC _ rfl _ _ 69 rfl r.heap.size 3 i3 (.int .i64 0) 1 8 underlying69 Q T U V rfl zD u2 k (Al (Tr.Bi.take k)) rfl (c.alloc _) ⟨wr.heap.size,0,none⟩ 1 1 [.int .i64 9] rfl rfl (yX _ _ _) (by simp [Value.oneCell']) zO (by unfold maxLen;omega) zO (by simp;omega) (wr.heap.size+1) zS ?_;intro g2 I w5 d a n p)
    have HN:=hid (q.out.next (Zy a3 R) d a);clear d a n p c;go_roundw
    case rel=>exact ⟨k+1,zO,by go_num,HN⟩
    case measure=>simp [intOf];omega
   ·go_wp2_with (at_builtin;refine xC _ rfl _ _ 69 rfl r.heap.size 3 i3 (.int .i64 0) 1 8 underlying69 Q T U V rfl zD u2 k (Al (Tr.Bi.take k)) rfl (c.alloc _) ⟨wr.heap.size,0,none⟩ 1 1 [.int .i64 8] rfl rfl (yX _ _ _) (by simp [Value.oneCell']) zO (by unfold maxLen;omega) zO (by simp;omega) (wr.heap.size+1) zS ?_;intro g2 I w5 d a n p)
    have HN:=hid (q.out.next (Zz zO) d a);clear d a n p c;go_roundw
    case rel=>exact ⟨k+1,zO,by go_num,HN⟩
    case measure=>simp [intOf];omega
  ·have HK:Hid (k=269):=by show k=269;omega
   go_wp2_with fail
   obtain ⟨b6,A⟩:=qe u2;obtain ⟨E,S⟩:=qe wr;have HA:Hid (E.ownsRow r.heap.size 3 1 b6 269 (Al Tr.Bi)/\Below r.heap.size r E):=by
    show _/\_;rw [S,A];have h:=q.out.own;rw [HK.out,xU (by rw [Di];omega)] at h;exact ⟨h,q.out.bel⟩
   have H1:Hid (Wb E Tr.Bw (.slice none 0 0) E 0):=⟨yU _ _ _ _,zF _ _⟩
   rw [<- S,<- A];clear S A q c L;go_loopw [5,6] (fun v i wr=>∃ k:Nat,k<=16/\i= .int .i64 k/\Hid (Wb E Tr.Bw v wr k)) (fun _ i _=>16 - (intOf i).toNat)
   case atStart=>exact ⟨0,zH _,rfl,H1⟩
   case round=>
    obtain ⟨k,hk,rfl,q⟩:=hrel;clear H1;have c:=q.out.own;have L:=q.out.bel.size;by_cases R:k<16
    ·go_wp2_with (at_builtin;refine xC _ rfl _ _ 69 rfl E.heap.size 3 i3 (.int .i64 0) 1 8 underlying69 Q T U V rfl zD u5 k (Al (Tr.Bw.take k)) rfl (c.alloc _) ⟨wr.heap.size,0,none⟩ 1 1 [.int .i64 4] rfl rfl (yX _ _ _) (by simp [Value.oneCell']) zO (by unfold maxLen;omega) zO (by simp;omega) (wr.heap.size+1) zS ?_;intro g2 I w5 d a n p)
     have HN:=hid (q.out.next (VC R) d a);clear d a n p c;go_roundw
     case rel=>exact ⟨k+1,zO,by go_num,HN⟩
     case measure=>simp [intOf];omega
    ·obtain rfl:k=16:=zO;have O:wr.ownsRow E.heap.size 3 1 u5 16 (Al Tr.Bw):=by
      have h:=q.out.own;rw [xU (by rw [Ey];omega)] at h;exact h
     obtain ⟨J,W,b4,c8,d0⟩:=HA.out.1.form zO;obtain ⟨g2,I,b5,c9,d1⟩:=O.form zO;have X:=hid q.out.bel;have b8:Hid (Ap E (some ⟨J,0,none⟩) Tr.Bi):=by
      obtain ⟨ad,cap,e,hc⟩:=OI.cells (w:=E) (B:=r.heap.size) (v:=b6) (l:=Tr.Bi) (by rw [OI,Di];exact HA.out.1);rw [b4,Di] at e;cases e
      exact hc
     have b9:Hid (Ap wr (some ⟨g2,0,none⟩) Tr.Bw):=by
      obtain ⟨ad,cap,e,hc⟩:=OI.cells (w:=wr) (B:=E.heap.size) (v:=u5) (l:=Tr.Bw) (by rw [OI,Ey];exact O);rw [b5,Ey] at e;cases e
      exact hc
     subst b4 b5;have c6:=HA.out.2.size;clear O c q;have J1:=MX (some ⟨J,0,none⟩) W Tr.Bi wr (by rw [Di];omega) (b8.out.below X.out zL) XF;rw [Di] at J1;go_wp2_with fail
     refine J1.mono ?_;clear J1;rintro e w8 ⟨s,g,rfl,a8,a6,P⟩;have J2:=MX (some ⟨g2,0,none⟩) I Tr.Bw w8 (by rw [Ey];omega) (b9.out.below P zL) XG;rw [Ey] at J2;have u:=Ji a8 a6 P;clear a8 a6 P;go_wp2_with fail
     refine J2.mono ?_;clear J2;rintro e C ⟨t,j,rfl,a9,a7,b0⟩;have G:=Ji a9 a7 b0;clear a9 a7 b0;have F:=hid (HA.out.2.trans (X.out.mono c6));have M:=hid (F.out.trans ((u.out.2.2.mono F.out.size).trans (G.out.2.2.mono (zG F.out.size u.out.2.2.size))));have N:Hid (C.heap[w.heap.size]?=some (.cells Av 273 (0,0))/\C.heap[w.heap.size+1]?=some (.cells Av 273 (0,0))):=⟨(M.out.block _ zO).trans HG.out.1,(M.out.block _ zO).trans HG.out.2⟩
     have Y:=DN (Ax Tr.Bi) (some ⟨J,0,none⟩) s W g;have Z:=DN (Ax Tr.Bw) (some ⟨g2,0,none⟩) t I j;have c0:=GF (Ax Tr.Bi) (some ⟨J,0,none⟩) s W g;have c1:=GF (Ax Tr.Bw) (some ⟨g2,0,none⟩) t I j;have a0:Hid (Av.size=(ED (Ax Tr.Bi) (some ⟨J,0,none⟩) W s g).size/\Av.size=(ED (Ax Tr.Bw) (some ⟨g2,0,none⟩) I t j).size):=⟨rfl,rfl⟩
     generalize c4:ED (Ax Tr.Bi) (some ⟨J,0,none⟩) W s g=y at *;generalize c5:ED (Ax Tr.Bw) (some ⟨g2,0,none⟩) I t j=D at *;have a5:=(xD C w.heap.size (w.heap.size+1) y zO).trans N.out.2;go_wp2_with (first | (refine yS rfl 273 _ _ rfl _ y rfl rfl 273 _ N.out.1 Y a0.out.1 c0 ?_) | (refine yS rfl 273 _ _ rfl _ D rfl rfl 273 _ a5 Z a0.out.2 c1 ?_))
     have c2:((C.setRow w.heap.size y).setRow (w.heap.size+1) D).heap[w.heap.size]?=some (.cells y 273 (0,0)):=(xD _ _ _ _ zO).trans (xK _ _ _ _ _ _ N.out.1);have c3:((C.setRow w.heap.size y).setRow (w.heap.size+1) D).heap[w.heap.size+1]?=some (.cells D 273 (0,0)):=xK _ _ _ _ _ _ a5;refine zX (v:= .tuple #[.agg y, .agg D]) ?_ rfl ?_
     ·exact Es results200 _ _ _ _ 273 273 y D (0,0) (0,0) _ rfl rfl c2 c3 underlying273 rfl Y Z
     ·have a4:Below w.heap.size C ((C.setRow w.heap.size y).setRow (w.heap.size+1) D):=xN (xN zB zL y) zO D;have H:∀ k,k≠w.heap.size->k≠w.heap.size+1->((C.setRow w.heap.size y).setRow (w.heap.size+1) D).heap[k]?=C.heap[k]?:=fun k h1 h2=>(xD _ _ _ _ h2).trans (xD _ _ _ _ h1)
      have d2:=u.out.2.2.size;have d3:=F.out.size;have A1:=u.out.1.below G.out.2.2;have A2:=G.out.1;have mk:∀ (ad:Option Addr) (l:List Int),Ap C ad l->Fl (w.heap.size+2) ad->Ap ((C.setRow w.heap.size y).setRow (w.heap.size+1) D) ad l:=fun ad l hc hn=>
       hc.Ih a4.size (fun b o f e _=>H b (by have:=hn b o f e;omega) (by have:=hn b o f e;omega))
      have n1:Fl (w.heap.size+2) (some ⟨J,0,none⟩):=fun b o' f e=>by simp only [xP,xX] at e;omega
      have n2:Fl (w.heap.size+2) (some ⟨g2,0,none⟩):=fun b o' f e=>by simp only [xP,xX] at e;omega
      have n3:Fl (w.heap.size+2) s:=fun b o f e=>by have:=u.out.2.1 b o f e;omega
      have n4:Fl (w.heap.size+2) t:=fun b o f e=>by have:=G.out.2.1 b o f e;omega
      have lo:∀ {ad},Fl (w.heap.size+2) ad->Fl w.heap.size ad:=fun h b o f e=>by have:=h b o f e;omega
      exact ⟨some ⟨J,0,none⟩,s,some ⟨g2,0,none⟩,t,W,g,I,j,by rw [<- c4,<- c5],⟨mk _ _ A1.len n1,mk _ _ A1.fB n3⟩,⟨mk _ _ A2.len n2,mk _ _ A2.fB n4⟩,lo n1,lo n3,lo n2,lo n4,(b7.out.trans (M.out.mono zO)).trans a4⟩
namespace Tr
theorem Gu(c:Prop)[Decidable c](t:Tr)(he:e≠0):Da t (if c then t.fail e else t):=by
 split
 ·exact CK t he
 ·exact Da.refl t
theorem Ao.Vg(c:Prop)[Decidable c](h:Ao t)(he:e<=18):Ao (if c then t.fail e else t):=by
 split
 ·exact h.fail he
 ·exact h
theorem IU(t:Tr):Da t t.CP.2.2.2/\(Ao t->Ao t.CP.2.2.2)/\(t.CP.2.2.2.ended=false->t.CP.1<=12):=by
 unfold CP;dsimp only
 have d:=Bb t 4;have e:Ao t->Ao (t.number 4).2:=fun h=>h.number 4
 generalize t.number 4=A at *;have a:Da t (if 12<A.1 then A.2.fail 10 else A.2)/\(Ao t->Ao (if 12<A.1 then A.2.fail 10 else A.2))/\((if 12<A.1 then A.2.fail 10 else A.2).ended=false->A.1<=12):=by
  split
  ·exact ⟨d.trans (CK _ zD),fun h=>(e h).fail zD,fun h=>by rw [Cz _ zD] at h;cases h⟩
  ·exact ⟨d,e,fun _=>zO⟩
 generalize (if 12<A.1 then A.2.fail 10 else A.2)=b at *;have c:=(Bb b 4).trans (Bb _ 4);have f:Ao b->Ao ((b.number 4).2.number 4).2:=fun h=>(h.number 4).number 4
 generalize ((b.number 4).2.number 4)=C at *;split
 ·exact ⟨(a.1.trans c).trans (CK _ zD),fun h=>(f (a.2.1 h)).fail zD,fun h=>by rw [Cz _ zD] at h;cases h⟩
 ·exact ⟨a.1.trans c,fun h=>f (a.2.1 h),fun h=>a.2.2 (c.Gh h)⟩
theorem VN(t:Tr):Da t t.CP.2.2.2:=(IU t).1
theorem Ao.CP(h:Ao t):Ao t.CP.2.2.2:=(IU t).2.1 h
theorem Xh(h:t.CP.2.2.2.ended=false):t.CP.1<=12:=(IU t).2.2 h
theorem Ao.helps(r:Nat):∀ (i:Nat) (L:List Int) (t:Tr),Ao t->Ao (Tr.helps r i L t).2:=by
 induction r with
 | zero=>intro i L t h;exact h
 | succ r ih=>
  intro i L t h;unfold Tr.helps;split
  ·exact h
  ·exact ih _ _ _ (h.number 3)
theorem Lr(t:Tr):Da t.CP.2.2.2 t.DW.2:=by
 unfold DW;simp only;refine (Rv (4+t.CP.2.2.1) 0 (List.replicate 15 0) t.CP.2.2.2).trans ?_;split
 ·exact Da.refl _
 ·exact CK _ zD
theorem Ao.DW(h:Ao t):Ao t.DW.2:=by
 unfold Tr.DW;simp only;split
 ·exact Ao.helps _ _ _ _ h.CP
 ·exact (Ao.helps _ _ _ _ h.CP).fail zD
theorem SV(t:Tr):Da t t.own.2.2/\(Ao t->Ao t.own.2.2):=by
 have b:=(VN t).trans (Lr t);have c:Ao t->Ao t.DW.2:=fun h=>h.DW
 have r:=Sf (H:=Ax t.DW.1) (n:=257+t.CP.1+1+t.CP.2.1) t.DW.2.mu [] t.DW.2 zL;have a:Da t t.ownRow.2:=b.trans r.1;have g2:Ao t->Ao t.ownRow.2:=fun h=>r.2.1 (c h)
 clear r;unfold own;generalize t.ownRow=R at *;generalize t.DW=e at *;generalize t.CP=d at *;dsimp only
 split
 ·exact ⟨b,c⟩
 ·split
  ·exact ⟨a,g2⟩
  ·dsimp only
   split
   ·exact ⟨a.trans (CK _ zD),fun h=>(g2 h).fail zD⟩
   ·exact ⟨a,g2⟩
theorem Oe(t:Tr):Da t t.own.2.2:=(SV t).1
theorem Ao.own(h:Ao t):Ao t.own.2.2:=(SV t).2 h
theorem ZG(t:Tr):t.own.1.l.length<=269:=by
 unfold own;split
 ·simp [Du]
 ·split
  ·simp [Du]
  ·rename_i h1 h2
   have h3:=Xh ((Lr t).Gh (by simpa using h1));show (t.ownRow.1.take (257+t.CP.1)).length<=269;rw [jS];omega
theorem NX(k:Nat)(t:Tr):Df t (block k t)/\(Ao t->Ao (block k t)):=by
 unfold block;split
 ·exact ⟨av t,fun h=>h.plain⟩
 ·split
  ·exact OC (by show Tr.Bi.length<=269;rw [Di];omega) t.mu t zL
  ·split
   ·have c:=OC (a:=t.own.1) (b:=t.own.2.1) (ZG t) t.own.2.2.mu t.own.2.2 zL;exact ⟨(Oe t).run.trans c.1,fun h=>c.2 h.own⟩
   ·exact ⟨(CK t zD).run,fun h=>h.fail zD⟩
theorem Fe(h:t.ended=true):Bz t=t:=by rw [Bz,zC h]
theorem Gt(h:t.ended=false)(h2:(t.bit.2.number 2).2.ended=true):Bz t=(t.bit.2.number 2).2:=by
 rw [Bz,zA (by rw [h];simp),zC h2]
theorem IA(h:t.ended=false)(h2:(t.bit.2.number 2).2.ended=false)(h3:t.bit.1≠0):Bz t=if (block (t.bit.2.number 2).1 (t.bit.2.number 2).2).ended then block (t.bit.2.number 2).1 (t.bit.2.number 2).2 else (block (t.bit.2.number 2).1 (t.bit.2.number 2).2).skip:=by
 rw [Bz,zA (by rw [h];simp),zA (by rw [h2];simp),zC h3]
theorem MH(h:t.ended=false):(block (t.bit.2.number 2).1 (t.bit.2.number 2).2).mu<t.mu:=
 vR (zG (NX _ _).1.mu (Bb t.bit.2 2).mu) (dT h)
theorem KC(h:t.ended=false)(h2:(t.bit.2.number 2).2.ended=false)(h3:t.bit.1=0):Bz t=Bz (block (t.bit.2.number 2).1 (t.bit.2.number 2).2):=by
 rw [Bz,zA (by rw [h];simp),zA (by rw [h2];simp),zA (by rw [h3];simp),kH (MH h)]
theorem Qf:∀ (n:Nat) (t:Tr),t.mu<=n->Df t (Bz t)/\(Ao t->Ao (Bz t)):=by
 intro n;induction n with
 | zero=>
  intro t d;have he:t.ended=true:=by
   cases h:t.ended
   ·have:=IT h;omega
   ·rfl
  rw [Fe he];exact ⟨Df.refl t,fun h=>h⟩
 | succ n ih=>
  intro t d;cases h1:t.ended
  ·have b:=(Fb t).trans (Bb t.bit.2 2);cases h2:(t.bit.2.number 2).2.ended
   ·have rb:=NX (t.bit.2.number 2).1 (t.bit.2.number 2).2;have rr:=b.run.trans rb.1;have a:Ao t->Ao (block (t.bit.2.number 2).1 (t.bit.2.number 2).2):=fun h=>rb.2 (h.bit.number 2)
    have c:=MH h1;by_cases h3:t.bit.1=0
    ·rw [KC h1 h2 h3];have k:=ih _ (show (block (t.bit.2.number 2).1 (t.bit.2.number 2).2).mu<=n by omega);exact ⟨rr.trans k.1,fun h=>k.2 (a h)⟩
    ·rw [IA h1 h2 h3];split
     ·exact ⟨rr,a⟩
     ·exact ⟨rr.trans (Lt _).run,fun h=>(a h).skip⟩
   ·rw [Gt h1 h2];exact ⟨b.run,fun h=>h.bit.number 2⟩
  ·rw [Fe h1];exact ⟨Df.refl t,fun h=>h⟩
theorem Lc(h:Ao t):t.blocks.s=t.s/\t.blocks.Aa=t.Aa/\t.blocks.cost<=t.cost/\t.blocks.mu<=t.mu/\Ao t.blocks/\(t.ended=true->t.blocks.ended=true)/\t.blocks.Ai=t.Ai:=by
 have a:({ t with CY:=t.out.length,left:=0 }:Tr).mu<=t.mu:=by
  cases he:t.ended
  ·rw [Ch he,Ch (t:={ t with CY:=t.out.length,left:=0 }) he];simp only;omega
  ·rw [Ef (t:={ t with CY:=t.out.length,left:=0 }) he];omega
 have b:Ao ({ t with CY:=t.out.length,left:=0 }:Tr):=⟨zH _,h.cur,h.Aw,zE _,h.Br,h.err⟩
 have hc:({ t with CY:=t.out.length,left:=0 }:Tr).cost<=t.cost:=by
  show t.out.length+66*({ t with CY:=t.out.length,left:=0 }:Tr).mu<=t.out.length+66*t.mu;omega
 have r:=Qf _ ({ t with CY:=t.out.length,left:=0 }:Tr) zL;exact ⟨r.1.s,r.1.Aa,zG r.1.cost hc,zG r.1.mu a,r.2 b,fun he=>r.1.ended he,r.1.Ai⟩
end Tr
end Go.Proofs.YtbcjmakpempkiaaGreatDoor
