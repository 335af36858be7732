import Derived.Test.YtbcjmakpempkiaaGreatDoorX13
set_option maxRecDepth 100000
set_option maxHeartbeats 8000000
set_option linter.all false
namespace Go.Proofs.YtbcjmakpempkiaaGreatDoor
variable {t:Tr} {B p:Nat} {va vo vs:Value}
open Go.Proofs.Tryz
open Go.RowKit
theorem Tr.QO{K:Nat}(h:t.cost<=K):66*t.mu<=K:=by unfold Tr.cost at h;omega
theorem eY(w:World)(h:Ft B p vo va vs t w)(hf:t.Ao)(hs:t.s.size<=maxLen)(hc:t.cost<=900000000000)(hb:Bp t)(hO:Bs w B) :
  Calls prog 184 #[.pointer (some ⟨p,0,none⟩)] w fun x w'=>x= .returned (.tuple #[])/\∃ c4 c3,EH B p vo va vs c4 c3 t.Dw w w':=by
 have b0:=Tr.QO hc;have z:=Tr.RM t;have hd:=Tr.Ly t;obtain ⟨M,hM⟩:=qe t.mu;have Z:=hd.2.2.1;rw [<- hM] at b0 z Z;have A:Hid (M+3<=1000000000000000):=by show M+3<=_;omega
 have HD:=Ji hd.1 (hd.2.1 hf) Z;have b9:=h.row.frozen 10;have c1:=h.row.frozen 11;have a9:=h.row.cell (i:=10) zO;have b8:=h.row.cell (i:=11) zO;have K0:Kept B p vo va vs { t with head:=0,many:=0 } w ((w.setCell ⟨p,10,none⟩ (.int .i64 0)).setCell ⟨p,11,none⟩ (.int .i64 0)):=UW (UT (Kept.refl h) 0) 0;obtain ⟨W0,Y⟩:=qe ((w.setCell ⟨p,10,none⟩ (.int .i64 0)).setCell ⟨p,11,none⟩ (.int .i64 0));rw [<- Y] at K0;obtain ⟨tz,a0⟩:=qe ({ t with head:=0,many:=0 }:Tr);rw [<- a0] at K0 z;have C:Hid (Kept B p vo va vs tz w W0/\tz.s.size<=maxLen/\Tr.IN M tz):=⟨K0,by rw [z.1.s];exact hs,z.2.2⟩
 have b4:Hid (t.DA=(tz.Ea 76).Ea 2):=by show _=_;rw [a0];rfl
 have a7:Hid ((tz.Ea 76).s.size<=maxLen/\Tr.IN (M+1) (tz.Ea 76)):=⟨by rw [(Tr.GZ tz 76).s,z.1.s];exact hs,z.2.2.Ea 76⟩
 have HZ:=IQ hs hc hb hf;have HO:=hid hO;have b5:Hid (True->t.Dw=(t.DA.Au.2.marked t.DA.Au.1).blocks.sum.sized):=fun _=>rfl
 clear h hf hs hc hb hO z hd K0 a0 b0 Z hM;go_enter func184,ntmps184
 go_wp2_with fail
 rw [<- Y];clear Y b9 c1 a9 b8;refine (eX M 76 _ C.out.1.inv C.out.2.1 C.out.2.2 (by have:=A.out;omega)).mono ?_;rintro e w1 ⟨rfl,k1⟩;have S:=hid (C.out.1.trans k1);clear k1;go_wp2_with fail
 refine (eX (M+1) 2 _ S.out.inv a7.out.1 a7.out.2 (by have:=A.out;omega)).mono ?_;rintro e w2 ⟨rfl,k2⟩;have T:Hid (Kept B p vo va vs t.DA w w2):=by show Kept _ _ _ _ _ _ _ _;rw [b4.out];exact S.out.trans k2
 clear k2 S C;have b7:Hid (t.DA.s.size<=maxLen):=by show _<=_;rw [HD.out.1.s];exact HZ.out.1
 go_wp2_with fail
 refine (UP (M+2) _ T.out.inv b7.out HD.out.2.2 (by have:=A.out;omega)).mono ?_;rintro e w3 ⟨rfl,k3⟩;have I:=hid (T.out.trans k3);have hm:t.DA.Au.1<256:=Tr.Dl t.DA;have H:Hid (Tr.Da t t.DA.Au.2/\t.DA.Au.2.Ao/\Tr.IN (M+3) t.DA.Au.2):=⟨HD.out.1.trans (Tr.FK _),HD.out.2.1.Au,HD.out.2.2.Au⟩
 clear k3 T;generalize t.DA.Au=c at *;obtain ⟨F,d⟩:=qe (if 7<c.1 then c.2.fail 4 else c.2);obtain ⟨G,j⟩:=qe (if c.1%2=1 then F.text else F);obtain ⟨u,k⟩:=qe (if c.1 / 2%2=1 then G.text else G);obtain ⟨o,l⟩:=qe (if c.1 / 4=1 then u.Ea u.head else u);have b6:Hid (True->c.2.marked c.1=o):=fun _=>by rw [l,k,j,d];rfl
 have G2:Tr.Da t F/\F.Ao/\Tr.IN (M+3) F:=by
  rw [d];split
  ·exact ⟨H.out.1.trans (Tr.CK _ zD),H.out.2.1.fail zD,H.out.2.2.fail zD⟩
  ·exact H.out
 have G3:Tr.Da t G/\G.Ao/\Tr.IN (M+3) G:=by
  rw [j];split
  ·exact ⟨G2.1.trans (Tr.Lv _),G2.2.1.text,G2.2.2.text⟩
  ·exact G2
 have G4:Tr.Da t u/\u.Ao/\Tr.IN (M+3) u:=by
  rw [k];split
  ·exact ⟨G3.1.trans (Tr.Lv _),G3.2.1.text,G3.2.2.text⟩
  ·exact G3
 have G5:Tr.Da t o/\o.Ao:=by
  rw [l];split
  ·exact ⟨G4.1.trans (Tr.GZ _ _),G4.2.1.Ea _⟩
  ·exact ⟨G4.1,G4.2.1⟩
 have y:=IQ G2 G3 G4 G5;have E:Hid (∀ x:Tr,Tr.Da t x->x.s.size<=maxLen):=fun x f=>by rw [f.s];exact HZ.out.1
 have a2:Hid (True->F=(if 7<c.1 then c.2.fail 4 else c.2)):=fun _=>d
 have a3:Hid (True->G=(if c.1%2=1 then F.text else F)):=fun _=>j
 have a4:Hid (True->u=(if c.1 / 2%2=1 then G.text else G)):=fun _=>k
 have a5:Hid (True->o=(if c.1 / 4=1 then u.Ea u.head else u)):=fun _=>l
 clear G2 G3 G4 G5 d j k l;generalize c.1=m at *;go_upto_if 19 with fail
 go_cut [2] (fun s2 wx=>s2= .int .i64 m/\Hid (Kept B p vo va vs F w wx))
 case first=>
  by_cases h7:7<m
  ·have d:=(a2.out trivial)
   rw [zC h7] at d;have X:=hid d;clear d;go_wp2_with fail
   refine (Dn 4 _ I.out.inv).mono ?_;rintro e w4 ⟨rfl,k4⟩;have r:Hid (Kept B p vo va vs F w w4):=by show Kept _ _ _ _ _ _ _ _;rw [X.out];exact I.out.trans k4
   clear k4;go_wp2_with fail
   go_meet
   exact ⟨rfl,r⟩
  ·have d:=(a2.out trivial)
   rw [zA h7] at d;have r:Hid (Kept B p vo va vs F w w3):=by show Kept _ _ _ _ _ _ _ _;rw [d];exact I.out
   clear d;go_wp2_with fail
   go_meet
   exact ⟨rfl,r⟩
 case rest=>
 obtain ⟨rfl,L⟩:=hcut;clear I;go_upto_if 24 with fail
 go_cut [2,24] (fun s2 _ wx=>s2= .int .i64 m/\Hid (Kept B p vo va vs G w wx))
 case first=>
  by_cases h1:m%2=1
  ·have j:=(a3.out trivial)
   rw [zC h1] at j;have X:=hid j;have hd:((m:Int)%2==1)=true:=by simp;omega
   clear j h1;go_wp2_with fail
   refine (eb (M+3) _ L.out.inv (E.out _ y.out.1.1) y.out.1.2.2 (by have:=A.out;omega)).mono ?_;rintro e w4 ⟨rfl,k4⟩;have r:Hid (Kept B p vo va vs G w w4):=by show Kept _ _ _ _ _ _ _ _;rw [X.out];exact L.out.trans k4
   clear k4;go_wp2_with fail
   go_meet
   exact ⟨rfl,r⟩
  ·have j:=(a3.out trivial)
   rw [zA h1] at j;have hd:((m:Int)%2==1)=false:=by simp;omega
   obtain ⟨wy,c2⟩:=qe wc;have r:Hid (Kept B p vo va vs G w wc):=by show Kept _ _ _ _ _ _ _ _;rw [j];exact L.out
   clear j c2;go_wp2_with fail
   go_meet
   exact ⟨rfl,r⟩
 case rest=>
 obtain ⟨rfl,N⟩:=hcut;clear L;go_upto_if 30 with fail
 go_cut [2,30] (fun s2 _ wx=>s2= .int .i64 m/\Hid (Kept B p vo va vs u w wx))
 case first=>
  by_cases h1:m / 2%2=1
  ·have k:=(a4.out trivial)
   rw [zC h1] at k;have X:=hid k;have hd:((m:Int) / 2%2==1)=true:=by simp;omega
   clear k h1;go_wp2_with fail
   refine (eb (M+3) _ N.out.inv (E.out _ y.out.2.1.1) y.out.2.1.2.2 (by have:=A.out;omega)).mono ?_;rintro e w4 ⟨rfl,k4⟩;have r:Hid (Kept B p vo va vs u w w4):=by show Kept _ _ _ _ _ _ _ _;rw [X.out];exact N.out.trans k4
   clear k4;go_wp2_with fail
   go_meet
   exact ⟨rfl,r⟩
  ·have k:=(a4.out trivial)
   rw [zA h1] at k;have hd:((m:Int) / 2%2==1)=false:=by simp;omega
   have r:Hid (Kept B p vo va vs u w wc):=by show Kept _ _ _ _ _ _ _ _;rw [k];exact N.out
   clear k;go_wp2_with fail
   go_meet
   exact ⟨rfl,r⟩
 case rest=>
 obtain ⟨rfl,D⟩:=hcut;clear N;go_upto_if 35 with fail
 go_cut [2,35] (fun s2 _ wx=>s2= .int .i64 m/\Hid (Kept B p vo va vs o w wx))
 case first=>
  by_cases h1:m / 4=1
  ·have l:=(a5.out trivial)
   rw [zC h1] at l;have X:=hid l;have hd:((m:Int) / 4==1)=true:=by simp;omega
   have a9:wc.cell? ⟨p,10,none⟩=some (.int .i64 u.head):=D.out.inv.row.cell (i:=10) zO;clear l h1;go_wp2_with fail
   refine (eX (M+3) u.head _ D.out.inv (E.out _ y.out.2.2.1.1) y.out.2.2.1.2.2 (by have:=A.out;omega)).mono ?_;rintro e w4 ⟨rfl,k4⟩;have r:Hid (Kept B p vo va vs o w w4):=by show Kept _ _ _ _ _ _ _ _;rw [X.out];exact D.out.trans k4
   clear k4;go_wp2_with fail
   go_meet
   exact ⟨rfl,r⟩
  ·have l:=(a5.out trivial)
   rw [zA h1] at l;have hd:((m:Int) / 4==1)=false:=by simp;omega
   have r:Hid (Kept B p vo va vs o w wc):=by show Kept _ _ _ _ _ _ _ _;rw [l];exact D.out
   clear l;go_wp2_with fail
   go_meet
   exact ⟨rfl,r⟩
 case rest=>
 obtain ⟨rfl,O⟩:=hcut;clear D;have R:=CL (zG y.out.2.2.2.1.cost HZ.out.2.1) (y.out.2.2.2.1.Dp HZ.out.2.2.1);go_wp2_with fail
 refine (Qz _ O.out.inv y.out.2.2.2.2 (E.out _ y.out.2.2.2.1) R.out.1 (HO.out.below O.out.bel)).mono ?_;rintro e w6 ⟨rfl,a1,b3,m6⟩;have U:=hid (O.out.Dt.trans m6);have PB:=Tr.Gi y.out.2.2.2.2;have q:Hid (o.blocks.Ao/\o.blocks.s.size<=maxLen/\o.blocks.cost<=900000000000/\Bp o.blocks):=⟨PB.CU y.out.2.2.2.2,by rw [PB.s];exact E.out _ y.out.2.2.2.1,zG PB.cost R.out.1,PB.bytes R.out.2⟩
 have Q:Hid (True->t.Dw=o.blocks.sum.sized):=fun _=>by rw [(b5.out trivial),(b6.out trivial)]
 clear m6 PB O;go_wp2_with fail
 refine (iR _ U.out.inv q.out.1 q.out.2.1 (by have:=Tr.NT q.out.2.2.1;omega) q.out.2.2.2).mono ?_;rintro e w7 ⟨rfl,k7⟩;have V:=hid (U.out.then k7);have J:Hid (o.blocks.sum.Ao/\o.blocks.sum.s.size<=maxLen/\o.blocks.sum.out.length<=900000000000):=⟨q.out.1.sum,by rw [(Tr.Lu _).s];exact q.out.2.1,by rw [(Tr.Lu _).out];exact Tr.NT q.out.2.2.1⟩
 clear k7 U;generalize o.blocks.sum=v at *;go_wp2_with fail
 refine (Gc _ V.out.inv J.out.2.1).mono ?_;rintro e w8 ⟨rfl,k8⟩;have W:=hid (V.out.then k8);clear k8;go_wp2_with fail
 refine (Gc _ W.out.inv (by rw [(Tr.CS v).s];exact J.out.2.1)).mono ?_;rintro e w9 ⟨rfl,k9⟩;have n:=hid (W.out.then k9);have a8:Hid (True->v.sized=if v.Ad.1+256*v.Ad.2.Ad.1=(v.Ad.2.Ad.2.out.length - v.Ad.2.Ad.2.CY)%65536 then v.Ad.2.Ad.2 else v.Ad.2.Ad.2.fail 13):=fun _=>rfl
 have c5:=J.out.1.Ad.Ad.CY;have c6:v.Ad.2.Ad.2.out.length<=900000000000:=by rw [(Tr.CS _).out,(Tr.CS _).out];exact J.out.2.2
 have la:=Tr.Dl v;have lb:=Tr.Dl v.Ad.2;clear k9 W V;generalize v.Ad.2.Ad.2=P at *;generalize v.Ad.2.Ad.1=b at *;generalize v.Ad.1=a at *;obtain ⟨aO,cO,b1⟩:∃ aO cO,a1= .slice aO P.out.length cO:=by
  rcases n.out.inv.out.2 with ⟨e,h0⟩ | ⟨g,cp,_,e,_⟩
  ·exact ⟨none,0,by rw [e,h0]⟩
  ·exact ⟨_,cp,e⟩
 have c0:w9.cell? ⟨p,0,none⟩=some (.slice aO P.out.length cO):=by rw [<- b1];exact n.out.inv.row.cell (i:=0) zO
 have c9:w9.cell? ⟨p,9,none⟩=some (.int .i64 P.CY):=n.out.inv.row.cell (i:=9) zO;clear b1;by_cases he:a+256*b=(P.out.length - P.CY)%65536
 ·have hd:((a:Int)+256*b !=((P.out.length:Int) - P.CY)%65536)=false:=by simp;omega
  have HE:=hid he;clear he;go_wp2_with fail
  go_quiet (fail)
  go_wp2
  go_end0
  rw [(Q.out trivial),(a8.out trivial),zC HE.out];exact ⟨rfl,a1,b3,n.out.then ((Kept.refl n.out.inv).drewN _)⟩
 ·have hd:((a:Int)+256*b !=((P.out.length:Int) - P.CY)%65536)=true:=by simp;omega
  go_wp2_with fail
  go_quiet (fail)
  go_wp2_with fail
  refine (Dn 13 _ (n.out.inv.drewN _)).mono ?_;rintro e c7 ⟨rfl,b2⟩;have a6:=hid (n.out.then (((Kept.refl n.out.inv).drewN _).trans b2));clear b2;go_wp2
  go_end0
  rw [(Q.out trivial),(a8.out trivial),zA he];exact ⟨rfl,a1,b3,a6.out⟩
theorem Sl(s:ByteArray)(Ai:Nat)(l:List Nat)(hs:s.size<=1000000000):Tr.IN 10000000000 ({ Tr.start s Ai with Aa:=l }:Tr)/\Bp ({ Tr.start s Ai with Aa:=l }:Tr):=by
 refine ⟨⟨by show 0<256;omega,?_⟩,fun b c=>by cases c⟩;have h:=Tr.QO (Ht s Ai hs);have e:({ Tr.start s Ai with Aa:=l }:Tr).mu=(Tr.start s Ai).mu:=rfl;show 0+({ Tr.start s Ai with Aa:=l }:Tr).mu<=10000000000;rw [e];have a:(Tr.start s Ai).mu=1+8*(s.size - 0)+0:=rfl;rw [a];omega
theorem Kb(s:ByteArray)(m:Int)(Ai:Nat)(w:World)(hs:s.size<=1000000000)(hO:Bs w w.heap.size) :
  Calls prog 155 #[.int .i64 1, .int .i64 m, .int .i64 Ai, .string s] w fun x X=>Uj w (Tr.Ej s Ai) x X:=by
 obtain ⟨k,b⟩:=qe (w.alloc (.cells (Gq s Ai) 235));have I:Ft w.heap.size w.heap.size (.slice none 0 0) (.slice none 0 0) (.slice none 0 0) (Tr.start s Ai) k:=by rw [b];exact YL s Ai w
 have Y:Below w.heap.size w k:=by rw [b];exact zB.alloc zL _
 have U:k.heap.size=w.heap.size+1:=by rw [b];simp
 have c5:k.cell? ⟨w.heap.size,5,none⟩=some (.bool false):=I.row.cell (i:=5) zO;have f5:=I.row.frozen 5;have c3:k.cell? ⟨w.heap.size,3,none⟩=some (.slice none 0 0):=I.row.cell (i:=3) zO;have f3:=I.row.frozen 3;have n:=CL I Y;have Z:=hid (hO.below Y);have V:=hid hs;clear I Y hO hs;by_cases L:s.size=0
 ·have he:s=⟨#[]⟩:=by
   cases s with
   | mk d=>
    have:d.size=0:=L;rw [CC.1 this]
  subst he;have e:Tr.Ej ⟨#[]⟩ Ai={ Tr.start ⟨#[]⟩ Ai with CZ:=true }:=by unfold Tr.Ej;rw [zC (show (⟨#[]⟩:ByteArray).size=0 from rfl)]
  rw [e];have HK:Hid (Kept w.heap.size w.heap.size (.slice none 0 0) (.slice none 0 0) (.slice none 0 0) { Tr.start ⟨#[]⟩ Ai with CZ:=true } k (k.setCell ⟨w.heap.size,5,none⟩ (.bool true))):=Mk (Kept.refl n.out.1);clear e L;go_enter func155,ntmps155
  go_upto_region 2 with fail
  change Code.wp _ _ _ _ (w.alloc (.cells (Gq ⟨#[]⟩ Ai) 235))
  rw [<- b];clear b;go_wp2
  go_ret
  exact ⟨w.heap.size,_,_,_,rfl,HK.out.inv,n.out.2.trans HK.out.bel⟩
 ·go_enter func155,ntmps155
  go_upto_region 2 with fail
  change Code.wp _ _ _ _ (w.alloc (.cells (Gq s Ai) 235))
  rw [<- b];clear b;have a2:¬ s=⟨#[]⟩:=by
   intro e;rw [e] at L;exact L rfl
  have a3:s.toList.isEmpty=false:=by
   rw [jZ];cases hl:s.data.toList with
   | nil=>exact absurd (by show s.data.size=0;rw [<- Array.length_toList,hl];rfl) L
   | cons _ _=>rfl
  obtain ⟨W,v⟩:=qe ((k.setCell ⟨w.heap.size,3,none⟩ (.slice (some ⟨w.heap.size+1,0,none⟩) 1 1)).alloc (.cells #[.int .i64 0] 3));have G:(k.setCell ⟨w.heap.size,3,none⟩ (.slice (some ⟨w.heap.size+1,0,none⟩) 1 1)).heap.size=w.heap.size+1:=by simp [World.setCell,U]
  have BW:Below (w.heap.size+1) (k.setCell ⟨w.heap.size,3,none⟩ (.slice (some ⟨w.heap.size+1,0,none⟩) 1 1)) W:=by rw [v];exact zB.alloc zO _
  have S:=(Dv.set _ _ _ _).trans (Dv.Bk (by rw [G];exact BW));have A:W.heap[w.heap.size+1]?=some (.cells #[.int .i64 0] 3 (0,0)):=by
   have h:=zJ (k.setCell ⟨w.heap.size,3,none⟩ (.slice (some ⟨w.heap.size+1,0,none⟩) 1 1)) (.cells #[.int .i64 0] 3);rw [G,<- v] at h;exact h
  have T1:Ft w.heap.size w.heap.size (.slice none 0 0) (.slice none 0 0) (.slice (some ⟨w.heap.size+1,0,none⟩) 1 1) { Tr.start s Ai with Aa:=[0] } W:=by
   refine Sx n.out.1 S ?_ ?_ (by simp [Value.ownBlock]) (fun g h=>by simp [Value.ownBlock] at h) (fun g h=>by simp [Value.ownBlock] at h)
   ·have r:=(n.out.1.row.set 3 (.slice (some ⟨w.heap.size+1,0,none⟩) 1 1)).of_block (BW.block w.heap.size zO);refine r.congr ?_;intro j hj;revert j
    exact Ep rfl rfl rfl rfl rfl rfl rfl rfl rfl rfl rfl rfl rfl
   ·exact ⟨rfl,Or.inr ⟨w.heap.size+1,1,#[.int .i64 0],rfl,zO,A,zE _,by unfold maxLen;omega,rfl,rfl⟩⟩
  have B:Below w.heap.size k W:=(zB.setCell zL _).trans (BW.mono (show w.heap.size<=w.heap.size+1 by omega));have BB:=n.out.2.trans B;have u:=CL T1 BB;have a0:=hid (Z.out.below B);have N:Hid (({ Tr.start s Ai with Aa:=[0] }:Tr).Ao/\({ Tr.start s Ai with Aa:=[0] }:Tr).cost<=900000000000):=by
   have f:=GW s Ai;exact ⟨⟨f.left,f.cur,f.Aw,f.CY,f.Br,f.err⟩,Ht s Ai V.out⟩
  clear BW S A T1 BB G B;have F:Hid (True->Tr.Ej s Ai=(((({ Tr.start s Ai with Aa:=[0] }:Tr).Ea 115).Ea 1).blocks.sum).DP):=fun _=>by unfold Tr.Ej;rw [zA L]
  have D:Hid (Tr.IN 10000000000 ({ Tr.start s Ai with Aa:=[0] }:Tr)/\Bp ({ Tr.start s Ai with Aa:=[0] }:Tr)):=Sl s Ai [0] V.out;have Q:Hid (({ Tr.start s Ai with Aa:=[0] }:Tr).s=s):=rfl;generalize ({ Tr.start s Ai with Aa:=[0] }:Tr)=t0 at *;go_upto_region 19 with fail
  rw [<- v];clear v c5 f5 c3 f3 a2;have t:Hid (∀ x:Tr,Tr.Da t0 x->x.s.size<=maxLen):=fun x f=>by rw [f.s,Q.out];unfold maxLen;have:=V.out;omega
  have f1:=Tr.GZ t0 115;have R:=f1.trans (Tr.GZ (t0.Ea 115) 1);have l:Hid (Tr.Da t0 (t0.Ea 115)/\Tr.Da t0 ((t0.Ea 115).Ea 1)/\((t0.Ea 115).Ea 1).Ao/\((t0.Ea 115).Ea 1).cost<=900000000000/\Bp ((t0.Ea 115).Ea 1)/\Tr.IN 10000000001 (t0.Ea 115)):=⟨f1,R,(N.out.1.Ea 115).Ea 1,zG R.cost N.out.2,R.Dp D.out.2,D.out.1.Ea 115⟩
  clear f1 R;go_wp2_with fail
  refine (eX 10000000000 115 _ u.out.1 (t.out _ (Tr.Da.refl _)) D.out.1 zO).mono ?_;rintro e wa ⟨rfl,ka⟩;have C:=hid ka;clear ka;go_wp2_with fail
  refine (eX 10000000001 1 _ C.out.inv (t.out _ l.out.1) l.out.2.2.2.2.2 zO).mono ?_;rintro e wb ⟨rfl,kb⟩;have q:=hid (C.out.trans kb);clear kb C;generalize (t0.Ea 115).Ea 1=M at *;go_wp2_with fail
  refine (Qz wb q.out.inv l.out.2.2.1 (t.out _ l.out.2.1) l.out.2.2.2.1 (a0.out.below q.out.bel)).mono ?_;rintro e wq ⟨rfl,z,y,mq⟩;have E:=hid (q.out.Dt.trans mq);have J:=Tr.Gi l.out.2.2.1;have c:Hid (M.blocks.Ao/\M.blocks.s.size<=maxLen/\M.blocks.cost<=900000000000/\Bp M.blocks/\M.blocks.s=s):=⟨J.CU l.out.2.2.1,by rw [J.s];exact t.out _ l.out.2.1,zG J.cost l.out.2.2.2.1,J.bytes l.out.2.2.2.2.1,J.s.trans (l.out.2.1.s.trans Q.out)⟩
  clear mq J q;go_wp2_with fail
  refine (iR _ E.out.inv c.out.1 c.out.2.1 (by have:=Tr.NT c.out.2.2.1;omega) c.out.2.2.2.1).mono ?_;rintro e w2 ⟨rfl,k2⟩;have a:=hid (E.out.then k2);have p:=CL ((Tr.Lu _).s.trans c.out.2.2.2.2) c.out.1.sum;clear k2 E;generalize M.blocks.sum=T at *;have c2:w2.cell? ⟨w.heap.size,2,none⟩=some (.int .i64 T.Aw):=a.out.inv.row.cell (i:=2) zO;have R:=a.out.inv.row.frozen 2;have a4:T.Aw<=s.size:=by have:=p.out.2.Aw;rw [p.out.1] at this;exact this
  have a5:=V.out;cases he:T.ended
  ·have H:=hid he;clear he;by_cases a1:T.Aw<s.size
   ·have o:Hid (T.DP=({ T with Aw:=T.Aw+1 }:Tr).fail 14):=by show _=_;unfold Tr.DP;rw [zC ⟨H.out,by rw [p.out.1];exact a1⟩]
    have P:Hid (Kept w.heap.size w.heap.size z y (.slice (some ⟨w.heap.size+1,0,none⟩) 1 1) { T with Aw:=T.Aw+1 } w2 (w2.setCell ⟨w.heap.size,2,none⟩ (.int .i64 ((T.Aw:Int)+1)))):=UU (Kept.refl a.out.inv) (T.Aw+1);go_wp2_with (first | (go_at_call 182;refine (Bc _ a.out.inv).mono ?_;rw [H.out];rintro e X ⟨rfl,rfl⟩))
    refine (Dn 14 _ P.out.inv).mono ?_;rintro e w3 ⟨rfl,q3⟩;have O:=hid (P.out.trans q3);clear q3;go_wp2
    go_ret
    rw [F.out trivial,o.out];exact ⟨w.heap.size,z,y,_,rfl,O.out.inv,u.out.2.trans (a.out.bel.trans O.out.bel)⟩
   ·have o:Hid (T.DP=T):=by show _=_;unfold Tr.DP;rw [zA (by rw [p.out.1];omega)]
    go_wp2_with (first | (go_at_call 182;refine (Bc _ a.out.inv).mono ?_;rw [H.out];rintro e X ⟨rfl,rfl⟩))
    go_ret
    rw [F.out trivial,o.out];exact ⟨w.heap.size,z,y,_,rfl,a.out.inv,u.out.2.trans a.out.bel⟩
  ·have H:=hid he;clear he;have o:Hid (T.DP=T):=by show _=_;unfold Tr.DP;rw [zA (by rw [H.out];simp)]
   go_wp2_with (first | (go_at_call 182;refine (Bc _ a.out.inv).mono ?_;rw [H.out];rintro e X ⟨rfl,rfl⟩))
   go_ret
   rw [F.out trivial,o.out];exact ⟨w.heap.size,z,y,_,rfl,a.out.inv,u.out.2.trans a.out.bel⟩
theorem Ft.bZ{w X w1:World}{g c n:Nat}{b:Nat}(h:Ft B p vo va vs t w)(i:Below w.heap.size w X)(r:X.grownBy w1 vs.ownBlock)(d:vs.ownBlock=some g\/w.heap.size<=g)
  (D:n=t.Aa.length+1) (o:w1.ownsRow B 3 1 (.slice (some ⟨g,0,none⟩) n c) n (GD t.Aa++[.int .i64 b])) :
  Ft B p vo va (.slice (some ⟨g,0,none⟩) n c) { t with Aa:=t.Aa++[b] } (w1.setCell ⟨p,3,none⟩ (.slice (some ⟨g,0,none⟩) n c))/\Below B w (w1.setCell ⟨p,3,none⟩ (.slice (some ⟨g,0,none⟩) n c)):=by
 have A:=zG i.size r.size;have z:=h.row.lt;have l:∀ k,k<w.heap.size->vs.ownBlock≠some k->w1.heap[k]?=w.heap[k]?:=fun k hk y=>
  (r.block k (zM hk i.size) (fun e=>y e.symm)).trans (Ku i hk)
 have q:Kp (fun k=>k=p\/vs.ownBlock=some k) (fun k=>k) w (w1.setCell ⟨p,3,none⟩ (.slice (some ⟨g,0,none⟩) n c)):=⟨by simpa [World.setCell] using A,fun k hk f=>by
   rw [zZ _ _ _ _ (fun e=>f (Or.inl e))];exact l k hk (fun e=>f (Or.inr e))⟩
 have v:g≠p:=by
  rcases d with e | e
  ·intro a;subst a;exact h.ps e
  ·omega
 have u:vo.ownBlock≠some g:=by
  rcases d with e | e
  ·exact fun a=>h.os g a e
  ·intro a;have:=(h.out.lt g a).2;omega
 have s:va.ownBlock≠some g:=by
  rcases d with e | e
  ·exact fun a=>h.sa g a e
  ·intro a;have:=(h.Br.lt g a).2;omega
 refine ⟨⟨h.pB,zG h.hB q.size,?_,?_,?_,?_,h.po,h.pa,?_,h.oa,?_,?_⟩,?_⟩
 ·refine ((h.row.of_block (l p z h.ps)).set 3 _).congr ?_;intro j E;revert j
  exact Ep rfl rfl rfl rfl rfl rfl rfl rfl rfl rfl rfl rfl rfl
 ·exact As h.out q (fun x hx f=>by
   rcases f with e | e
   ·exact h.po (by rw [hx,e])
   ·exact h.os x hx e)
 ·exact As h.Br q (fun x hx f=>by
   rcases f with e | e
   ·exact h.pa (by rw [hx,e])
   ·exact h.sa x hx e)
 ·have e:GD (t.Aa++[b])=GD t.Aa++[.int .i64 b]:=by simp [GD]
  have C:(t.Aa++[b]).length=n:=by simp [D]
  show World.ownsRow _ _ _ _ _ (t.Aa++[b]).length (GD (t.Aa++[b]));rw [e,C];exact As (R:=fun k=>k=p) (ρ:=fun k=>k) o ⟨by simp [World.setCell],fun k _ hk=>zZ _ _ _ _ hk⟩ (fun x hx=>by simp [Value.ownBlock] at hx;omega)
 ·simp [Value.ownBlock];exact v
 ·intro x hx;simp [Value.ownBlock];exact fun e=>u (by rw [hx,e])
 ·intro x hx;simp [Value.ownBlock];exact fun e=>s (by rw [hx,e])
 ·have hB:=h.hB;exact ((i.mono hB).grown r (zG hB i.size) (fun x hx=>(h.Ua.lt x hx).1)).setCell h.pB _
structure bT(w:World)(s:ByteArray)(members:Nat)(fin:Tr)(p:Nat)(wr:World)(t1:Tr)(vo va vs:Value):Prop where
 go:Tr.Hm members t1=fin
 inv:Ft w.heap.size p vo va vs t1 wr
 bel:Below w.heap.size w wr
 CU:t1.Ao
 cost:t1.cost<=900000000000
 bytes:Bp t1
 s:t1.s=s
 ord:Bs wr w.heap.size
 many:t1.Aa.length+t1.mu<=10000000000
theorem MR(s:ByteArray)(members Ai:Nat)(w:World)(hs:s.size<=1000000000)(hO:Bs w w.heap.size) :
  Calls prog 155 #[.int .i64 2, .int .i64 members, .int .i64 Ai, .string s] w fun x P=>Uj w (Tr.FD s members Ai) x P:=by
 obtain ⟨v,j⟩:=qe (w.alloc (.cells (Gq s Ai) 235));have R:Ft w.heap.size w.heap.size (.slice none 0 0) (.slice none 0 0) (.slice none 0 0) (Tr.start s Ai) v:=by rw [j];exact YL s Ai w
 have T:Below w.heap.size w v:=by rw [j];exact zB.alloc zL _
 have c5:v.cell? ⟨w.heap.size,5,none⟩=some (.bool false):=R.row.cell (i:=5) zO;have f5:=R.row.frozen 5;have k:=CL R T;have F:=hid (hO.below T);have Y:=hid hs;clear R T hO hs;by_cases O:s.size=0
 ·have he:s=⟨#[]⟩:=by
   cases s with
   | mk d=>
    have:d.size=0:=O;rw [CC.1 this]
  subst he;have e:Tr.FD ⟨#[]⟩ members Ai={ Tr.start ⟨#[]⟩ Ai with CZ:=true }:=by unfold Tr.FD;rw [zC (show (⟨#[]⟩:ByteArray).size=0 from rfl)]
  rw [e];have HK:Hid (Kept w.heap.size w.heap.size (.slice none 0 0) (.slice none 0 0) (.slice none 0 0) { Tr.start ⟨#[]⟩ Ai with CZ:=true } v (v.setCell ⟨w.heap.size,5,none⟩ (.bool true))):=Mk (Kept.refl k.out.1);clear e O;go_enter func155,ntmps155
  go_upto_region 2 with fail
  change Code.wp _ _ _ _ (w.alloc (.cells (Gq ⟨#[]⟩ Ai) 235))
  rw [<- j];clear j;go_wp2
  go_ret
  exact ⟨w.heap.size,_,_,_,rfl,HK.out.inv,k.out.2.trans HK.out.bel⟩
 ·have a7:s.toList.isEmpty=false:=by
   rw [jZ];cases hl:s.data.toList with
   | nil=>exact absurd (by show s.data.size=0;rw [<- Array.length_toList,hl];rfl) O
   | cons _ _=>rfl
  have V:Hid (bT w s members (Tr.FD s members Ai) w.heap.size v (Tr.start s Ai) (.slice none 0 0) (.slice none 0 0) (.slice none 0 0)):=by
   have l:=Sl s Ai [] Y.out;refine ⟨by unfold Tr.FD;rw [zA O],k.out.1,k.out.2,GW s Ai,Ht s Ai Y.out,l.2,rfl,F.out,?_⟩;have:=l.1.many;exact this
  clear k F O;generalize Tr.FD s members Ai=fin at *;go_enter func155,ntmps155
  go_upto_region 2 with fail
  change Code.wp _ _ _ _ (w.alloc (.cells (Gq s Ai) 235))
  rw [<- j];clear j;go_wp2_with fail
  clear c5 f5;obtain ⟨i3,a0,a2,a3,a4⟩:=yM Gf;have b1:=Y.out;obtain ⟨p,hp⟩:=qe w.heap.size;rw [<- hp] at V |-;clear hp;go_loopw [27] (fun _ wr=>∃ (t1:Tr) (C B u:Value),Hid (bT w s members fin p wr t1 C B u)) (fun _ wr=>Ml p wr)
  case atStart=>exact ⟨_,_,_,_,V⟩
  case round=>
   obtain ⟨t1,C,B,u,a⟩:=hrel;clear V;have a9:t1.Aw<=s.size:=by have:=a.out.CU.Aw;rw [a.out.s] at this;exact this
   have c2:wr.cell? ⟨p,2,none⟩=some (.int .i64 t1.Aw):=a.out.inv.row.cell (i:=2) zO;have f2:=a.out.inv.row.frozen 2;have c3:wr.cell? ⟨p,3,none⟩=some u:=a.out.inv.row.cell (i:=3) zO;have f3:=a.out.inv.row.frozen 3;cases he:t1.ended
   ·have q:=hid he;clear he;by_cases a1:t1.Aw<s.size
    ·have HC:Hid (t1.ended=false/\t1.Aw<t1.s.size):=⟨q.out,by rw [a.out.s];exact a1⟩
     have b0:t1.Aa.length<=10000000000:=by have:=a.out.many;omega
     obtain ⟨y,z,o⟩:∃ y z,u= .slice y t1.Aa.length z:=by
      rcases a.out.inv.Ua.2 with ⟨e,h0⟩ | ⟨g,cp,_,e,_⟩
      ·exact ⟨none,0,by rw [e,h0]⟩
      ·exact ⟨_,cp,e⟩
     have G:wr.cell? ⟨p,3,none⟩=some (.slice y t1.Aa.length z):=by rw [c3,o]
     by_cases J:members<=t1.Aa.length
     ·have X:Hid (True->fin=({ t1 with Aw:=t1.Aw+1 }:Tr).fail 6):=fun _=>by rw [<- a.out.go,Tr.NI HC.out J]
      have E:Hid (Kept w.heap.size p C B u { t1 with Aw:=t1.Aw+1 } wr (wr.setCell ⟨p,2,none⟩ (.int .i64 ((t1.Aw:Int)+1)))):=UU (Kept.refl a.out.inv) (t1.Aw+1);clear c3 o;go_wp2_with (first | (go_at_call 182;refine (Bc _ a.out.inv).mono ?_;rw [q.out];rintro e P ⟨rfl,rfl⟩))
      refine (Dn 6 _ E.out.inv).mono ?_;rintro e w3 ⟨rfl,q3⟩;have D:=hid (E.out.trans q3);clear q3;go_wp2
      go_ret
      rw [X.out trivial];exact ⟨p,C,B,_,rfl,D.out.inv,a.out.bel.trans D.out.bel⟩
     ·have W:Hid (True->Tr.Hm members ({ t1 with Aa:=t1.Aa++[t1.Aw] }:Tr).Dw=fin):=fun _=>by rw [<- a.out.go,Tr.Oh a.out.CU HC.out J]
      have N:(.slice y t1.Aa.length z:Value).ownBlock≠some p:=by rw [<- o];exact a.out.inv.ps
      have L:wr.ownsRow w.heap.size 3 1 (.slice y t1.Aa.length z) t1.Aa.length (GD t1.Aa):=by rw [<- o];exact a.out.inv.Ua
      have M:=a.out.inv.row.lt;have a8:=a.out.inv.hB;subst o;clear c3;go_upto_region 13 with (first | (go_at_call 182;refine (Bc _ a.out.inv).mono ?_;rw [q.out];rintro e P ⟨rfl,rfl⟩))
      go_region_law
       ((refine xY _ (by rfl) _ _ _ (by rfl) w.heap.size 3 i3 _ 1 8 underlying69 a0 a2 a3 a4 rfl zO (.slice y t1.Aa.length z) t1.Aa.length (GD t1.Aa) (by rfl) ((L.alloc _).drew) ⟨wr.heap.size,0,none⟩ 1 1 [.int .i64 t1.Aw] (by rfl) (by rfl) (yX wr _ _) (by simp [Value.oneCell']) zO (by unfold maxLen;omega) zO (by simp;omega) (wr.heap.size+1) zS ?_;intro g2 p2 w2 n c r I;have k3:=SF c M N G;have z3:=TA c M N f3))
      all_goals
       have A:=a.out.inv.bZ (b:=t1.Aw) ((zB.alloc zL _).drew) c (r.imp id (fun e=>zO)) rfl n;go_upto_region 14 with fail
       obtain ⟨W2,H⟩:=qe (w2.setCell ⟨p,3,none⟩ (.slice (some ⟨g2,0,none⟩) (t1.Aa.length+1) p2));rw [<- H] at A |-;have Q:=hid A;have U:({ t1 with Aa:=t1.Aa++[t1.Aw] }:Tr).Ao:=by have f:=a.out.CU;exact ⟨f.left,f.cur,f.Aw,f.CY,f.Br,f.err⟩
       have PM:=Tr.Jq U;have Z:Hid (t1.s.size<=maxLen):=by show _<=_;rw [a.out.s];unfold maxLen;omega
       have h:Hid (Tr.Part { t1 with Aa:=t1.Aa++[t1.Aw] } ({ t1 with Aa:=t1.Aa++[t1.Aw] }:Tr).Dw/\({ t1 with Aa:=t1.Aa++[t1.Aw] }:Tr).Dw.mu<t1.mu/\({ t1 with Aa:=t1.Aa++[t1.Aw] }:Tr).Ao):=⟨PM.1,PM.2 q.out,U⟩
       clear A H n c r I k3 z3 c2 f2 G f3 U PM;go_wp2_with fail
       refine (eY W2 Q.out.1 h.out.2.2 Z.out a.out.cost a.out.bytes (a.out.ord.below Q.out.2)).mono ?_;rintro e w4 ⟨rfl,a6,a5,S⟩;have HN:Hid (bT w s members fin p w4 ({ t1 with Aa:=t1.Aa++[t1.Aw] }:Tr).Dw a6 a5 (.slice (some ⟨g2,0,none⟩) (t1.Aa.length+1) p2)):=by
        have st:({ t1 with Aa:=t1.Aa++[t1.Aw] }:Tr).Dw.Aa.length=t1.Aa.length+1:=by rw [h.out.1.Aa];simp
        refine ⟨W.out trivial,S.inv,a.out.bel.trans (Q.out.2.trans S.bel),h.out.1.CU h.out.2.2,zG h.out.1.cost a.out.cost,h.out.1.bytes a.out.bytes,h.out.1.s.trans a.out.s,a.out.ord.below (Q.out.2.trans S.bel),?_⟩;have h1:=h.out.2.1;have h2:=a.out.many;omega
       clear S;go_wp2_with fail
       go_roundw
       case rel=>exact ⟨_,_,_,_,HN⟩
       case measure=>rw [HN.out.inv.Ml,a.out.inv.Ml];exact h.out.2.1
    ·have t:Hid (True->fin=t1):=fun _=>by rw [<- a.out.go,Tr.Hd (by rw [a.out.s];omega)]
     go_wp2_with (first | (go_at_call 182;refine (Bc _ a.out.inv).mono ?_;rw [q.out];rintro e P ⟨rfl,rfl⟩))
     go_ret
     rw [t.out trivial];exact ⟨p,C,B,u,rfl,a.out.inv,a.out.bel⟩
   ·have q:=hid he;clear he;have t:Hid (True->fin=t1):=fun _=>by rw [<- a.out.go,Tr.Hd (by rw [q.out];simp)]
    go_wp2_with (first | (go_at_call 182;refine (Bc _ a.out.inv).mono ?_;rw [q.out];rintro e P ⟨rfl,rfl⟩))
    go_ret
    rw [t.out trivial];exact ⟨p,C,B,u,rfl,a.out.inv,a.out.bel⟩
theorem Xs(fm:Nat)(s:ByteArray)(w:World)(T:Tr)(r:fm<=2)(l:Hid (Calls prog 155 #[.int .i64 fm, .int .i64 1152921504606846976, .int .i64 1152921504606846976, .string s] w fun x h=>Uj w T x h)) :
  Calls prog 121 #[.int .i64 fm, .string s] w fun x h=>LX w T.Dg x h:=by
 have o:decide ((fm:Int)<0)=false:=zS;have q:decide ((2:Int)<(fm:Int))=false:=by simp;omega
 go_enter func121,ntmps121
 go_wp2_with fail
 refine l.out.mono ?_;rintro e w1 ⟨p,y,v,z,rfl,b,k⟩;have a:=CL b k;have n:w1.cell? ⟨p,4,none⟩=some (.int .i64 T.err):=b.row.cell (i:=4) zO;have j:w1.cell? ⟨p,5,none⟩=some (.bool T.CZ):=b.row.cell (i:=5) zO;obtain ⟨ad,cap,f,g⟩:=gY b;have u:w1.cell? ⟨p,0,none⟩=some (.slice ad T.out.length cap):=by rw [<- f];exact b.row.cell (i:=0) zO
 clear b k f;by_cases he:T.err=0
 ·rw [he] at n;cases c:T.CZ
  ·rw [c] at j;have d:Hid (T.Dg=(DD T.out,0)):=by show _=_;unfold Tr.Dg;rw [zA zO,c];rfl
   clear he c;go_wp2_with fail
   go_ret2
   rw [d.out];exact ⟨rfl,a.out.2⟩
  ·rw [c] at j;have d:Hid (T.Dg=(⟨#[]⟩,15)):=by show _=_;unfold Tr.Dg;rw [zA zO,c];rfl
   clear he c;go_wp2_with fail
   go_ret2
   rw [d.out];exact ⟨rfl,a.out.2⟩
 ·have d:Hid (T.Dg=(⟨#[]⟩,T.err)):=by show _=_;unfold Tr.Dg;rw [zC he]
  have t:((T.err:Int) !=0)=true:=by simp;omega
  go_wp2_with fail
  go_quiet (fail)
  go_wp2_with fail
  go_ret2
  rw [d.out];exact ⟨rfl,⟨a.out.2.os,a.out.2.tape,a.out.2.output,a.out.2.size,a.out.2.block⟩⟩
def Tr.readAll(fm:Nat)(s:ByteArray):Tr:=Tr.read fm 1152921504606846976 1152921504606846976 s
theorem gX(fm:Nat)(s:ByteArray)(w:World)(b:fm<=2)(hs:s.size<=1000000000)(a:Bs w w.heap.size) :
  Calls prog 121 #[.int .i64 fm, .string s] w fun x c=>LX w (Tr.readAll fm s).Dg x c:=by
 refine Xs fm s w (Tr.readAll fm s) b ?_;have h3:fm=0\/fm=1\/fm=2:=zO;rcases h3 with rfl | rfl | rfl
 ·exact Nx s 1152921504606846976 1152921504606846976 w hs a
 ·exact Kb s 1152921504606846976 1152921504606846976 w hs a
 ·exact MR s 1152921504606846976 1152921504606846976 w hs a
theorem Xt(fm:Int)(s:ByteArray)(w:World)(a:fm<0\/2<fm) :
  Calls prog 121 #[.int .i64 fm, .string s] w fun x c=>LX w (⟨#[]⟩,1) x c:=by
 rcases a with h | h
 ·have hd:decide (fm<0)=true:=by simp;omega
  go_enter func121,ntmps121
  go_wp2_with fail
  go_ret2
  exact ⟨rfl,zF _ _⟩
 ·have hd:decide (fm<0)=false:=by simp;omega
  have b:decide (2<fm)=true:=by simp;omega
  go_enter func121,ntmps121
  go_wp2_with fail
  go_ret2
  exact ⟨rfl,zF _ _⟩
namespace Tr
theorem QL{o a:List Nat}{i:Nat}{s:List Nat}{e:Nat}{n:Bool}(h:DJ t=⟨o,a,i,s,e,n⟩):t.Dg=if e≠0 then (⟨#[]⟩,e) else if n then (⟨#[]⟩,15) else (DD o,0):=by
 unfold DJ at h;injection h with h1 h2 h3 h4 h5 h6
 unfold Tr.Dg;rw [h1,h5,h6]
end Tr
end Go.Proofs.YtbcjmakpempkiaaGreatDoor
