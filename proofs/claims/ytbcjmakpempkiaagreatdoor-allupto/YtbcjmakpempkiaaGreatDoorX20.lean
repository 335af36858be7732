import Derived.Test.YtbcjmakpempkiaaGreatDoorX18
set_option maxRecDepth 100000
set_option maxHeartbeats 8000000
set_option linter.all false
namespace Go.Proofs.YtbcjmakpempkiaaGreatDoor
variable {ρ:Nat->Nat} {w:World} {p:Nat} {x:MS}
open Go.Proofs.Tryz
open Go.RowKit
theorem NJ{W:World}{y:MS}{R:MS×Nat}(h:MM ρ W p y)(he:(y.st=16/\R=y.TN/\Cw ρ w p y W/\(∀ b∈y.qc,b<256)/\y.la.length<=269/\y.lit<256)\/(y.st=17/\R=y.bp/\Cw ρ w p y W/\(∀ b∈y.qc,b<256)/\y.la.length<=269)\/(y.st=18/\R=y.bN/\Cw ρ w p y W/\(∀ b∈y.qc,b<256)/\(y.bits<=16/\y.least<=1000000/\y.least+2^y.bits<=65535))\/(y.st=19/\R=y.ez/\Cw ρ w p y W/\(∀ b∈y.qc,b<256)/\y.left<=65535)\/(y.st=20/\R=y.fA/\Cw ρ w p y W/\(∀ b∈y.qc,b<256)/\y.left<=65535/\(y.bits<=16/\y.least<=1000000/\1<=y.least))\/(y.st=21/\Hid (∃ y,Kw ρ w p y R W))) :
  Calls prog 106 #[.pointer (some ⟨p,0,none⟩)] W fun v w'=>Ak ρ w p R v w':=by
 have c7:=h.Bt.1;rcases he with ⟨O,hR,H,Q,A,c1⟩ | ⟨O,hR,H,Q,b3⟩ | ⟨O,hR,H,Q,b4⟩ | ⟨O,hR,H,Q,b5⟩ | ⟨O,hR,H,Q,L,a20⟩ | ⟨O,c2⟩
 all_goals
  rw [O] at c7;clear O
 all_goals try (have g:Hid _:=hR;have H':Hid _:=H;clear H hR;have H:=H';clear H')
 all_goals try (have _:=c1;have e3:=h.GO.1)
 all_goals try (have _:=b3;obtain ⟨gs,tl,td,U,X,Z,TL,TD,a0⟩:=h.Ev H.out.ne;have TR:=TL.ON;have HT:Hid _:=TL;clear TL TD)
 all_goals try (have _:=b4;have d3:=h.GO.2.2.1;have d4:=h.GO.2.2.2.2.1)
 all_goals try (have _:=b5;obtain ⟨gs,tl,td,U,X,Z,TL,TD,a0⟩:=h.Ev H.out.ne;have TR:=TD.ON;have HT:Hid _:=TD;clear TL TD)
 all_goals try (have _:=a20;have d3:=h.GO.2.2.1;have d4:=h.GO.2.2.2.2.1)
 all_goals
  clear h;go_enter func106,ntmps106
  go_wp2_with fail
  clear c7
 all_goals try clear e3
 all_goals try clear U X Z a0
 all_goals try clear d3 d4
 all_goals try (
  have L:=c1;clear c1;refine (fl y.lit H.out.mm H.out.ok L).mono ?_;rintro v w1 ⟨rfl,f,g2⟩;have PF:=MS.KP H.out.ok y.lit;have R':Hid (R=if (y.put y.lit).2=0 then MS.bp { (y.put y.lit).1 with st:=17 } else y.put y.lit):=g.out;clear g;by_cases h0:¬ (y.put y.lit).2=0
  ·rw [zA h0] at R';obtain ⟨e,he⟩:=qe ((y.put y.lit).2);have g:Hid (MM ρ w1 p (y.put y.lit).1/\Fr V5 ρ w w1/\(y.put y.lit).2=e):=⟨f,H.out.fr.trans g2,he.symm⟩
   rw [<- he] at h0 |-;have q:=qn h0;clear f g2 he;go_wp2
   go_ret
   unfold Ak;rw [R'.out,g.out.2.2];exact ⟨rfl,g.out.1,g.out.2.1⟩
  replace h0:=xM.1 h0
  rw [zC h0] at R';have u:=PF.2 h0;have C:=PF.1;rw [h0];obtain ⟨z,hz⟩:=qe ((y.put y.lit).1);rw [<- hz] at f R' u C;have l:z.la=y.la:=by rw [u];rfl
  have s:z.lb=y.lb:=by rw [u];rfl
  have e0:z.count=y.count:=by rw [u];rfl
  have o:z.qc=MS.Fi y.qc y.lit:=by rw [u];rfl
  have k7:=f.Bt.1;have z7:=f.Bt.2;have F:=f.st 17;have Hn:Hid (Cw ρ w p { z with st:=17 } (w1.setCell ⟨p,7,none⟩ (.int .i64 17))):=⟨F.1,C.st 17,by show z.count<=40;rw [e0];exact H.out.Cq,by show z.la≠[];rw [l];exact H.out.ne,by show z.lb.length<=16;rw [s];exact H.out.lb,(H.out.fr.trans g2).trans F.2⟩
  have Qn:∀ b∈z.qc,b<256:=by rw [o];exact Sa Q L
  have An:z.la.length<=269:=by rw [l];exact A
  obtain ⟨gs,tl,td,U,X,Z,TL,TD,a0⟩:=f.Ev (by rw [l];exact H.out.ne);have TR:=TL.ON;have HT:Hid (Ge ρ (w1.setCell ⟨p,7,none⟩ (.int .i64 17)) 268 4 (fun i=>(FL i).toList) tl z.la):=TL.fr F.2.kp zD;clear f g2 hz u C PF h0 l s e0 o F TL TD H Q L A;go_wp2_with fail
  clear k7 z7 U X Z a0;obtain ⟨W,hW⟩:=qe (w1.setCell ⟨p,7,none⟩ (.int .i64 17));obtain ⟨y,r⟩:=qe ({ z with st:=17 }:MS);have H:=Hn;have Q:∀ b∈y.qc,b<256:=by rw [r];exact Qn
  have b3:y.la.length<=269:=by rw [r];exact An
  have a6:z.la=y.la:=by rw [r]
  rw [a6] at TR HT;have g:=R';rw [<- r] at H g;rw [<- hW] at H HT |-;clear r hW R' Hn Qn An a6)
 all_goals try (
  have A:=b3;clear b3;refine (Tk H.out.mm H.out.ok H.out.Cq HT.out).mono ?_;rintro v w1 ⟨rfl,f,g2⟩;have I:=MS.Nf TR H.out.ok H.out.Cq;have R':Hid (R=if (y.sym y.la).2.1=0 then (if (y.sym y.la).2.2<256 then ({ (y.sym y.la).1 with lit:=(y.sym y.la).2.2,st:=16 },0) else if (y.sym y.la).2.2=256 then (y.sym y.la).1.endBlock else MS.bN { (y.sym y.la).1 with least:=Tr.Ar 3 ((y.sym y.la).2.2 - 257),bits:=Tr.Ag ((y.sym y.la).2.2 - 257),st:=18 }) else ((y.sym y.la).1,(y.sym y.la).2.1)):=g.out;clear g;by_cases h0:¬ (y.sym y.la).2.1=0
  ·rw [zA h0] at R';rw [zA h0];obtain ⟨e,he⟩:=qe ((y.sym y.la).2.1);have g:Hid (MM ρ w1 p (y.sym y.la).1/\Fr V5 ρ w w1/\(y.sym y.la).2.1=e):=⟨f,H.out.fr.trans g2,he.symm⟩
   rw [<- he] at h0 |-;have q:=qn h0;clear f g2 he;go_wp2
   go_ret
   unfold Ak;rw [R'.out,g.out.2.2];exact ⟨rfl,g.out.1.below (zB.alloc zL _),g.out.2.1.trans (Fr.below (zB.alloc zL _))⟩
  replace h0:=xM.1 h0
  rw [zC h0] at R';rw [zC h0];obtain ⟨s1,s2,G⟩:=I.2 h0;have C:=I.1;obtain ⟨z,t,k,hr⟩:∃ z t k,y.sym y.la=(z,t,k):=⟨_,_,_,rfl⟩
  rw [hr] at f R' s1 s2 G C h0 |-;have c5:k<269:=by have:k<y.la.length:=s1;omega
  have q:t=0:=h0;subst q;by_cases hk:k<=256
  ·obtain ⟨c,d,hC,hc,hG⟩:∃ c d:Nat,FL k=#[.int .i64 c, .int .u8 d, .int .i64 0, .int .i64 0]/\(c=0\/c=1)/\R=z.Rw k:=by
    by_cases hk:k<256
    ·refine ⟨0,k,by unfold FL;rw [zC hk];rfl,Or.inl rfl,?_⟩;rw [R'.out];rw [zC hk];exact (zC hk).symm
    ·have a1:k=256:=zO;refine ⟨1,0,by unfold FL;rw [zA hk,zC a1];rfl,Or.inr rfl,?_⟩;rw [R'.out];rw [zA hk,zC a1];exact (zA hk).symm
   obtain ⟨V,E⟩:=qe (w1.alloc (.cells (FL k) 218));have b1:Below w1.heap.size w1 V:=by rw [E];exact zB.alloc zL _
   have J:Hid (MM ρ V p z/\Ok z/\Fr V5 ρ w V):=⟨f.below b1,C,(H.out.fr.trans g2).trans (Fr.below b1)⟩
   have a2:Hid (Calls prog 148 #[.pointer (some ⟨p,0,none⟩), .agg (FL k)] V fun v w'=>Ak ρ V p (z.Rw k) v w'):=jr k J.out.1 J.out.2.1 (by have:z.count<=40:=s2;omega) hk;obtain ⟨GG,d6⟩:=qe (z.Rw k);rw [<- d6] at hG a2;have HG:=hid hG;rw [hC] at E a2 |-;have HV:Hid _:=E;clear f g2 hr G C I h0 R' b1 d6 hG hC E;rcases hc with rfl | rfl
   all_goals
    rw [HV.out] at a2 J;go_wp2_with fail
    refine a2.out.mono ?_;rintro v w9 ⟨rfl,g3,g4⟩;have c0:Hid (MM ρ w9 p GG.1/\Fr V5 ρ w w9):=⟨g3,J.out.2.2.trans g4⟩
    clear g3 g4 a2;go_wp2
    go_ret
    unfold Ak;rw [HG.out];exact ⟨rfl,c0.out⟩
  have c4:¬ k<256:=zO;have a1:¬ k=256:=zO;have hC:FL k=#[.int .i64 2, .int .u8 0, .int .i64 (Tr.Ar 3 (k - 257)), .int .i64 (Tr.Ag (k - 257))]:=by unfold FL;rw [zA c4,zA a1]
  rw [zA c4,zA a1] at R';have sd:=WR (j:=k - 257) zO;have l:z.la=y.la:=by have:z=_:=G;rw [this]
  have s:z.lb=y.lb:=by have:z=_:=G;rw [this]
  have o:z.qc=y.qc:=by have:z=_:=G;rw [this]
  obtain ⟨a,ha⟩:=qe (Tr.Ar 3 (k - 257));obtain ⟨b,hb⟩:=qe (Tr.Ag (k - 257));rw [hC];rw [<- ha,<- hb] at R' sd |-;obtain ⟨V,E⟩:=qe (w1.alloc (.cells #[.int .i64 2, .int .u8 0, .int .i64 a, .int .i64 b] 218));have b1:Below w1.heap.size w1 V:=by rw [E];exact zB.alloc zL _
  have q0:V.cell? ⟨w1.heap.size,0,none⟩=some (.int .i64 2):=by rw [E];simp
  have q2:V.cell? ⟨w1.heap.size,2,none⟩=some (.int .i64 a):=by rw [E];simp
  have q3:V.cell? ⟨w1.heap.size,3,none⟩=some (.int .i64 b):=by rw [E];simp
  have m:=f.below b1;have a3:=m.GO.2.2.1;have a8:=m.GO.2.2.2.1;have a4:=m.GO.2.2.2.2.1;have a9:=m.GO.2.2.2.2.2.1;have k7:=m.Bt.1;have z7:=m.Bt.2;have HA:=m.span a b;have F:=HA.1.st 18;have Hn:Hid (Cw ρ w p { z with least:=a,bits:=b,st:=18 } (((V.setCell ⟨p,39,none⟩ (.int .i64 a)).setCell ⟨p,40,none⟩ (.int .i64 b)).setCell ⟨p,7,none⟩ (.int .i64 18))):=⟨F.1,{ C with },s2,by show z.la≠[];rw [l];exact H.out.ne,by show z.lb.length<=16;rw [s];exact H.out.lb,(((H.out.fr.trans g2).trans (Fr.below b1)).trans HA.2).trans F.2⟩
  have Qn:∀ b∈z.qc,b<256:=by rw [o];exact Q
  have Bn:b<=16/\a<=1000000/\a+2^b<=65535:=by
   have:=vP b;omega
  clear f g2 hr s1 s2 G C I h0 l s o HA F b1 sd hk c4 a1 c5 hC ha hb m H Q A HT TR;have HV:Hid _:=E;rw [E] at a3 a8 a4 a9 k7 z7 q0 q2 q3;clear E;go_wp2_with fail
  rw [<- HV.out];clear a3 a8 a4 a9 k7 z7 q0 q2 q3 HV;obtain ⟨W,hW⟩:=qe (((V.setCell ⟨p,39,none⟩ (.int .i64 a)).setCell ⟨p,40,none⟩ (.int .i64 b)).setCell ⟨p,7,none⟩ (.int .i64 18));obtain ⟨y,r⟩:=qe ({ z with least:=a,bits:=b,st:=18 }:MS);have H:=Hn;have g:=R';have Q:∀ b∈y.qc,b<256:=by rw [r];exact Qn
  have b4:y.bits<=16/\y.least<=1000000/\y.least+2^y.bits<=65535:=by rw [r];exact Bn
  have h3:a=y.least:=by rw [r]
  have h4:b=y.bits:=by rw [r]
  rw [<- r] at H g;rw [<- hW] at H |-;clear hW R' Hn Qn Bn;rw [h3,h4];clear h3 h4 r)
 all_goals try (
  have B:=b4;clear b4;refine (ZC y.least y.bits H.out.mm H.out.ok H.out.Cq B.1 B.2.1).mono ?_;rintro v w1 ⟨rfl,f,g2⟩;have I:=MS.IL (least:=y.least) H.out.ok H.out.Cq B.1;have R':Hid (R=if (y.Bg y.least y.bits).2.1=0 then MS.ez { (y.Bg y.least y.bits).1 with left:=(y.Bg y.least y.bits).2.2,st:=19 } else ((y.Bg y.least y.bits).1,(y.Bg y.least y.bits).2.1)):=g.out;clear g;by_cases h0:¬ (y.Bg y.least y.bits).2.1=0
  ·rw [zA h0] at R';obtain ⟨e,he⟩:=qe ((y.Bg y.least y.bits).2.1);have g:Hid (MM ρ w1 p (y.Bg y.least y.bits).1/\Fr V5 ρ w w1/\(y.Bg y.least y.bits).2.1=e):=⟨f,H.out.fr.trans g2,he.symm⟩
   rw [<- he] at h0 |-;have q:=qn h0;clear f g2 he;go_wp2
   go_ret
   unfold Ak;rw [R'.out,g.out.2.2];exact ⟨rfl,g.out.1,g.out.2.1⟩
  replace h0:=xM.1 h0
  rw [zC h0] at R';obtain ⟨s1,s2,G,s4⟩:=I.2 h0;have C:=I.1;have hD:(y.Bg y.least y.bits).2.2<=65535:=zO;obtain ⟨z,t,D,hr⟩:∃ z t D,y.Bg y.least y.bits=(z,t,D):=⟨_,_,_,rfl⟩
  rw [hr] at f R' s1 s4 C hD h0 |-;have q:t=0:=h0;subst q;have l:z.la=y.la:=by have:z=_:=s4;rw [this]
  have s:z.lb=y.lb:=by have:z=_:=s4;rw [this]
  have o:z.qc=y.qc:=by have:z=_:=s4;rw [this]
  have e2:=f.EY.1;have e1:=f.EY.2;have k7:=f.Bt.1;have z7:=f.Bt.2;have HA:=f.left D;have F:=HA.1.st 19;have Hn:Hid (Cw ρ w p { z with left:=D,st:=19 } ((w1.setCell ⟨p,25,none⟩ (.int .i64 D)).setCell ⟨p,7,none⟩ (.int .i64 19))):=⟨F.1,{ C with },s1,by show z.la≠[];rw [l];exact H.out.ne,by show z.lb.length<=16;rw [s];exact H.out.lb,((H.out.fr.trans g2).trans HA.2).trans F.2⟩
  have Qn:∀ b∈z.qc,b<256:=by rw [o];exact Q
  obtain ⟨gs,tl,td,U,X,Z,TL,TD,a0⟩:=f.Ev (by rw [l];exact H.out.ne);have TR:=TD.ON;have HT:Hid (Ge ρ ((w1.setCell ⟨p,25,none⟩ (.int .i64 D)).setCell ⟨p,7,none⟩ (.int .i64 19)) 271 2 (fun i=>(Eu 1 i).toList) td z.lb):=TD.fr (HA.2.trans F.2).kp zD;clear f g2 hr s4 C I h0 l s o HA F s1 s2 G TL TD H Q B;go_wp2_with fail
  clear e2 e1 k7 z7 U X Z a0;obtain ⟨W,hW⟩:=qe ((w1.setCell ⟨p,25,none⟩ (.int .i64 D)).setCell ⟨p,7,none⟩ (.int .i64 19));obtain ⟨y,r⟩:=qe ({ z with left:=D,st:=19 }:MS);have H:=Hn;have g:=R';have Q:∀ b∈y.qc,b<256:=by rw [r];exact Qn
  have b5:y.left<=65535:=by rw [r];exact hD
  have a6:z.lb=y.lb:=by rw [r]
  rw [a6] at TR HT;rw [<- r] at H g;rw [<- hW] at H HT |-;clear r hW R' Hn Qn hD a6)
 all_goals try (
  have L:=b5;clear b5;refine (aT H.out.mm H.out.ok H.out.Cq HT.out).mono ?_;rintro v w1 ⟨rfl,f,g2⟩;have I:=MS.Nf TR H.out.ok H.out.Cq;have R':Hid (R=if (y.sym y.lb).2.1=0 then MS.fA { (y.sym y.lb).1 with least:=Tr.Ar 1 (y.sym y.lb).2.2,bits:=Tr.Ag (y.sym y.lb).2.2,st:=20 } else ((y.sym y.lb).1,(y.sym y.lb).2.1)):=g.out;clear g;by_cases h0:¬ (y.sym y.lb).2.1=0
  ·rw [zA h0] at R';rw [zA h0];obtain ⟨e,he⟩:=qe ((y.sym y.lb).2.1);have g:Hid (MM ρ w1 p (y.sym y.lb).1/\Fr V5 ρ w w1/\(y.sym y.lb).2.1=e):=⟨f,H.out.fr.trans g2,he.symm⟩
   rw [<- he] at h0 |-;have q:=qn h0;clear f g2 he;go_wp2
   go_ret
   unfold Ak;rw [R'.out,g.out.2.2];exact ⟨rfl,g.out.1.below (zB.alloc zL _),g.out.2.1.trans (Fr.below (zB.alloc zL _))⟩
  replace h0:=xM.1 h0
  rw [zC h0] at R';rw [zC h0];obtain ⟨s1,s2,G⟩:=I.2 h0;have C:=I.1;have e5:=H.out.lb;have sd:=nH (k:=(y.sym y.lb).2.2) zO;obtain ⟨z,t,k,hr⟩:∃ z t k,y.sym y.lb=(z,t,k):=⟨_,_,_,rfl⟩
  rw [hr] at f R' s2 G C sd h0 |-;have q:t=0:=h0;subst q;have l:z.la=y.la:=by have:z=_:=G;rw [this]
  have s:z.lb=y.lb:=by have:z=_:=G;rw [this]
  have a7:z.left=y.left:=by have:z=_:=G;rw [this]
  have o:z.qc=y.qc:=by have:z=_:=G;rw [this]
  unfold Eu;obtain ⟨a,ha⟩:=qe (Tr.Ar 1 k);obtain ⟨b,hb⟩:=qe (Tr.Ag k);rw [<- ha,<- hb] at R' sd |-;obtain ⟨V,E⟩:=qe (w1.alloc (.cells #[.int .i64 a, .int .i64 b] 125));have b1:Below w1.heap.size w1 V:=by rw [E];exact zB.alloc zL _
  have q0:V.cell? ⟨w1.heap.size,0,none⟩=some (.int .i64 a):=by rw [E];simp
  have q1:V.cell? ⟨w1.heap.size,1,none⟩=some (.int .i64 b):=by rw [E];simp
  have m:=f.below b1;have a3:=m.GO.2.2.1;have a8:=m.GO.2.2.2.1;have a4:=m.GO.2.2.2.2.1;have a9:=m.GO.2.2.2.2.2.1;have k7:=m.Bt.1;have z7:=m.Bt.2;have HA:=m.span a b;have F:=HA.1.st 20;have Hn:Hid (Cw ρ w p { z with least:=a,bits:=b,st:=20 } (((V.setCell ⟨p,39,none⟩ (.int .i64 a)).setCell ⟨p,40,none⟩ (.int .i64 b)).setCell ⟨p,7,none⟩ (.int .i64 20))):=⟨F.1,{ C with },s2,by show z.la≠[];rw [l];exact H.out.ne,by show z.lb.length<=16;rw [s];exact H.out.lb,(((H.out.fr.trans g2).trans (Fr.below b1)).trans HA.2).trans F.2⟩
  have Qn:∀ b∈z.qc,b<256:=by rw [o];exact Q
  have Ln:z.left<=65535:=by rw [a7];exact L
  clear f g2 hr s1 s2 G C I h0 l s a7 o HA F b1 e5 ha hb m H Q L HT TR;have HV:Hid _:=E;rw [E] at a3 a8 a4 a9 k7 z7 q0 q1;clear E;go_wp2_with fail
  rw [<- HV.out];clear a3 a8 a4 a9 k7 z7 q0 q1 HV;obtain ⟨W,hW⟩:=qe (((V.setCell ⟨p,39,none⟩ (.int .i64 a)).setCell ⟨p,40,none⟩ (.int .i64 b)).setCell ⟨p,7,none⟩ (.int .i64 20));obtain ⟨y,r⟩:=qe ({ z with least:=a,bits:=b,st:=20 }:MS);have H:=Hn;have g:=R';have Q:∀ b∈y.qc,b<256:=by rw [r];exact Qn
  have L:y.left<=65535:=by rw [r];exact Ln
  have a20:y.bits<=16/\y.least<=1000000/\1<=y.least:=by rw [r];exact sd
  have h3:a=y.least:=by rw [r]
  have h4:b=y.bits:=by rw [r]
  rw [<- r] at H g;rw [<- hW] at H |-;clear hW R' Hn Qn Ln sd;rw [h3,h4];clear h3 h4 r)
 all_goals try (
  have B:=a20;clear a20;refine (ZC y.least y.bits H.out.mm H.out.ok H.out.Cq B.1 B.2.1).mono ?_;rintro v w1 ⟨rfl,f,g2⟩;have I:=MS.IL (least:=y.least) H.out.ok H.out.Cq B.1;have R':Hid (R=if (y.Bg y.least y.bits).2.1=0 then (if (y.Bg y.least y.bits).1.qc.length<(y.Bg y.least y.bits).2.2 then (y.Bg y.least y.bits).1.refuse 11 else MS.iZ { (y.Bg y.least y.bits).1 with Cc:=(y.Bg y.least y.bits).2.2,st:=21 }) else ((y.Bg y.least y.bits).1,(y.Bg y.least y.bits).2.1)):=g.out;clear g;by_cases h0:¬ (y.Bg y.least y.bits).2.1=0
  ·rw [zA h0] at R';obtain ⟨e,he⟩:=qe ((y.Bg y.least y.bits).2.1);have g:Hid (MM ρ w1 p (y.Bg y.least y.bits).1/\Fr V5 ρ w w1/\(y.Bg y.least y.bits).2.1=e):=⟨f,H.out.fr.trans g2,he.symm⟩
   rw [<- he] at h0 |-;have q:=qn h0;clear f g2 he;go_wp2
   go_ret
   unfold Ak;rw [R'.out,g.out.2.2];exact ⟨rfl,g.out.1,g.out.2.1⟩
  replace h0:=xM.1 h0
  rw [zC h0] at R';obtain ⟨s1,s2,G,s4⟩:=I.2 h0;have C:=I.1;have hD:(y.Bg y.least y.bits).2.2<=2000000/\1<=(y.Bg y.least y.bits).2.2:=by
   have:2^y.bits<=2^16:=yP zD B.1;have e:2^16=65536:=zD;omega
  obtain ⟨z,t,D,hr⟩:∃ z t D,y.Bg y.least y.bits=(z,t,D):=⟨_,_,_,rfl⟩
  rw [hr] at f R' s1 s4 C hD h0 |-;have q:t=0:=h0;subst q;have a7:z.left=y.left:=by have:z=_:=s4;rw [this]
  have o:z.qc=y.qc:=by have:z=_:=s4;rw [this]
  have J:Hid (MM ρ w1 p z/\Ok z/\Fr V5 ρ w w1):=⟨f,C,H.out.fr.trans g2⟩
  obtain ⟨cw,bp,HL,_,_⟩:=f.oB;have b7:Hid (Calls prog 57 #[.pointer (some ⟨cw,0,none⟩)] w1 fun v w'=>v= .returned (.int .i64 z.qc.length)/\w1=w'):=HL;have d5:=f.GO.2.2.2.2.2.2.1;have e6:=f.GO.2.2.2.2.2.2.2;have M:z.qc.length<=256:=by obtain ⟨L,B,T⟩:=f;exact B.oA
  have c9:Hid (∀ b∈z.qc,b<256):=by show ∀ b∈z.qc,b<256;rw [o];exact Q
  have c6:z.left<=65535:=by rw [a7];exact L
  clear f g2 hr s4 C I HL h0 s1 s2 G a7 o H Q L B;go_wp2_with fail
  refine b7.out.mono ?_;rintro v w' ⟨rfl,rfl⟩;obtain ⟨N,hN⟩:=qe z.qc.length;rw [<- hN] at M R' |-;have HN:=hid hN;clear hN;by_cases hd:N<D
  ·rw [zC hd] at R';have d9:(N:Int)<D:=zO;go_wp2_with fail
   refine (Cd 11 J.out.1).mono ?_;rintro v w4 ⟨rfl,g3,g4⟩;have c0:Hid (MM ρ w4 p (z.refuse 11).1/\Fr V5 ρ w w4):=⟨g3,J.out.2.2.trans g4⟩
   clear g3 g4;go_wp2
   go_ret
   unfold Ak;rw [R'.out];exact ⟨rfl,c0.out⟩
  rw [zA hd] at R';have d9:¬ (N:Int)<D:=zO;have H1:=J.out.1.Cc D;have H2:=H1.1.st 21;have k7:=J.out.1.Bt.1;have z7:=J.out.1.Bt.2;have c2:Hid (∃ y,Kw ρ w p y R ((w1.setCell ⟨p,41,none⟩ (.int .i64 D)).setCell ⟨p,7,none⟩ (.int .i64 21))):=⟨{ z with Cc:=D,st:=21 },H2.1,{ J.out.2.1 with },R'.out.symm,c6,hD.2,by show D<=z.qc.length;rw [<- HN.out];omega,c9.out,(J.out.2.2.trans H1.2).trans H2.2⟩
  clear H1 H2 R' J hd b7 HN c9;go_wp2_with fail
  clear d9 k7 z7 bp d5 e6;generalize decide (N<D)=dd)
 all_goals try (
  have H0:=c2;clear c2;go_loopw [] (fun wr=>Hid (∃ y,Kw ρ w p y R wr)) (fun wr=>Jc wr p 25)
  case atStart=>exact H0
  case round=>
   clear H0;obtain ⟨y,Y⟩:=hrel.out;have d0:=Y.mm.EY.1;have e4:=Ed d0;have hl:=Y.left;have HY:=hid Y;by_cases hz:y.left=0
   ·have J:Hid (R=({ y with st:=17 },0)):=by show R=_;rw [<- HY.out.eq,MS.Zs hz]
    rw [hz] at d0;have k7:=Y.mm.Bt.1;have z7:=Y.mm.Bt.2;have c8:Hid (MM ρ (wr.setCell ⟨p,7,none⟩ (.int .i64 17)) p { y with st:=17 }/\Fr V5 ρ wr (wr.setCell ⟨p,7,none⟩ (.int .i64 17))):=Y.mm.st 17;clear hz Y hrel;go_wp2
    go_ret
    unfold Ak;rw [J.out];exact ⟨rfl,c8.out.1,HY.out.fr.trans c8.out.2⟩
   ·obtain ⟨n,hn⟩:∃ n,y.left=n+1:=⟨y.left - 1,zO⟩
    have HS:Hid (R=if (y.put (y.qc.getD (y.qc.length - y.Cc) 0)).2=0 then MS.Hj n { (y.put (y.qc.getD (y.qc.length - y.Cc) 0)).1 with left:=n } else y.put (y.qc.getD (y.qc.length - y.Cc) 0)):=by show R=_;rw [<- HY.out.eq,MS.Zr hn]
    have e7:(0:Int)<y.left:=zO;have hb:y.qc.getD (y.qc.length - y.Cc) 0<256:=Of Y.qb _;obtain ⟨cw,bp,_,b6,_⟩:=Y.mm.oB;have b8:Hid (∀ n,Calls prog 150 #[.pointer (some ⟨cw,0,none⟩), .int .i64 y.Cc] (wr.drewN n) fun v w'=>v= .returned (.int .u8 (y.qc.getD (y.qc.length - y.Cc) 0:Nat))/\∃ m,w'=(wr.drewN n).drewN m):=fun n=>b6 n y.Cc Y.d1 Y.d2
    have d5:=Y.mm.GO.2.2.2.2.2.2.1;obtain ⟨b,d8⟩:=qe (y.qc.getD (y.qc.length - y.Cc) 0);rw [<- d8] at HS hb b8;clear d8 b6;have b9:=MS.KP Y.ok b;have M:y.qc.length<=256:=by obtain ⟨L,B,T⟩:=Y.mm;exact B.oA
    obtain ⟨P,hP⟩:=qe (y.put b);have b2:Hid (∀ wq,MM ρ wq p y->Calls prog 137 #[.pointer (some ⟨p,0,none⟩), .int .u8 b] wq fun v w'=>Ak ρ wq p P v w'):=fun wq m=>by rw [hP];exact fl b m HY.out.ok hb
    rw [<- hP] at HS b9;have S:=hid b9;clear hP b9 hz Y hrel;by_cases h1:P.2=0
    ·have u:=S.out.2 h1;rw [zC h1] at HS;have d7:P.1.left=n+1:=by rw [u];exact hn
     have b0:Hid (1<=P.1.Cc/\P.1.Cc<=P.1.qc.length/\∀ b∈P.1.qc,b<256):=by
      show _/\_/\_;rw [u];refine ⟨HY.out.d1,?_,Sa HY.out.qb hb⟩;have:=Xo y.qc b M;have h3:=HY.out.d2;show y.Cc<=(MS.Fi y.qc b).length;omega
     obtain ⟨Q,t,hQ⟩:∃ Q t,P=(Q,t):=⟨_,_,rfl⟩
     rw [hQ] at HS S b2 d7 b0 h1;clear hQ u;have c3:t=0:=h1;subst c3;clear h1;go_wp2_with fail
     go_region_with (first
      | (go_at_call 150;refine (b8.out 1).mono ?_;rintro e w2 ⟨rfl,m2,a5⟩;have H2:Hid (MM ρ w2 p y/\Fr V5 ρ w w2):=by { show _/\_;rw [a5];exact ⟨(HY.out.mm.drewN 1).drewN m2,(HY.out.fr.drewN 1).drewN m2⟩ };clear a5)
      | (go_at_call 137;refine (b2.out _ H2.out.1).mono ?_;rintro e w3 ⟨rfl,f,g2⟩;have H3:Hid (MM ρ w3 p Q/\Fr V5 ρ w w3):=⟨f,H2.out.2.trans g2⟩;clear f g2))
     all_goals
      have e8:w3.cell? ⟨p,25,none⟩=some (.int .i64 (n+1:Nat)):=by rw [<- d7];exact H3.out.1.EY.1
      have e1:=H3.out.1.EY.2;have HL:=H3.out.1.left n;have HN:Hid (∃ y,Kw ρ w p y R (w3.setCell ⟨p,25,none⟩ (.int .i64 n))):=⟨{ Q with left:=n },HL.1,{ S.out.1 with },HS.out.symm,by show n<=65535;omega,b0.out.1,b0.out.2.1,b0.out.2.2,H3.out.2.trans HL.2⟩
      have eN:Jc (w3.setCell ⟨p,25,none⟩ (.int .i64 n)) p 25=n:=Ed HL.1.EY.1;have e9:((n+1:Nat):Int) - 1=(n:Int):=zO;clear HL;go_wp2_with fail
      go_roundw
      case rel=>exact HN
      case measure=>rw [e4,eN];omega
    ·rw [zA h1] at HS;obtain ⟨Q,t,hQ⟩:∃ Q t,P=(Q,t):=⟨_,_,rfl⟩
     rw [hQ] at HS S b2 h1;clear hQ;have c3:¬ t=0:=h1;have q:=qn c3;clear h1;go_wp2_with fail
     go_region_with (first
      | (go_at_call 150;refine (b8.out 1).mono ?_;rintro e w2 ⟨rfl,m2,a5⟩;have H2:Hid (MM ρ w2 p y/\Fr V5 ρ w w2):=by { show _/\_;rw [a5];exact ⟨(HY.out.mm.drewN 1).drewN m2,(HY.out.fr.drewN 1).drewN m2⟩ };clear a5)
      | (go_at_call 137;refine (b2.out _ H2.out.1).mono ?_;rintro e w3 ⟨rfl,f,g2⟩;have H3:Hid (MM ρ w3 p Q/\Fr V5 ρ w w3):=⟨f,H2.out.2.trans g2⟩;clear f g2))
     all_goals
      go_wp2
      go_ret
      unfold Ak;rw [HS.out];exact ⟨rfl,H3.out⟩)
theorem fa(h:MM ρ w p x)(ok:Ok x)(hc:x.count<=40)(e:x.la≠[])(d:x.lb.length<=16)(f:∀ b∈x.qc,b<256)(c:x.la.length<=269)(a:x.lit<256)(g:x.st=16) :
  Calls prog 106 #[.pointer (some ⟨p,0,none⟩)] w fun v i=>Ak ρ w p x.TN v i:=NJ h (Or.inl ⟨g,rfl,⟨h,ok,hc,e,d,Fr.refl _ _ _⟩,f,c,a⟩)
theorem fb(h:MM ρ w p x)(ok:Ok x)(hc:x.count<=40)(d:x.la≠[])(c:x.lb.length<=16)(e:∀ b∈x.qc,b<256)(a:x.la.length<=269)(f:x.st=17) :
  Calls prog 106 #[.pointer (some ⟨p,0,none⟩)] w fun v g=>Ak ρ w p x.bp v g:=NJ h (Or.inr (Or.inl ⟨f,rfl,⟨h,ok,hc,d,c,Fr.refl _ _ _⟩,e,a⟩))
theorem fe(h:MM ρ w p x)(ok:Ok x)(hc:x.count<=40)(c:x.la≠[])(a:x.lb.length<=16)(d:∀ b∈x.qc,b<256)(f:x.bits<=16/\x.least<=1000000/\x.least+2^x.bits<=65535)(e:x.st=18) :
  Calls prog 106 #[.pointer (some ⟨p,0,none⟩)] w fun v g=>Ak ρ w p x.bN v g:=NJ h (Or.inr (Or.inr (Or.inl ⟨e,rfl,⟨h,ok,hc,c,a,Fr.refl _ _ _⟩,d,f⟩)))
theorem ff(h:MM ρ w p x)(ok:Ok x)(hc:x.count<=40)(c:x.la≠[])(a:x.lb.length<=16)(d:∀ b∈x.qc,b<256)(hl:x.left<=65535)(e:x.st=19) :
  Calls prog 106 #[.pointer (some ⟨p,0,none⟩)] w fun v f=>Ak ρ w p x.ez v f:=NJ h (Or.inr (Or.inr (Or.inr (Or.inl ⟨e,rfl,⟨h,ok,hc,c,a,Fr.refl _ _ _⟩,d,hl⟩))))
theorem fh(h:MM ρ w p x)(ok:Ok x)(hc:x.count<=40)(c:x.la≠[])(a:x.lb.length<=16)(d:∀ b∈x.qc,b<256)(f:x.bits<=16/\x.least<=1000000/\1<=x.least)(hl:x.left<=65535)(e:x.st=20) :
  Calls prog 106 #[.pointer (some ⟨p,0,none⟩)] w fun v g=>Ak ρ w p x.fA v g:=NJ h (Or.inr (Or.inr (Or.inr (Or.inr (Or.inl ⟨e,rfl,⟨h,ok,hc,c,a,Fr.refl _ _ _⟩,d,hl,f⟩)))))
theorem fi(h:MM ρ w p x)(ok:Ok x)(hl:x.left<=65535)(h1:1<=x.Cc)(h2:x.Cc<=x.qc.length)(h3:∀ b∈x.qc,b<256)(a:x.st=21) :
  Calls prog 106 #[.pointer (some ⟨p,0,none⟩)] w fun v c=>Ak ρ w p x.iZ v c:=NJ h (Or.inr (Or.inr (Or.inr (Or.inr (Or.inr (⟨a,x,h,ok,rfl,hl,h1,h2,h3,Fr.refl _ _ _⟩))))))
end Go.Proofs.YtbcjmakpempkiaaGreatDoor
