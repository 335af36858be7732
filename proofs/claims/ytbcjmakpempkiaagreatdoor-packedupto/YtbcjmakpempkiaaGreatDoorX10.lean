import Derived.Test.YtbcjmakpempkiaaGreatDoorX08
set_option maxRecDepth 100000
set_option maxHeartbeats 8000000
set_option linter.all false
namespace Go.Proofs.YtbcjmakpempkiaaGreatDoor
open Go.RowKit
theorem knx{ρ:Nat->Nat}{w:World}{p:Nat}{x:MS}(h:MM ρ w p x)(ok:Ok x)(hc:x.count<=40)(hne:x.la≠[])(hlb:x.lb.length<=16)(hqc:∀ b∈x.qc,b<256)(hb:x.bits<=16∧x.least<=1000000∧1<=x.least)(hl:x.left<=65535)(hst:x.st=20) :
  Calls Tryz.prog 106 #[.pointer (some ⟨p,0,none⟩)] w fun v w'=>y0y ρ w p x.c20 v w':=by
 have H20:Hid (Cw ρ w p x w):=⟨h,ok,hc,hne,hlb,Fr.refl _ _ _⟩
 have Q20:=hqc;have c39:=h.cellI.2.2.1;have c40:=h.cellI.2.2.2.2.1;have B20:=hb;have L20:=hl;have R20:Hid (x.c20=MS.symThen (x.spanR x.least x.bits) fun y n=>if y.qc.length<n then y.refuse 11 else MS.c21 { y with dist:=n,st:=21 }):=rfl;have c7:=h.cell7.1;rw [hst] at c7;clear h ok hst hc hne hlb hqc;go_enter Tryz.func106,Tryz.ntmps106
 go_wp2_with fail
 have hbl:=B20;refine (xh4 x.least x.bits H20.out.mm H20.out.ok H20.out.cnt hbl.1 hbl.2.1).mono ?_;rintro v wa20 ⟨rfl,g1,g2⟩;have SF:=MS.spanR_facts (least:=x.least) H20.out.ok H20.out.cnt hbl.1;have R':Hid (x.c20=if (x.spanR x.least x.bits).2.1=0 then (if (x.spanR x.least x.bits).1.qc.length<(x.spanR x.least x.bits).2.2 then (x.spanR x.least x.bits).1.refuse 11 else MS.c21 { (x.spanR x.least x.bits).1 with dist:=(x.spanR x.least x.bits).2.2,st:=21 }) else ((x.spanR x.least x.bits).1,(x.spanR x.least x.bits).2.1)):=R20.out;clear R20;by_cases h0:(x.spanR x.least x.bits).2.1=0
 ·rw [if_pos h0] at R';obtain ⟨s1,s2,s3,s4⟩:=SF.2 h0;have so:=SF.1;have hD:(x.spanR x.least x.bits).2.2<=2000000∧1<=(x.spanR x.least x.bits).2.2:=by
   have:2^x.bits<=2^16:=Nat.pow_le_pow_right (by decide) hbl.1;have e:2^16=65536:=by decide
   have:=hbl.2.2;omega
  obtain ⟨z,t,D,hr⟩:∃ z t D,x.spanR x.least x.bits=(z,t,D):=⟨_,_,_,rfl⟩
  rw [hr] at g1 R' s1 s4 so hD h0 ⊢;have h0':t=0:=h0;subst h0';have hzl:z.left=x.left:=by have:z=_:=s4;rw [this]
  have hzq:z.qc=x.qc:=by have:z=_:=s4;rw [this]
  have HZ:Hid (MM ρ wa20 p z∧Ok z∧Fr (fun k=>1<=k∧k<=5) ρ w wa20):=⟨g1,so,H20.out.fr.trans g2⟩
  obtain ⟨cw,c17,HLEN0,_,_⟩:=g1.win;have HLEN:Hid (Calls Tryz.prog 57 #[.pointer (some ⟨cw,0,none⟩)] wa20 fun v w'=>v= .returned (.int .i64 z.qc.length)∧wa20=w'):=HLEN0;have c41:=g1.cellI.2.2.2.2.2.2.1;have z41:=g1.cellI.2.2.2.2.2.2.2;have hq256:z.qc.length<=256:=by obtain ⟨L,B,T⟩:=g1;exact B.rc'
  have HQB:Hid (∀ b∈z.qc,b<256):=by show ∀ b∈z.qc,b<256;rw [hzq];exact Q20
  have hleft:z.left<=65535:=by rw [hzl];exact L20
  clear g1 g2 hr s4 so SF HLEN0 h0 s1 s2 s3 hzl hzq;go_wp2_with fail
  refine HLEN.out.mono ?_;rintro v w' ⟨rfl,rfl⟩;obtain ⟨N,hN⟩:∃ N,N=z.qc.length:=⟨_,rfl⟩
  rw [← hN] at hq256 R' ⊢;have HN:Hid (N=z.qc.length):=hN;clear hN;by_cases hd:N<D
  ·rw [if_pos hd] at R';have hdi:(N:Int)<D:=by omega
   go_wp2_with fail
   refine (kv8 11 HZ.out.1).mono ?_;rintro v w4 ⟨rfl,g3,g4⟩;have HR2:Hid (MM ρ w4 p (z.refuse 11).1∧Fr (fun k=>1<=k∧k<=5) ρ w w4):=⟨g3,HZ.out.2.2.trans g4⟩
   clear g3 g4;go_wp2_with fail
   go_ret
   unfold y0y;rw [R'.out];exact ⟨rfl,HR2.out⟩
  ·rw [if_neg hd] at R';have hdi:¬ (N:Int)<D:=by omega
   have H1:=HZ.out.1.dist D;have H2:=H1.1.st 21;have k7:=HZ.out.1.cell7.1;have z7:=HZ.out.1.cell7.2;obtain ⟨R,hR⟩:∃ R,R=MS.c21 { z with dist:=D,st:=21 }:=⟨_,rfl⟩
   have H0:Hid (∃ y,Kw ρ w p y R ((wa20.setCell ⟨p,41,none⟩ (.int .i64 D)).setCell ⟨p,7,none⟩ (.int .i64 21))):=⟨{ z with dist:=D,st:=21 },H2.1,{ HZ.out.2.1 with },hR.symm,hleft,hD.2,by show D<=z.qc.length;rw [← HN.out];omega,HQB.out,(HZ.out.2.2.trans H1.2).trans H2.2⟩
   have HF:Hid (x.c20=R):=by show x.c20=R;rw [hR];exact R'.out
   clear H1 H2 hR R' HZ hd HLEN;go_wp2_with fail
   clear hdi;generalize decide (N<D)=dd;go_loopw [] (fun wr=>Hid (∃ y,Kw ρ w p y R wr)) (fun wr=>xq0 wr p 25)
   case atStart=>exact H0
   case round=>
    clear H0;obtain ⟨y,Y⟩:=hrel.out;have c25:=Y.mm.cell25.1;have e25:=xv1 c25;have hl:=Y.left;have HY:Hid (Kw ρ w p y R wr):=Y;by_cases hz:y.left=0
    ·have HZ:Hid (R=({ y with st:=17 },0)):=by show R=_;rw [← HY.out.eq,MS.copy_zero hz]
     rw [hz] at c25;have k7:=Y.mm.cell7.1;have z7:=Y.mm.cell7.2;have H17:Hid (MM ρ (wr.setCell ⟨p,7,none⟩ (.int .i64 17)) p { y with st:=17 }∧Fr (fun k=>1<=k∧k<=5) ρ wr (wr.setCell ⟨p,7,none⟩ (.int .i64 17))):=Y.mm.st 17;clear hz Y hrel;go_wp2_with fail
     go_ret
     unfold y0y;rw [HF.out,HZ.out];exact ⟨rfl,H17.out.1,HY.out.fr.trans H17.out.2⟩
    ·obtain ⟨n,hn⟩:∃ n,y.left=n+1:=⟨y.left - 1,by omega⟩
     have HS:Hid (R=if (y.put (y.qc.getD (y.qc.length - y.dist) 0)).2=0 then MS.copyL n { (y.put (y.qc.getD (y.qc.length - y.dist) 0)).1 with left:=n } else y.put (y.qc.getD (y.qc.length - y.dist) 0)):=by show R=_;rw [← HY.out.eq,MS.copy_succ hn]
     have hpos:(0:Int)<y.left:=by omega
     have hb:y.qc.getD (y.qc.length - y.dist) 0<256:=getD_lt Y.qb _;obtain ⟨cw,c17,_,HBK0,_⟩:=Y.mm.win;have HBK:Hid (∀ n,Calls Tryz.prog 150 #[.pointer (some ⟨cw,0,none⟩), .int .i64 y.dist] (wr.drewN n) fun v w'=>v= .returned (.int .u8 (y.qc.getD (y.qc.length - y.dist) 0:Nat))∧∃ m,w'=(wr.drewN n).drewN m):=fun n=>HBK0 n y.dist Y.d1 Y.d2
     have c41:=Y.mm.cellI.2.2.2.2.2.2.1;obtain ⟨b,hbE⟩:∃ b,b=y.qc.getD (y.qc.length - y.dist) 0:=⟨_,rfl⟩
     rw [← hbE] at HS hb HBK;clear hbE HBK0;have HPF:=MS.put_facts Y.ok b;have hq256:y.qc.length<=256:=by obtain ⟨L,B,T⟩:=Y.mm;exact B.rc'
     obtain ⟨P,hP⟩:∃ P,P=y.put b:=⟨_,rfl⟩
     have HPT:Hid (∀ wq,MM ρ wq p y->Calls Tryz.prog 137 #[.pointer (some ⟨p,0,none⟩), .int .u8 b] wq fun v w'=>y0y ρ wq p P v w'):=fun wq m=>by rw [hP];exact mPut b m HY.out.ok hb
     rw [← hP] at HS HPF;have HPF':Hid (Ok P.1∧(P.2=0->P.1=y.putted b)):=HPF;clear hP HPF hz Y hrel;by_cases h1:P.2=0
     ·have hPe:=HPF'.out.2 h1;rw [if_pos h1] at HS;have hPl:P.1.left=n+1:=by rw [hPe];exact hn
      have HPD:Hid (1<=P.1.dist∧P.1.dist<=P.1.qc.length∧∀ b∈P.1.qc,b<256):=by
       show _∧_∧_;rw [hPe];refine ⟨HY.out.d1,?_,vso HY.out.qb hb⟩;have:=xsr y.qc b hq256;have h3:=HY.out.d2;show y.dist<=(MS.pushed y.qc b).length;omega
      obtain ⟨Q,t,hQ⟩:∃ Q t,P=(Q,t):=⟨_,_,rfl⟩
      rw [hQ] at HS HPF' HPT hPl HPD h1;clear hQ hPe;have h1':t=0:=h1;subst h1';clear h1;go_wp2_with fail
      go_region_with (first
       | (go_at_call 150;refine (HBK.out 1).mono ?_;rintro e w2 ⟨rfl,m2,hw2⟩;have H2:Hid (MM ρ w2 p y∧Fr (fun k=>1<=k∧k<=5) ρ w w2):=by { show _∧_;rw [hw2];exact ⟨(HY.out.mm.drewN 1).drewN m2,(HY.out.fr.drewN 1).drewN m2⟩ };clear hw2)
       | (go_at_call 137;refine (HPT.out _ H2.out.1).mono ?_;rintro e w3 ⟨rfl,g1,g2⟩;have H3:Hid (MM ρ w3 p Q∧Fr (fun k=>1<=k∧k<=5) ρ w w3):=⟨g1,H2.out.2.trans g2⟩;clear g1 g2))
      all_goals
       have d25:w3.cell? ⟨p,25,none⟩=some (.int .i64 (n+1:Nat)):=by rw [← hPl];exact H3.out.1.cell25.1
       have z25:=H3.out.1.cell25.2;have HL:=H3.out.1.left n;have HN:Hid (∃ y,Kw ρ w p y R (w3.setCell ⟨p,25,none⟩ (.int .i64 n))):=⟨{ Q with left:=n },HL.1,{ HPF'.out.1 with },HS.out.symm,by show n<=65535;omega,HPD.out.1,HPD.out.2.1,HPD.out.2.2,H3.out.2.trans HL.2⟩
       have eN:xq0 (w3.setCell ⟨p,25,none⟩ (.int .i64 n)) p 25=n:=xv1 HL.1.cell25.1;have hn1:((n+1:Nat):Int) - 1=(n:Int):=by omega
       clear HL;go_wp2_with fail
       go_roundw
       case rel=>exact HN
       case measure=>rw [e25,eN];omega
     ·rw [if_neg h1] at HS;obtain ⟨Q,t,hQ⟩:∃ Q t,P=(Q,t):=⟨_,_,rfl⟩
      rw [hQ] at HS HPF' HPT h1;clear hQ;have h1':¬ t=0:=h1;have h0':((t:Int)==0)=false:=by simp;exact h1'
      clear h1;go_wp2_with fail
      go_region_with (first
       | (go_at_call 150;refine (HBK.out 1).mono ?_;rintro e w2 ⟨rfl,m2,hw2⟩;have H2:Hid (MM ρ w2 p y∧Fr (fun k=>1<=k∧k<=5) ρ w w2):=by { show _∧_;rw [hw2];exact ⟨(HY.out.mm.drewN 1).drewN m2,(HY.out.fr.drewN 1).drewN m2⟩ };clear hw2)
       | (go_at_call 137;refine (HPT.out _ H2.out.1).mono ?_;rintro e w3 ⟨rfl,g1,g2⟩;have H3:Hid (MM ρ w3 p Q∧Fr (fun k=>1<=k∧k<=5) ρ w w3):=⟨g1,H2.out.2.trans g2⟩;clear g1 g2))
      all_goals
       go_wp2_with fail
       go_ret
       unfold y0y;rw [HF.out,HS.out];exact ⟨rfl,H3.out⟩
 ·rw [if_neg h0] at R';obtain ⟨e,he⟩:∃ e,e=(x.spanR x.least x.bits).2.1:=⟨_,rfl⟩
  have HR:Hid (MM ρ wa20 p (x.spanR x.least x.bits).1∧Fr (fun k=>1<=k∧k<=5) ρ w wa20∧(x.spanR x.least x.bits).2.1=e):=⟨g1,H20.out.fr.trans g2,he.symm⟩
  rw [← he] at h0 ⊢;have h0':((e:Int)==0)=false:=by simp;exact h0
  clear g1 g2 he;go_wp2_with fail
  go_ret
  unfold y0y;rw [R'.out,HR.out.2.2];exact ⟨rfl,HR.out.1,HR.out.2.1⟩
theorem j5a{ρ:Nat->Nat}{w:World}{p:Nat}{x:MS}(h:MM ρ w p x)(ok:Ok x)(hc:x.count<=40)(hne:x.la≠[])(hlb:x.lb.length<=16)(hqc:∀ b∈x.qc,b<256)(hl:x.left<=65535)(hst:x.st=19) :
  Calls Tryz.prog 106 #[.pointer (some ⟨p,0,none⟩)] w fun v w'=>y0y ρ w p x.c19 v w':=by
 have H19:Hid (Cw ρ w p x w):=⟨h,ok,hc,hne,hlb,Fr.refl _ _ _⟩
 have Q19:=hqc;obtain ⟨gs,tl,td,c37,cg0,cg1,TL,TD,hgp⟩:=h.sets hne;have TDr:=TD.rng;have HTD:Hid (TabS ρ w 271 2 (fun i=>(vtb 1 i).toList) td x.lb):=TD;clear TL TD;have L19:=hl;have R19:Hid (x.c19=MS.symThen (x.sym x.lb) fun y k=>MS.c20 { y with least:=Tr.spanLeast 1 k,bits:=Tr.spanBits k,st:=20 }):=rfl;have c7:=h.cell7.1;rw [hst] at c7;clear h ok hst hc hne hlb hqc;go_enter Tryz.func106,Tryz.ntmps106
 go_wp2_with fail
 refine (kdd H19.out.mm H19.out.ok H19.out.cnt HTD.out).mono ?_;rintro v wa19 ⟨rfl,g1,g2⟩;have SF:=MS.sym_facts TDr H19.out.ok H19.out.cnt;have R':Hid (x.c19=if (x.sym x.lb).2.1=0 then MS.c20 { (x.sym x.lb).1 with least:=Tr.spanLeast 1 (x.sym x.lb).2.2,bits:=Tr.spanBits (x.sym x.lb).2.2,st:=20 } else ((x.sym x.lb).1,(x.sym x.lb).2.1)):=R19.out;clear R19;by_cases h0:(x.sym x.lb).2.1=0
 ·rw [if_pos h0] at R';rw [if_pos h0];obtain ⟨s1,s2,s3⟩:=SF.2 h0;have so:=SF.1;have hlb:=H19.out.lb;have sd:=k8m (k:=(x.sym x.lb).2.2) (by omega);obtain ⟨z,t,k,hr⟩:∃ z t k,x.sym x.lb=(z,t,k):=⟨_,_,_,rfl⟩
  rw [hr] at g1 R' s2 s3 so sd h0 ⊢;have h0':t=0:=h0;subst h0';have hza:z.la=x.la:=by have:z=_:=s3;rw [this]
  have hzb:z.lb=x.lb:=by have:z=_:=s3;rw [this]
  have hzl:z.left=x.left:=by have:z=_:=s3;rw [this]
  have hzq:z.qc=x.qc:=by have:z=_:=s3;rw [this]
  have b1:Below wa19.heap.size wa19 (wa19.alloc (.cells #[.int .i64 (Tr.spanLeast 1 k), .int .i64 (Tr.spanBits k)] 125)):=(Below.refl _ _).alloc (Nat.le_refl _) _;have HZ:Hid (MM ρ (wa19.alloc (.cells #[.int .i64 (Tr.spanLeast 1 k), .int .i64 (Tr.spanBits k)] 125)) p z∧Ok z∧Fr (fun k=>1<=k∧k<=5) ρ w (wa19.alloc (.cells #[.int .i64 (Tr.spanLeast 1 k), .int .i64 (Tr.spanBits k)] 125))):=⟨g1.below b1,so,(H19.out.fr.trans g2).trans (Fr.below b1)⟩
  have a39:=HZ.out.1.cellI.2.2.1;have z39:=HZ.out.1.cellI.2.2.2.1;have a40:=HZ.out.1.cellI.2.2.2.2.1;have z40:=HZ.out.1.cellI.2.2.2.2.2.1;have k7:=HZ.out.1.cell7.1;have z7:=HZ.out.1.cell7.2;have q0:(wa19.alloc (.cells #[.int .i64 (Tr.spanLeast 1 k), .int .i64 (Tr.spanBits k)] 125)).cell? ⟨wa19.heap.size,0,none⟩=some (.int .i64 (Tr.spanLeast 1 k)):=by simp
  have q1:(wa19.alloc (.cells #[.int .i64 (Tr.spanLeast 1 k), .int .i64 (Tr.spanBits k)] 125)).cell? ⟨wa19.heap.size,1,none⟩=some (.int .i64 (Tr.spanBits k)):=by simp
  have HA:=HZ.out.1.span (Tr.spanLeast 1 k) (Tr.spanBits k);have HB:=HA.1.st 20;obtain ⟨y20,hy20⟩:∃ y20:MS,y20={ z with least:=Tr.spanLeast 1 k,bits:=Tr.spanBits k,st:=20 }:=⟨_,rfl⟩
  obtain ⟨WW20,hW⟩:∃ W,W=(((wa19.alloc (.cells #[.int .i64 (Tr.spanLeast 1 k), .int .i64 (Tr.spanBits k)] 125)).setCell ⟨p,39,none⟩ (.int .i64 (Tr.spanLeast 1 k))).setCell ⟨p,40,none⟩ (.int .i64 (Tr.spanBits k))).setCell ⟨p,7,none⟩ (.int .i64 20):=⟨_,rfl⟩
  have H20:Hid (Cw ρ w p y20 WW20):=by
   show Cw ρ w p y20 WW20;rw [hW,hy20];exact ⟨HB.1,{ HZ.out.2.1 with },s2,by show z.la≠[];rw [hza];exact H19.out.ne,by show z.lb.length<=16;rw [hzb];exact H19.out.lb,(HZ.out.2.2.trans HA.2).trans HB.2⟩
  have B20:y20.bits<=16∧y20.least<=1000000∧1<=y20.least:=by rw [hy20];exact sd
  have Q20:∀ b∈y20.qc,b<256:=by rw [hy20];show ∀ b∈z.qc,b<256;rw [hzq];exact Q19
  have L20:y20.left<=65535:=by rw [hy20];show z.left<=65535;rw [hzl];exact L19
  have R20:Hid (x.c19=MS.c20 y20):=by show x.c19=_;rw [hy20];exact R'.out
  have HW20:Hid (WW20=(((wa19.alloc (.cells #[.int .i64 (Tr.spanLeast 1 k), .int .i64 (Tr.spanBits k)] 125)).setCell ⟨p,39,none⟩ (.int .i64 (Tr.spanLeast 1 k))).setCell ⟨p,40,none⟩ (.int .i64 (Tr.spanBits k))).setCell ⟨p,7,none⟩ (.int .i64 20)):=hW;have hE3:Tr.spanLeast 1 k=y20.least:=by rw [hy20]
  have hE4:Tr.spanBits k=y20.bits:=by rw [hy20]
  unfold vtb;clear g1 g2 hr s3 so SF h0 hza hzb hzl hzq HA HB hy20 hW b1 sd R' HZ;rw [hE3,hE4] at HW20 a39 z39 a40 z40 k7 z7 q0 q1 ⊢;clear hE3 hE4;go_wp2_with fail
  rw [← HW20.out];clear a39 z39 a40 z40 k7 z7 q0 q1 HW20;have hbl:=B20;refine (xh4 y20.least y20.bits H20.out.mm H20.out.ok H20.out.cnt hbl.1 hbl.2.1).mono ?_;rintro v wa20 ⟨rfl,g1,g2⟩;have SF:=MS.spanR_facts (least:=y20.least) H20.out.ok H20.out.cnt hbl.1;have R':Hid (x.c19=if (y20.spanR y20.least y20.bits).2.1=0 then (if (y20.spanR y20.least y20.bits).1.qc.length<(y20.spanR y20.least y20.bits).2.2 then (y20.spanR y20.least y20.bits).1.refuse 11 else MS.c21 { (y20.spanR y20.least y20.bits).1 with dist:=(y20.spanR y20.least y20.bits).2.2,st:=21 }) else ((y20.spanR y20.least y20.bits).1,(y20.spanR y20.least y20.bits).2.1)):=R20.out;clear R20;by_cases h0:(y20.spanR y20.least y20.bits).2.1=0
  ·rw [if_pos h0] at R';obtain ⟨s1,s2,s3,s4⟩:=SF.2 h0;have so:=SF.1;have hD:(y20.spanR y20.least y20.bits).2.2<=2000000∧1<=(y20.spanR y20.least y20.bits).2.2:=by
    have:2^y20.bits<=2^16:=Nat.pow_le_pow_right (by decide) hbl.1;have e:2^16=65536:=by decide
    have:=hbl.2.2;omega
   obtain ⟨z,t,D,hr⟩:∃ z t D,y20.spanR y20.least y20.bits=(z,t,D):=⟨_,_,_,rfl⟩
   rw [hr] at g1 R' s1 s4 so hD h0 ⊢;have h0':t=0:=h0;subst h0';have hzl:z.left=y20.left:=by have:z=_:=s4;rw [this]
   have hzq:z.qc=y20.qc:=by have:z=_:=s4;rw [this]
   have HZ:Hid (MM ρ wa20 p z∧Ok z∧Fr (fun k=>1<=k∧k<=5) ρ w wa20):=⟨g1,so,H20.out.fr.trans g2⟩
   obtain ⟨cw,c17,HLEN0,_,_⟩:=g1.win;have HLEN:Hid (Calls Tryz.prog 57 #[.pointer (some ⟨cw,0,none⟩)] wa20 fun v w'=>v= .returned (.int .i64 z.qc.length)∧wa20=w'):=HLEN0;have c41:=g1.cellI.2.2.2.2.2.2.1;have z41:=g1.cellI.2.2.2.2.2.2.2;have hq256:z.qc.length<=256:=by obtain ⟨L,B,T⟩:=g1;exact B.rc'
   have HQB:Hid (∀ b∈z.qc,b<256):=by show ∀ b∈z.qc,b<256;rw [hzq];exact Q20
   have hleft:z.left<=65535:=by rw [hzl];exact L20
   clear g1 g2 hr s4 so SF HLEN0 h0 s1 s2 s3 hzl hzq;go_wp2_with fail
   refine HLEN.out.mono ?_;rintro v w' ⟨rfl,rfl⟩;obtain ⟨N,hN⟩:∃ N,N=z.qc.length:=⟨_,rfl⟩
   rw [← hN] at hq256 R' ⊢;have HN:Hid (N=z.qc.length):=hN;clear hN;by_cases hd:N<D
   ·rw [if_pos hd] at R';have hdi:(N:Int)<D:=by omega
    go_wp2_with fail
    refine (kv8 11 HZ.out.1).mono ?_;rintro v w4 ⟨rfl,g3,g4⟩;have HR2:Hid (MM ρ w4 p (z.refuse 11).1∧Fr (fun k=>1<=k∧k<=5) ρ w w4):=⟨g3,HZ.out.2.2.trans g4⟩
    clear g3 g4;go_wp2_with fail
    go_ret
    unfold y0y;rw [R'.out];exact ⟨rfl,HR2.out⟩
   ·rw [if_neg hd] at R';have hdi:¬ (N:Int)<D:=by omega
    have H1:=HZ.out.1.dist D;have H2:=H1.1.st 21;have k7:=HZ.out.1.cell7.1;have z7:=HZ.out.1.cell7.2;obtain ⟨R,hR⟩:∃ R,R=MS.c21 { z with dist:=D,st:=21 }:=⟨_,rfl⟩
    have H0:Hid (∃ y,Kw ρ w p y R ((wa20.setCell ⟨p,41,none⟩ (.int .i64 D)).setCell ⟨p,7,none⟩ (.int .i64 21))):=⟨{ z with dist:=D,st:=21 },H2.1,{ HZ.out.2.1 with },hR.symm,hleft,hD.2,by show D<=z.qc.length;rw [← HN.out];omega,HQB.out,(HZ.out.2.2.trans H1.2).trans H2.2⟩
    have HF:Hid (x.c19=R):=by show x.c19=R;rw [hR];exact R'.out
    clear H1 H2 hR R' HZ hd HLEN;go_wp2_with fail
    clear hdi;generalize decide (N<D)=dd;go_loopw [] (fun wr=>Hid (∃ y,Kw ρ w p y R wr)) (fun wr=>xq0 wr p 25)
    case atStart=>exact H0
    case round=>
     clear H0;obtain ⟨y,Y⟩:=hrel.out;have c25:=Y.mm.cell25.1;have e25:=xv1 c25;have hl:=Y.left;have HY:Hid (Kw ρ w p y R wr):=Y;by_cases hz:y.left=0
     ·have HZ:Hid (R=({ y with st:=17 },0)):=by show R=_;rw [← HY.out.eq,MS.copy_zero hz]
      rw [hz] at c25;have k7:=Y.mm.cell7.1;have z7:=Y.mm.cell7.2;have H17:Hid (MM ρ (wr.setCell ⟨p,7,none⟩ (.int .i64 17)) p { y with st:=17 }∧Fr (fun k=>1<=k∧k<=5) ρ wr (wr.setCell ⟨p,7,none⟩ (.int .i64 17))):=Y.mm.st 17;clear hz Y hrel;go_wp2_with fail
      go_ret
      unfold y0y;rw [HF.out,HZ.out];exact ⟨rfl,H17.out.1,HY.out.fr.trans H17.out.2⟩
     ·obtain ⟨n,hn⟩:∃ n,y.left=n+1:=⟨y.left - 1,by omega⟩
      have HS:Hid (R=if (y.put (y.qc.getD (y.qc.length - y.dist) 0)).2=0 then MS.copyL n { (y.put (y.qc.getD (y.qc.length - y.dist) 0)).1 with left:=n } else y.put (y.qc.getD (y.qc.length - y.dist) 0)):=by show R=_;rw [← HY.out.eq,MS.copy_succ hn]
      have hpos:(0:Int)<y.left:=by omega
      have hb:y.qc.getD (y.qc.length - y.dist) 0<256:=getD_lt Y.qb _;obtain ⟨cw,c17,_,HBK0,_⟩:=Y.mm.win;have HBK:Hid (∀ n,Calls Tryz.prog 150 #[.pointer (some ⟨cw,0,none⟩), .int .i64 y.dist] (wr.drewN n) fun v w'=>v= .returned (.int .u8 (y.qc.getD (y.qc.length - y.dist) 0:Nat))∧∃ m,w'=(wr.drewN n).drewN m):=fun n=>HBK0 n y.dist Y.d1 Y.d2
      have c41:=Y.mm.cellI.2.2.2.2.2.2.1;obtain ⟨b,hbE⟩:∃ b,b=y.qc.getD (y.qc.length - y.dist) 0:=⟨_,rfl⟩
      rw [← hbE] at HS hb HBK;clear hbE HBK0;have HPF:=MS.put_facts Y.ok b;have hq256:y.qc.length<=256:=by obtain ⟨L,B,T⟩:=Y.mm;exact B.rc'
      obtain ⟨P,hP⟩:∃ P,P=y.put b:=⟨_,rfl⟩
      have HPT:Hid (∀ wq,MM ρ wq p y->Calls Tryz.prog 137 #[.pointer (some ⟨p,0,none⟩), .int .u8 b] wq fun v w'=>y0y ρ wq p P v w'):=fun wq m=>by rw [hP];exact mPut b m HY.out.ok hb
      rw [← hP] at HS HPF;have HPF':Hid (Ok P.1∧(P.2=0->P.1=y.putted b)):=HPF;clear hP HPF hz Y hrel;by_cases h1:P.2=0
      ·have hPe:=HPF'.out.2 h1;rw [if_pos h1] at HS;have hPl:P.1.left=n+1:=by rw [hPe];exact hn
       have HPD:Hid (1<=P.1.dist∧P.1.dist<=P.1.qc.length∧∀ b∈P.1.qc,b<256):=by
        show _∧_∧_;rw [hPe];refine ⟨HY.out.d1,?_,vso HY.out.qb hb⟩;have:=xsr y.qc b hq256;have h3:=HY.out.d2;show y.dist<=(MS.pushed y.qc b).length;omega
       obtain ⟨Q,t,hQ⟩:∃ Q t,P=(Q,t):=⟨_,_,rfl⟩
       rw [hQ] at HS HPF' HPT hPl HPD h1;clear hQ hPe;have h1':t=0:=h1;subst h1';clear h1;go_wp2_with fail
       go_region_with (first
        | (go_at_call 150;refine (HBK.out 1).mono ?_;rintro e w2 ⟨rfl,m2,hw2⟩;have H2:Hid (MM ρ w2 p y∧Fr (fun k=>1<=k∧k<=5) ρ w w2):=by { show _∧_;rw [hw2];exact ⟨(HY.out.mm.drewN 1).drewN m2,(HY.out.fr.drewN 1).drewN m2⟩ };clear hw2)
        | (go_at_call 137;refine (HPT.out _ H2.out.1).mono ?_;rintro e w3 ⟨rfl,g1,g2⟩;have H3:Hid (MM ρ w3 p Q∧Fr (fun k=>1<=k∧k<=5) ρ w w3):=⟨g1,H2.out.2.trans g2⟩;clear g1 g2))
       all_goals
        have d25:w3.cell? ⟨p,25,none⟩=some (.int .i64 (n+1:Nat)):=by rw [← hPl];exact H3.out.1.cell25.1
        have z25:=H3.out.1.cell25.2;have HL:=H3.out.1.left n;have HN:Hid (∃ y,Kw ρ w p y R (w3.setCell ⟨p,25,none⟩ (.int .i64 n))):=⟨{ Q with left:=n },HL.1,{ HPF'.out.1 with },HS.out.symm,by show n<=65535;omega,HPD.out.1,HPD.out.2.1,HPD.out.2.2,H3.out.2.trans HL.2⟩
        have eN:xq0 (w3.setCell ⟨p,25,none⟩ (.int .i64 n)) p 25=n:=xv1 HL.1.cell25.1;have hn1:((n+1:Nat):Int) - 1=(n:Int):=by omega
        clear HL;go_wp2_with fail
        go_roundw
        case rel=>exact HN
        case measure=>rw [e25,eN];omega
      ·rw [if_neg h1] at HS;obtain ⟨Q,t,hQ⟩:∃ Q t,P=(Q,t):=⟨_,_,rfl⟩
       rw [hQ] at HS HPF' HPT h1;clear hQ;have h1':¬ t=0:=h1;have h0':((t:Int)==0)=false:=by simp;exact h1'
       clear h1;go_wp2_with fail
       go_region_with (first
        | (go_at_call 150;refine (HBK.out 1).mono ?_;rintro e w2 ⟨rfl,m2,hw2⟩;have H2:Hid (MM ρ w2 p y∧Fr (fun k=>1<=k∧k<=5) ρ w w2):=by { show _∧_;rw [hw2];exact ⟨(HY.out.mm.drewN 1).drewN m2,(HY.out.fr.drewN 1).drewN m2⟩ };clear hw2)
        | (go_at_call 137;refine (HPT.out _ H2.out.1).mono ?_;rintro e w3 ⟨rfl,g1,g2⟩;have H3:Hid (MM ρ w3 p Q∧Fr (fun k=>1<=k∧k<=5) ρ w w3):=⟨g1,H2.out.2.trans g2⟩;clear g1 g2))
       all_goals
        go_wp2_with fail
        go_ret
        unfold y0y;rw [HF.out,HS.out];exact ⟨rfl,H3.out⟩
  ·rw [if_neg h0] at R';obtain ⟨e,he⟩:∃ e,e=(y20.spanR y20.least y20.bits).2.1:=⟨_,rfl⟩
   have HR:Hid (MM ρ wa20 p (y20.spanR y20.least y20.bits).1∧Fr (fun k=>1<=k∧k<=5) ρ w wa20∧(y20.spanR y20.least y20.bits).2.1=e):=⟨g1,H20.out.fr.trans g2,he.symm⟩
   rw [← he] at h0 ⊢;have h0':((e:Int)==0)=false:=by simp;exact h0
   clear g1 g2 he;go_wp2_with fail
   go_ret
   unfold y0y;rw [R'.out,HR.out.2.2];exact ⟨rfl,HR.out.1,HR.out.2.1⟩
 ·rw [if_neg h0] at R';rw [if_neg h0];obtain ⟨e,he⟩:∃ e,e=(x.sym x.lb).2.1:=⟨_,rfl⟩
  have b1:Below wa19.heap.size wa19 (wa19.alloc (.cells #[.int .i64 0, .int .i64 0] 125)):=(Below.refl _ _).alloc (Nat.le_refl _) _;have HR:Hid (MM ρ (wa19.alloc (.cells #[.int .i64 0, .int .i64 0] 125)) p (x.sym x.lb).1∧Fr (fun k=>1<=k∧k<=5) ρ w (wa19.alloc (.cells #[.int .i64 0, .int .i64 0] 125))∧(x.sym x.lb).2.1=e):=⟨g1.below b1,(H19.out.fr.trans g2).trans (Fr.below b1),he.symm⟩
  rw [← he] at h0 ⊢;have h0':((e:Int)==0)=false:=by simp;exact h0
  clear g1 g2 he b1;go_wp2_with fail
  go_ret
  unfold y0y;rw [R'.out,HR.out.2.2];exact ⟨rfl,HR.out.1,HR.out.2.1⟩
theorem z0y{ρ:Nat->Nat}{w:World}{p:Nat}{x:MS}(h:MM ρ w p x)(ok:Ok x)(hc:x.count<=40)(hne:x.la≠[])(hlb:x.lb.length<=16)(hqc:∀ b∈x.qc,b<256)(hb:x.bits<=16∧x.least<=1000000∧x.least+2^x.bits<=65535)(hst:x.st=18) :
  Calls Tryz.prog 106 #[.pointer (some ⟨p,0,none⟩)] w fun v w'=>y0y ρ w p x.c18 v w':=by
 have H18:Hid (Cw ρ w p x w):=⟨h,ok,hc,hne,hlb,Fr.refl _ _ _⟩
 have Q18:=hqc;have c39:=h.cellI.2.2.1;have c40:=h.cellI.2.2.2.2.1;have B18:=hb;have R18:Hid (x.c18=MS.symThen (x.spanR x.least x.bits) fun y n=>MS.c19 { y with left:=n,st:=19 }):=rfl;have c7:=h.cell7.1;rw [hst] at c7;clear h ok hst hc hne hlb hqc;go_enter Tryz.func106,Tryz.ntmps106
 go_wp2_with fail
 have hbl:=B18;refine (xh4 x.least x.bits H18.out.mm H18.out.ok H18.out.cnt hbl.1 hbl.2.1).mono ?_;rintro v wa18 ⟨rfl,g1,g2⟩;have SF:=MS.spanR_facts (least:=x.least) H18.out.ok H18.out.cnt hbl.1;have R':Hid (x.c18=if (x.spanR x.least x.bits).2.1=0 then MS.c19 { (x.spanR x.least x.bits).1 with left:=(x.spanR x.least x.bits).2.2,st:=19 } else ((x.spanR x.least x.bits).1,(x.spanR x.least x.bits).2.1)):=R18.out;clear R18;by_cases h0:(x.spanR x.least x.bits).2.1=0
 ·rw [if_pos h0] at R';obtain ⟨s1,s2,s3,s4⟩:=SF.2 h0;have so:=SF.1;have hD:(x.spanR x.least x.bits).2.2<=65535:=by have:=hbl.2.2;omega
  obtain ⟨z,t,D,hr⟩:∃ z t D,x.spanR x.least x.bits=(z,t,D):=⟨_,_,_,rfl⟩
  rw [hr] at g1 R' s1 s4 so hD h0 ⊢;have h0':t=0:=h0;subst h0';have hza:z.la=x.la:=by have:z=_:=s4;rw [this]
  have hzb:z.lb=x.lb:=by have:z=_:=s4;rw [this]
  have hzq:z.qc=x.qc:=by have:z=_:=s4;rw [this]
  have HZ:Hid (MM ρ wa18 p z∧Ok z∧Fr (fun k=>1<=k∧k<=5) ρ w wa18):=⟨g1,so,H18.out.fr.trans g2⟩
  have a25:=g1.cell25.1;have z25:=g1.cell25.2;have k7:=g1.cell7.1;have z7:=g1.cell7.2;have HA:=g1.left D;have HB:=HA.1.st 19;obtain ⟨y19,hy19⟩:∃ y19:MS,y19={ z with left:=D,st:=19 }:=⟨_,rfl⟩
  obtain ⟨WW19,hW⟩:∃ W,W=(wa18.setCell ⟨p,25,none⟩ (.int .i64 D)).setCell ⟨p,7,none⟩ (.int .i64 19):=⟨_,rfl⟩
  have H19:Hid (Cw ρ w p y19 WW19):=by
   show Cw ρ w p y19 WW19;rw [hW,hy19];exact ⟨HB.1,{ HZ.out.2.1 with },s1,by show z.la≠[];rw [hza];exact H18.out.ne,by show z.lb.length<=16;rw [hzb];exact H18.out.lb,(HZ.out.2.2.trans HA.2).trans HB.2⟩
  have Q19:∀ b∈y19.qc,b<256:=by rw [hy19];show ∀ b∈z.qc,b<256;rw [hzq];exact Q18
  have L19:y19.left<=65535:=by rw [hy19];exact hD
  have R19:Hid (x.c18=MS.c19 y19):=by show x.c18=_;rw [hy19];exact R'.out
  have HW19:Hid (WW19=(wa18.setCell ⟨p,25,none⟩ (.int .i64 D)).setCell ⟨p,7,none⟩ (.int .i64 19)):=hW;obtain ⟨gs,tl,td,c37,cg0,cg1,TL,TD,hgp⟩:=g1.sets (by rw [hza];exact H18.out.ne);have TDr:inRange y19.lb=true:=by rw [hy19];exact TD.rng
  have HTD:Hid (TabS ρ WW19 271 2 (fun i=>(vtb 1 i).toList) td y19.lb):=by
   show TabS _ _ _ _ _ _ _;rw [hW,hy19];exact TD.fr (HA.2.trans HB.2).kp (by decide)
  clear g1 g2 hr s4 so SF h0 hza hzb hzq HA HB hy19 hW s1 s2 s3 R' TL TD;go_wp2_with fail
  rw [← HW19.out];clear HZ a25 z25 k7 z7 HW19 hD;refine (kdd H19.out.mm H19.out.ok H19.out.cnt HTD.out).mono ?_;rintro v wa19 ⟨rfl,g1,g2⟩;have SF:=MS.sym_facts TDr H19.out.ok H19.out.cnt;have R':Hid (x.c18=if (y19.sym y19.lb).2.1=0 then MS.c20 { (y19.sym y19.lb).1 with least:=Tr.spanLeast 1 (y19.sym y19.lb).2.2,bits:=Tr.spanBits (y19.sym y19.lb).2.2,st:=20 } else ((y19.sym y19.lb).1,(y19.sym y19.lb).2.1)):=R19.out;clear R19;by_cases h0:(y19.sym y19.lb).2.1=0
  ·rw [if_pos h0] at R';rw [if_pos h0];obtain ⟨s1,s2,s3⟩:=SF.2 h0;have so:=SF.1;have hlb:=H19.out.lb;have sd:=k8m (k:=(y19.sym y19.lb).2.2) (by omega);obtain ⟨z,t,k,hr⟩:∃ z t k,y19.sym y19.lb=(z,t,k):=⟨_,_,_,rfl⟩
   rw [hr] at g1 R' s2 s3 so sd h0 ⊢;have h0':t=0:=h0;subst h0';have hza:z.la=y19.la:=by have:z=_:=s3;rw [this]
   have hzb:z.lb=y19.lb:=by have:z=_:=s3;rw [this]
   have hzl:z.left=y19.left:=by have:z=_:=s3;rw [this]
   have hzq:z.qc=y19.qc:=by have:z=_:=s3;rw [this]
   have b1:Below wa19.heap.size wa19 (wa19.alloc (.cells #[.int .i64 (Tr.spanLeast 1 k), .int .i64 (Tr.spanBits k)] 125)):=(Below.refl _ _).alloc (Nat.le_refl _) _;have HZ:Hid (MM ρ (wa19.alloc (.cells #[.int .i64 (Tr.spanLeast 1 k), .int .i64 (Tr.spanBits k)] 125)) p z∧Ok z∧Fr (fun k=>1<=k∧k<=5) ρ w (wa19.alloc (.cells #[.int .i64 (Tr.spanLeast 1 k), .int .i64 (Tr.spanBits k)] 125))):=⟨g1.below b1,so,(H19.out.fr.trans g2).trans (Fr.below b1)⟩
   have a39:=HZ.out.1.cellI.2.2.1;have z39:=HZ.out.1.cellI.2.2.2.1;have a40:=HZ.out.1.cellI.2.2.2.2.1;have z40:=HZ.out.1.cellI.2.2.2.2.2.1;have k7:=HZ.out.1.cell7.1;have z7:=HZ.out.1.cell7.2;have q0:(wa19.alloc (.cells #[.int .i64 (Tr.spanLeast 1 k), .int .i64 (Tr.spanBits k)] 125)).cell? ⟨wa19.heap.size,0,none⟩=some (.int .i64 (Tr.spanLeast 1 k)):=by simp
   have q1:(wa19.alloc (.cells #[.int .i64 (Tr.spanLeast 1 k), .int .i64 (Tr.spanBits k)] 125)).cell? ⟨wa19.heap.size,1,none⟩=some (.int .i64 (Tr.spanBits k)):=by simp
   have HA:=HZ.out.1.span (Tr.spanLeast 1 k) (Tr.spanBits k);have HB:=HA.1.st 20;obtain ⟨y20,hy20⟩:∃ y20:MS,y20={ z with least:=Tr.spanLeast 1 k,bits:=Tr.spanBits k,st:=20 }:=⟨_,rfl⟩
   obtain ⟨WW20,hW⟩:∃ W,W=(((wa19.alloc (.cells #[.int .i64 (Tr.spanLeast 1 k), .int .i64 (Tr.spanBits k)] 125)).setCell ⟨p,39,none⟩ (.int .i64 (Tr.spanLeast 1 k))).setCell ⟨p,40,none⟩ (.int .i64 (Tr.spanBits k))).setCell ⟨p,7,none⟩ (.int .i64 20):=⟨_,rfl⟩
   have H20:Hid (Cw ρ w p y20 WW20):=by
    show Cw ρ w p y20 WW20;rw [hW,hy20];exact ⟨HB.1,{ HZ.out.2.1 with },s2,by show z.la≠[];rw [hza];exact H19.out.ne,by show z.lb.length<=16;rw [hzb];exact H19.out.lb,(HZ.out.2.2.trans HA.2).trans HB.2⟩
   have B20:y20.bits<=16∧y20.least<=1000000∧1<=y20.least:=by rw [hy20];exact sd
   have Q20:∀ b∈y20.qc,b<256:=by rw [hy20];show ∀ b∈z.qc,b<256;rw [hzq];exact Q19
   have L20:y20.left<=65535:=by rw [hy20];show z.left<=65535;rw [hzl];exact L19
   have R20:Hid (x.c18=MS.c20 y20):=by show x.c18=_;rw [hy20];exact R'.out
   have HW20:Hid (WW20=(((wa19.alloc (.cells #[.int .i64 (Tr.spanLeast 1 k), .int .i64 (Tr.spanBits k)] 125)).setCell ⟨p,39,none⟩ (.int .i64 (Tr.spanLeast 1 k))).setCell ⟨p,40,none⟩ (.int .i64 (Tr.spanBits k))).setCell ⟨p,7,none⟩ (.int .i64 20)):=hW;have hE3:Tr.spanLeast 1 k=y20.least:=by rw [hy20]
   have hE4:Tr.spanBits k=y20.bits:=by rw [hy20]
   unfold vtb;clear g1 g2 hr s3 so SF h0 hza hzb hzl hzq HA HB hy20 hW b1 sd R' HZ;rw [hE3,hE4] at HW20 a39 z39 a40 z40 k7 z7 q0 q1 ⊢;clear hE3 hE4;go_wp2_with fail
   rw [← HW20.out];clear a39 z39 a40 z40 k7 z7 q0 q1 HW20;have hbl:=B20;refine (xh4 y20.least y20.bits H20.out.mm H20.out.ok H20.out.cnt hbl.1 hbl.2.1).mono ?_;rintro v wa20 ⟨rfl,g1,g2⟩;have SF:=MS.spanR_facts (least:=y20.least) H20.out.ok H20.out.cnt hbl.1;have R':Hid (x.c18=if (y20.spanR y20.least y20.bits).2.1=0 then (if (y20.spanR y20.least y20.bits).1.qc.length<(y20.spanR y20.least y20.bits).2.2 then (y20.spanR y20.least y20.bits).1.refuse 11 else MS.c21 { (y20.spanR y20.least y20.bits).1 with dist:=(y20.spanR y20.least y20.bits).2.2,st:=21 }) else ((y20.spanR y20.least y20.bits).1,(y20.spanR y20.least y20.bits).2.1)):=R20.out;clear R20;by_cases h0:(y20.spanR y20.least y20.bits).2.1=0
   ·rw [if_pos h0] at R';obtain ⟨s1,s2,s3,s4⟩:=SF.2 h0;have so:=SF.1;have hD:(y20.spanR y20.least y20.bits).2.2<=2000000∧1<=(y20.spanR y20.least y20.bits).2.2:=by
     have:2^y20.bits<=2^16:=Nat.pow_le_pow_right (by decide) hbl.1;have e:2^16=65536:=by decide
     have:=hbl.2.2;omega
    obtain ⟨z,t,D,hr⟩:∃ z t D,y20.spanR y20.least y20.bits=(z,t,D):=⟨_,_,_,rfl⟩
    rw [hr] at g1 R' s1 s4 so hD h0 ⊢;have h0':t=0:=h0;subst h0';have hzl:z.left=y20.left:=by have:z=_:=s4;rw [this]
    have hzq:z.qc=y20.qc:=by have:z=_:=s4;rw [this]
    have HZ:Hid (MM ρ wa20 p z∧Ok z∧Fr (fun k=>1<=k∧k<=5) ρ w wa20):=⟨g1,so,H20.out.fr.trans g2⟩
    obtain ⟨cw,c17,HLEN0,_,_⟩:=g1.win;have HLEN:Hid (Calls Tryz.prog 57 #[.pointer (some ⟨cw,0,none⟩)] wa20 fun v w'=>v= .returned (.int .i64 z.qc.length)∧wa20=w'):=HLEN0;have c41:=g1.cellI.2.2.2.2.2.2.1;have z41:=g1.cellI.2.2.2.2.2.2.2;have hq256:z.qc.length<=256:=by obtain ⟨L,B,T⟩:=g1;exact B.rc'
    have HQB:Hid (∀ b∈z.qc,b<256):=by show ∀ b∈z.qc,b<256;rw [hzq];exact Q20
    have hleft:z.left<=65535:=by rw [hzl];exact L20
    clear g1 g2 hr s4 so SF HLEN0 h0 s1 s2 s3 hzl hzq;go_wp2_with fail
    refine HLEN.out.mono ?_;rintro v w' ⟨rfl,rfl⟩;obtain ⟨N,hN⟩:∃ N,N=z.qc.length:=⟨_,rfl⟩
    rw [← hN] at hq256 R' ⊢;have HN:Hid (N=z.qc.length):=hN;clear hN;by_cases hd:N<D
    ·rw [if_pos hd] at R';have hdi:(N:Int)<D:=by omega
     go_wp2_with fail
     refine (kv8 11 HZ.out.1).mono ?_;rintro v w4 ⟨rfl,g3,g4⟩;have HR2:Hid (MM ρ w4 p (z.refuse 11).1∧Fr (fun k=>1<=k∧k<=5) ρ w w4):=⟨g3,HZ.out.2.2.trans g4⟩
     clear g3 g4;go_wp2_with fail
     go_ret
     unfold y0y;rw [R'.out];exact ⟨rfl,HR2.out⟩
    ·rw [if_neg hd] at R';have hdi:¬ (N:Int)<D:=by omega
     have H1:=HZ.out.1.dist D;have H2:=H1.1.st 21;have k7:=HZ.out.1.cell7.1;have z7:=HZ.out.1.cell7.2;obtain ⟨R,hR⟩:∃ R,R=MS.c21 { z with dist:=D,st:=21 }:=⟨_,rfl⟩
     have H0:Hid (∃ y,Kw ρ w p y R ((wa20.setCell ⟨p,41,none⟩ (.int .i64 D)).setCell ⟨p,7,none⟩ (.int .i64 21))):=⟨{ z with dist:=D,st:=21 },H2.1,{ HZ.out.2.1 with },hR.symm,hleft,hD.2,by show D<=z.qc.length;rw [← HN.out];omega,HQB.out,(HZ.out.2.2.trans H1.2).trans H2.2⟩
     have HF:Hid (x.c18=R):=by show x.c18=R;rw [hR];exact R'.out
     clear H1 H2 hR R' HZ hd HLEN;go_wp2_with fail
     clear hdi;generalize decide (N<D)=dd;go_loopw [] (fun wr=>Hid (∃ y,Kw ρ w p y R wr)) (fun wr=>xq0 wr p 25)
     case atStart=>exact H0
     case round=>
      clear H0;obtain ⟨y,Y⟩:=hrel.out;have c25:=Y.mm.cell25.1;have e25:=xv1 c25;have hl:=Y.left;have HY:Hid (Kw ρ w p y R wr):=Y;by_cases hz:y.left=0
      ·have HZ:Hid (R=({ y with st:=17 },0)):=by show R=_;rw [← HY.out.eq,MS.copy_zero hz]
       rw [hz] at c25;have k7:=Y.mm.cell7.1;have z7:=Y.mm.cell7.2;have H17:Hid (MM ρ (wr.setCell ⟨p,7,none⟩ (.int .i64 17)) p { y with st:=17 }∧Fr (fun k=>1<=k∧k<=5) ρ wr (wr.setCell ⟨p,7,none⟩ (.int .i64 17))):=Y.mm.st 17;clear hz Y hrel;go_wp2_with fail
       go_ret
       unfold y0y;rw [HF.out,HZ.out];exact ⟨rfl,H17.out.1,HY.out.fr.trans H17.out.2⟩
      ·obtain ⟨n,hn⟩:∃ n,y.left=n+1:=⟨y.left - 1,by omega⟩
       have HS:Hid (R=if (y.put (y.qc.getD (y.qc.length - y.dist) 0)).2=0 then MS.copyL n { (y.put (y.qc.getD (y.qc.length - y.dist) 0)).1 with left:=n } else y.put (y.qc.getD (y.qc.length - y.dist) 0)):=by show R=_;rw [← HY.out.eq,MS.copy_succ hn]
       have hpos:(0:Int)<y.left:=by omega
       have hb:y.qc.getD (y.qc.length - y.dist) 0<256:=getD_lt Y.qb _;obtain ⟨cw,c17,_,HBK0,_⟩:=Y.mm.win;have HBK:Hid (∀ n,Calls Tryz.prog 150 #[.pointer (some ⟨cw,0,none⟩), .int .i64 y.dist] (wr.drewN n) fun v w'=>v= .returned (.int .u8 (y.qc.getD (y.qc.length - y.dist) 0:Nat))∧∃ m,w'=(wr.drewN n).drewN m):=fun n=>HBK0 n y.dist Y.d1 Y.d2
       have c41:=Y.mm.cellI.2.2.2.2.2.2.1;obtain ⟨b,hbE⟩:∃ b,b=y.qc.getD (y.qc.length - y.dist) 0:=⟨_,rfl⟩
       rw [← hbE] at HS hb HBK;clear hbE HBK0;have HPF:=MS.put_facts Y.ok b;have hq256:y.qc.length<=256:=by obtain ⟨L,B,T⟩:=Y.mm;exact B.rc'
       obtain ⟨P,hP⟩:∃ P,P=y.put b:=⟨_,rfl⟩
       have HPT:Hid (∀ wq,MM ρ wq p y->Calls Tryz.prog 137 #[.pointer (some ⟨p,0,none⟩), .int .u8 b] wq fun v w'=>y0y ρ wq p P v w'):=fun wq m=>by rw [hP];exact mPut b m HY.out.ok hb
       rw [← hP] at HS HPF;have HPF':Hid (Ok P.1∧(P.2=0->P.1=y.putted b)):=HPF;clear hP HPF hz Y hrel;by_cases h1:P.2=0
       ·have hPe:=HPF'.out.2 h1;rw [if_pos h1] at HS;have hPl:P.1.left=n+1:=by rw [hPe];exact hn
        have HPD:Hid (1<=P.1.dist∧P.1.dist<=P.1.qc.length∧∀ b∈P.1.qc,b<256):=by
         show _∧_∧_;rw [hPe];refine ⟨HY.out.d1,?_,vso HY.out.qb hb⟩;have:=xsr y.qc b hq256;have h3:=HY.out.d2;show y.dist<=(MS.pushed y.qc b).length;omega
        obtain ⟨Q,t,hQ⟩:∃ Q t,P=(Q,t):=⟨_,_,rfl⟩
        rw [hQ] at HS HPF' HPT hPl HPD h1;clear hQ hPe;have h1':t=0:=h1;subst h1';clear h1;go_wp2_with fail
        go_region_with (first
         | (go_at_call 150;refine (HBK.out 1).mono ?_;rintro e w2 ⟨rfl,m2,hw2⟩;have H2:Hid (MM ρ w2 p y∧Fr (fun k=>1<=k∧k<=5) ρ w w2):=by { show _∧_;rw [hw2];exact ⟨(HY.out.mm.drewN 1).drewN m2,(HY.out.fr.drewN 1).drewN m2⟩ };clear hw2)
         | (go_at_call 137;refine (HPT.out _ H2.out.1).mono ?_;rintro e w3 ⟨rfl,g1,g2⟩;have H3:Hid (MM ρ w3 p Q∧Fr (fun k=>1<=k∧k<=5) ρ w w3):=⟨g1,H2.out.2.trans g2⟩;clear g1 g2))
        all_goals
         have d25:w3.cell? ⟨p,25,none⟩=some (.int .i64 (n+1:Nat)):=by rw [← hPl];exact H3.out.1.cell25.1
         have z25:=H3.out.1.cell25.2;have HL:=H3.out.1.left n;have HN:Hid (∃ y,Kw ρ w p y R (w3.setCell ⟨p,25,none⟩ (.int .i64 n))):=⟨{ Q with left:=n },HL.1,{ HPF'.out.1 with },HS.out.symm,by show n<=65535;omega,HPD.out.1,HPD.out.2.1,HPD.out.2.2,H3.out.2.trans HL.2⟩
         have eN:xq0 (w3.setCell ⟨p,25,none⟩ (.int .i64 n)) p 25=n:=xv1 HL.1.cell25.1;have hn1:((n+1:Nat):Int) - 1=(n:Int):=by omega
         clear HL;go_wp2_with fail
         go_roundw
         case rel=>exact HN
         case measure=>rw [e25,eN];omega
       ·rw [if_neg h1] at HS;obtain ⟨Q,t,hQ⟩:∃ Q t,P=(Q,t):=⟨_,_,rfl⟩
        rw [hQ] at HS HPF' HPT h1;clear hQ;have h1':¬ t=0:=h1;have h0':((t:Int)==0)=false:=by simp;exact h1'
        clear h1;go_wp2_with fail
        go_region_with (first
         | (go_at_call 150;refine (HBK.out 1).mono ?_;rintro e w2 ⟨rfl,m2,hw2⟩;have H2:Hid (MM ρ w2 p y∧Fr (fun k=>1<=k∧k<=5) ρ w w2):=by { show _∧_;rw [hw2];exact ⟨(HY.out.mm.drewN 1).drewN m2,(HY.out.fr.drewN 1).drewN m2⟩ };clear hw2)
         | (go_at_call 137;refine (HPT.out _ H2.out.1).mono ?_;rintro e w3 ⟨rfl,g1,g2⟩;have H3:Hid (MM ρ w3 p Q∧Fr (fun k=>1<=k∧k<=5) ρ w w3):=⟨g1,H2.out.2.trans g2⟩;clear g1 g2))
        all_goals
         go_wp2_with fail
         go_ret
         unfold y0y;rw [HF.out,HS.out];exact ⟨rfl,H3.out⟩
   ·rw [if_neg h0] at R';obtain ⟨e,he⟩:∃ e,e=(y20.spanR y20.least y20.bits).2.1:=⟨_,rfl⟩
    have HR:Hid (MM ρ wa20 p (y20.spanR y20.least y20.bits).1∧Fr (fun k=>1<=k∧k<=5) ρ w wa20∧(y20.spanR y20.least y20.bits).2.1=e):=⟨g1,H20.out.fr.trans g2,he.symm⟩
    rw [← he] at h0 ⊢;have h0':((e:Int)==0)=false:=by simp;exact h0
    clear g1 g2 he;go_wp2_with fail
    go_ret
    unfold y0y;rw [R'.out,HR.out.2.2];exact ⟨rfl,HR.out.1,HR.out.2.1⟩
  ·rw [if_neg h0] at R';rw [if_neg h0];obtain ⟨e,he⟩:∃ e,e=(y19.sym y19.lb).2.1:=⟨_,rfl⟩
   have b1:Below wa19.heap.size wa19 (wa19.alloc (.cells #[.int .i64 0, .int .i64 0] 125)):=(Below.refl _ _).alloc (Nat.le_refl _) _;have HR:Hid (MM ρ (wa19.alloc (.cells #[.int .i64 0, .int .i64 0] 125)) p (y19.sym y19.lb).1∧Fr (fun k=>1<=k∧k<=5) ρ w (wa19.alloc (.cells #[.int .i64 0, .int .i64 0] 125))∧(y19.sym y19.lb).2.1=e):=⟨g1.below b1,(H19.out.fr.trans g2).trans (Fr.below b1),he.symm⟩
   rw [← he] at h0 ⊢;have h0':((e:Int)==0)=false:=by simp;exact h0
   clear g1 g2 he b1;go_wp2_with fail
   go_ret
   unfold y0y;rw [R'.out,HR.out.2.2];exact ⟨rfl,HR.out.1,HR.out.2.1⟩
 ·rw [if_neg h0] at R';obtain ⟨e,he⟩:∃ e,e=(x.spanR x.least x.bits).2.1:=⟨_,rfl⟩
  have HR:Hid (MM ρ wa18 p (x.spanR x.least x.bits).1∧Fr (fun k=>1<=k∧k<=5) ρ w wa18∧(x.spanR x.least x.bits).2.1=e):=⟨g1,H18.out.fr.trans g2,he.symm⟩
  rw [← he] at h0 ⊢;have h0':((e:Int)==0)=false:=by simp;exact h0
  clear g1 g2 he;go_wp2_with fail
  go_ret
  unfold y0y;rw [R'.out,HR.out.2.2];exact ⟨rfl,HR.out.1,HR.out.2.1⟩
theorem vqc{ρ:Nat->Nat}{w:World}{p:Nat}{x:MS}(h:MM ρ w p x)(ok:Ok x)(hc:x.count<=40)(hne:x.la≠[])(hlb:x.lb.length<=16)(hqc:∀ b∈x.qc,b<256)(hla:x.la.length<=269)(hst:x.st=17) :
  Calls Tryz.prog 106 #[.pointer (some ⟨p,0,none⟩)] w fun v w'=>y0y ρ w p x.c17 v w':=by
 have H17:Hid (Cw ρ w p x w):=⟨h,ok,hc,hne,hlb,Fr.refl _ _ _⟩
 have Q17:=hqc;obtain ⟨gs,tl,td,c37,cg0,cg1,TL,TD,hgp⟩:=h.sets hne;have TLr:=TL.rng;have HTL:Hid (TabS ρ w 268 4 (fun i=>(litC i).toList) tl x.la):=TL;have A17:=hla;clear TL TD;have R17:Hid (x.c17=MS.symThen (x.sym x.la) fun y k=>if k<256 then ({ y with lit:=k,st:=16 },0) else if k=256 then y.endBlock else MS.c18 { y with least:=Tr.spanLeast 3 (k - 257),bits:=Tr.spanBits (k - 257),st:=18 }):=rfl;have c7:=h.cell7.1;rw [hst] at c7;clear h ok hst hc hne hlb hqc;go_enter Tryz.func106,Tryz.ntmps106
 go_wp2_with fail
 refine (z4b H17.out.mm H17.out.ok H17.out.cnt HTL.out).mono ?_;rintro v wa17 ⟨rfl,g1,g2⟩;have SF:=MS.sym_facts TLr H17.out.ok H17.out.cnt;have R':Hid (x.c17=if (x.sym x.la).2.1=0 then (if (x.sym x.la).2.2<256 then ({ (x.sym x.la).1 with lit:=(x.sym x.la).2.2,st:=16 },0) else if (x.sym x.la).2.2=256 then (x.sym x.la).1.endBlock else MS.c18 { (x.sym x.la).1 with least:=Tr.spanLeast 3 ((x.sym x.la).2.2 - 257),bits:=Tr.spanBits ((x.sym x.la).2.2 - 257),st:=18 }) else ((x.sym x.la).1,(x.sym x.la).2.1)):=R17.out;clear R17;by_cases h0:(x.sym x.la).2.1=0
 ·rw [if_pos h0] at R';rw [if_pos h0];obtain ⟨s1,s2,s3⟩:=SF.2 h0;have so:=SF.1;have hla:=A17;obtain ⟨z,t,k,hr⟩:∃ z t k,x.sym x.la=(z,t,k):=⟨_,_,_,rfl⟩
  rw [hr] at g1 R' s1 s2 s3 so h0 ⊢;have hk269:k<269:=by have:k<x.la.length:=s1;omega
  have h0':t=0:=h0;subst h0';by_cases hk:k<256
  ·have HC:Hid (litC k=#[.int .i64 0, .int .u8 k, .int .i64 0, .int .i64 0]):=by show litC k=_;unfold litC;rw [if_pos hk]
   have HG:Hid (x.c17=z.goLit k):=by show x.c17=_;rw [R'.out];rw [if_pos hk];exact (if_pos hk).symm
   have b1:Below wa17.heap.size wa17 (wa17.alloc (.cells #[.int .i64 0, .int .u8 k, .int .i64 0, .int .i64 0] 218)):=(Below.refl _ _).alloc (Nat.le_refl _) _;have HZ:Hid (MM ρ (wa17.alloc (.cells #[.int .i64 0, .int .u8 k, .int .i64 0, .int .i64 0] 218)) p z∧Ok z∧Fr (fun k=>1<=k∧k<=5) ρ w (wa17.alloc (.cells #[.int .i64 0, .int .u8 k, .int .i64 0, .int .i64 0] 218))):=⟨g1.below b1,so,(H17.out.fr.trans g2).trans (Fr.below b1)⟩
   have HGL:Hid (Calls Tryz.prog 148 #[.pointer (some ⟨p,0,none⟩), .agg #[.int .i64 0, .int .u8 k, .int .i64 0, .int .i64 0]] (wa17.alloc (.cells #[.int .i64 0, .int .u8 k, .int .i64 0, .int .i64 0] 218)) fun v w'=>y0y ρ (wa17.alloc (.cells #[.int .i64 0, .int .u8 k, .int .i64 0, .int .i64 0] 218)) p (z.goLit k) v w'):=by
    have:=xo6 k HZ.out.1 HZ.out.2.1 (by have:z.count<=40:=s2;omega) (by omega);rw [HC.out] at this;exact this
   rw [HC.out];clear g1 g2 hr s3 so SF h0 R' b1;go_wp2_with fail
   refine HGL.out.mono ?_;rintro v w9 ⟨rfl,g3,g4⟩;have HR2:Hid (MM ρ w9 p (z.goLit k).1∧Fr (fun k=>1<=k∧k<=5) ρ w w9):=⟨g3,HZ.out.2.2.trans g4⟩
   clear g3 g4;obtain ⟨GG,hGG⟩:∃ GG,GG=z.goLit k:=⟨_,rfl⟩
   rw [← hGG] at HR2 HG ⊢;clear hGG HGL;go_wp2_with fail
   go_ret
   unfold y0y;rw [HG.out];exact ⟨rfl,HR2.out⟩
  ·by_cases hk6:k=256
   ·have HC:Hid (litC k=#[.int .i64 1, .int .u8 0, .int .i64 0, .int .i64 0]):=by show litC k=_;unfold litC;rw [if_neg hk,if_pos hk6]
    have HG:Hid (x.c17=z.goLit k):=by show x.c17=_;rw [R'.out];rw [if_neg hk,if_pos hk6];exact (if_neg hk).symm
    have b1:Below wa17.heap.size wa17 (wa17.alloc (.cells #[.int .i64 1, .int .u8 0, .int .i64 0, .int .i64 0] 218)):=(Below.refl _ _).alloc (Nat.le_refl _) _;have HZ:Hid (MM ρ (wa17.alloc (.cells #[.int .i64 1, .int .u8 0, .int .i64 0, .int .i64 0] 218)) p z∧Ok z∧Fr (fun k=>1<=k∧k<=5) ρ w (wa17.alloc (.cells #[.int .i64 1, .int .u8 0, .int .i64 0, .int .i64 0] 218))):=⟨g1.below b1,so,(H17.out.fr.trans g2).trans (Fr.below b1)⟩
    have HGL:Hid (Calls Tryz.prog 148 #[.pointer (some ⟨p,0,none⟩), .agg #[.int .i64 1, .int .u8 0, .int .i64 0, .int .i64 0]] (wa17.alloc (.cells #[.int .i64 1, .int .u8 0, .int .i64 0, .int .i64 0] 218)) fun v w'=>y0y ρ (wa17.alloc (.cells #[.int .i64 1, .int .u8 0, .int .i64 0, .int .i64 0] 218)) p (z.goLit k) v w'):=by
     have:=xo6 k HZ.out.1 HZ.out.2.1 (by have:z.count<=40:=s2;omega) (by omega);rw [HC.out] at this;exact this
    rw [HC.out];clear g1 g2 hr s3 so SF h0 R' b1;go_wp2_with fail
    refine HGL.out.mono ?_;rintro v w9 ⟨rfl,g3,g4⟩;have HR2:Hid (MM ρ w9 p (z.goLit k).1∧Fr (fun k=>1<=k∧k<=5) ρ w w9):=⟨g3,HZ.out.2.2.trans g4⟩
    clear g3 g4;obtain ⟨GG,hGG⟩:∃ GG,GG=z.goLit k:=⟨_,rfl⟩
    rw [← hGG] at HR2 HG ⊢;clear hGG HGL;go_wp2_with fail
    go_ret
    unfold y0y;rw [HG.out];exact ⟨rfl,HR2.out⟩
   ·have HC:Hid (litC k=#[.int .i64 2, .int .u8 0, .int .i64 (Tr.spanLeast 3 (k - 257)), .int .i64 (Tr.spanBits (k - 257))]):=by show litC k=_;unfold litC;rw [if_neg hk,if_neg hk6]
    rw [if_neg hk,if_neg hk6] at R';have sd:=zj7 (j:=k - 257) (by omega);have hza:z.la=x.la:=by have:z=_:=s3;rw [this]
    have hzb:z.lb=x.lb:=by have:z=_:=s3;rw [this]
    have hzq:z.qc=x.qc:=by have:z=_:=s3;rw [this]
    have b1:Below wa17.heap.size wa17 (wa17.alloc (.cells #[.int .i64 2, .int .u8 0, .int .i64 (Tr.spanLeast 3 (k - 257)), .int .i64 (Tr.spanBits (k - 257))] 218)):=(Below.refl _ _).alloc (Nat.le_refl _) _;have HZ:Hid (MM ρ (wa17.alloc (.cells #[.int .i64 2, .int .u8 0, .int .i64 (Tr.spanLeast 3 (k - 257)), .int .i64 (Tr.spanBits (k - 257))] 218)) p z∧Ok z∧Fr (fun k=>1<=k∧k<=5) ρ w (wa17.alloc (.cells #[.int .i64 2, .int .u8 0, .int .i64 (Tr.spanLeast 3 (k - 257)), .int .i64 (Tr.spanBits (k - 257))] 218))):=⟨g1.below b1,so,(H17.out.fr.trans g2).trans (Fr.below b1)⟩
    have a39:=HZ.out.1.cellI.2.2.1;have z39:=HZ.out.1.cellI.2.2.2.1;have a40:=HZ.out.1.cellI.2.2.2.2.1;have z40:=HZ.out.1.cellI.2.2.2.2.2.1;have k7:=HZ.out.1.cell7.1;have z7:=HZ.out.1.cell7.2;have q0:(wa17.alloc (.cells #[.int .i64 2, .int .u8 0, .int .i64 (Tr.spanLeast 3 (k - 257)), .int .i64 (Tr.spanBits (k - 257))] 218)).cell? ⟨wa17.heap.size,0,none⟩=some (.int .i64 2):=by simp
    have q2:(wa17.alloc (.cells #[.int .i64 2, .int .u8 0, .int .i64 (Tr.spanLeast 3 (k - 257)), .int .i64 (Tr.spanBits (k - 257))] 218)).cell? ⟨wa17.heap.size,2,none⟩=some (.int .i64 (Tr.spanLeast 3 (k - 257))):=by simp
    have q3:(wa17.alloc (.cells #[.int .i64 2, .int .u8 0, .int .i64 (Tr.spanLeast 3 (k - 257)), .int .i64 (Tr.spanBits (k - 257))] 218)).cell? ⟨wa17.heap.size,3,none⟩=some (.int .i64 (Tr.spanBits (k - 257))):=by simp
    have HA:=HZ.out.1.span (Tr.spanLeast 3 (k - 257)) (Tr.spanBits (k - 257));have HB:=HA.1.st 18;obtain ⟨y18,hy18⟩:∃ y18:MS,y18={ z with least:=Tr.spanLeast 3 (k - 257),bits:=Tr.spanBits (k - 257),st:=18 }:=⟨_,rfl⟩
    obtain ⟨WW18,hW⟩:∃ W,W=(((wa17.alloc (.cells #[.int .i64 2, .int .u8 0, .int .i64 (Tr.spanLeast 3 (k - 257)), .int .i64 (Tr.spanBits (k - 257))] 218)).setCell ⟨p,39,none⟩ (.int .i64 (Tr.spanLeast 3 (k - 257)))).setCell ⟨p,40,none⟩ (.int .i64 (Tr.spanBits (k - 257)))).setCell ⟨p,7,none⟩ (.int .i64 18):=⟨_,rfl⟩
    have H18:Hid (Cw ρ w p y18 WW18):=by
     show Cw ρ w p y18 WW18;rw [hW,hy18];exact ⟨HB.1,{ HZ.out.2.1 with },s2,by show z.la≠[];rw [hza];exact H17.out.ne,by show z.lb.length<=16;rw [hzb];exact H17.out.lb,(HZ.out.2.2.trans HA.2).trans HB.2⟩
    have B18:y18.bits<=16∧y18.least<=1000000∧y18.least+2^y18.bits<=65535:=by
     rw [hy18];show Tr.spanBits (k - 257)<=16∧Tr.spanLeast 3 (k - 257)<=1000000∧Tr.spanLeast 3 (k - 257)+2^Tr.spanBits (k - 257)<=65535;have:=Nat.two_pow_pos (Tr.spanBits (k - 257));omega
    have Q18:∀ b∈y18.qc,b<256:=by rw [hy18];show ∀ b∈z.qc,b<256;rw [hzq];exact Q17
    have R18:Hid (x.c17=MS.c18 y18):=by show x.c17=_;rw [hy18];exact R'.out
    have HW18:Hid (WW18=(((wa17.alloc (.cells #[.int .i64 2, .int .u8 0, .int .i64 (Tr.spanLeast 3 (k - 257)), .int .i64 (Tr.spanBits (k - 257))] 218)).setCell ⟨p,39,none⟩ (.int .i64 (Tr.spanLeast 3 (k - 257)))).setCell ⟨p,40,none⟩ (.int .i64 (Tr.spanBits (k - 257)))).setCell ⟨p,7,none⟩ (.int .i64 18)):=hW;rw [HC.out];have hv3:Tr.spanLeast 3 (k - 257)=y18.least:=by rw [hy18]
    have hv4:Tr.spanBits (k - 257)=y18.bits:=by rw [hy18]
    rw [hv3,hv4] at HW18 a39 z39 a40 z40 k7 z7 q0 q2 q3 ⊢;clear g1 g2 hr s3 so SF h0 hza hzb hzq HA HB hy18 hW b1 sd R' hk hk6 HZ HC s1 hk269 hv3 hv4;go_wp2_with fail
    rw [← HW18.out];clear a39 z39 a40 z40 k7 z7 q0 q2 q3 HW18;have hbl:=B18;refine (xh4 y18.least y18.bits H18.out.mm H18.out.ok H18.out.cnt hbl.1 hbl.2.1).mono ?_;rintro v wa18 ⟨rfl,g1,g2⟩;have SF:=MS.spanR_facts (least:=y18.least) H18.out.ok H18.out.cnt hbl.1;have R':Hid (x.c17=if (y18.spanR y18.least y18.bits).2.1=0 then MS.c19 { (y18.spanR y18.least y18.bits).1 with left:=(y18.spanR y18.least y18.bits).2.2,st:=19 } else ((y18.spanR y18.least y18.bits).1,(y18.spanR y18.least y18.bits).2.1)):=R18.out;clear R18;by_cases h0:(y18.spanR y18.least y18.bits).2.1=0
    ·rw [if_pos h0] at R';obtain ⟨s1,s2,s3,s4⟩:=SF.2 h0;have so:=SF.1;have hD:(y18.spanR y18.least y18.bits).2.2<=65535:=by have:=hbl.2.2;omega
     obtain ⟨z,t,D,hr⟩:∃ z t D,y18.spanR y18.least y18.bits=(z,t,D):=⟨_,_,_,rfl⟩
     rw [hr] at g1 R' s1 s4 so hD h0 ⊢;have h0':t=0:=h0;subst h0';have hza:z.la=y18.la:=by have:z=_:=s4;rw [this]
     have hzb:z.lb=y18.lb:=by have:z=_:=s4;rw [this]
     have hzq:z.qc=y18.qc:=by have:z=_:=s4;rw [this]
     have HZ:Hid (MM ρ wa18 p z∧Ok z∧Fr (fun k=>1<=k∧k<=5) ρ w wa18):=⟨g1,so,H18.out.fr.trans g2⟩
     have a25:=g1.cell25.1;have z25:=g1.cell25.2;have k7:=g1.cell7.1;have z7:=g1.cell7.2;have HA:=g1.left D;have HB:=HA.1.st 19;obtain ⟨y19,hy19⟩:∃ y19:MS,y19={ z with left:=D,st:=19 }:=⟨_,rfl⟩
     obtain ⟨WW19,hW⟩:∃ W,W=(wa18.setCell ⟨p,25,none⟩ (.int .i64 D)).setCell ⟨p,7,none⟩ (.int .i64 19):=⟨_,rfl⟩
     have H19:Hid (Cw ρ w p y19 WW19):=by
      show Cw ρ w p y19 WW19;rw [hW,hy19];exact ⟨HB.1,{ HZ.out.2.1 with },s1,by show z.la≠[];rw [hza];exact H18.out.ne,by show z.lb.length<=16;rw [hzb];exact H18.out.lb,(HZ.out.2.2.trans HA.2).trans HB.2⟩
     have Q19:∀ b∈y19.qc,b<256:=by rw [hy19];show ∀ b∈z.qc,b<256;rw [hzq];exact Q18
     have L19:y19.left<=65535:=by rw [hy19];exact hD
     have R19:Hid (x.c17=MS.c19 y19):=by show x.c17=_;rw [hy19];exact R'.out
     have HW19:Hid (WW19=(wa18.setCell ⟨p,25,none⟩ (.int .i64 D)).setCell ⟨p,7,none⟩ (.int .i64 19)):=hW;obtain ⟨gs,tl,td,c37,cg0,cg1,TL,TD,hgp⟩:=g1.sets (by rw [hza];exact H18.out.ne);have TDr:inRange y19.lb=true:=by rw [hy19];exact TD.rng
     have HTD:Hid (TabS ρ WW19 271 2 (fun i=>(vtb 1 i).toList) td y19.lb):=by
      show TabS _ _ _ _ _ _ _;rw [hW,hy19];exact TD.fr (HA.2.trans HB.2).kp (by decide)
     clear g1 g2 hr s4 so SF h0 hza hzb hzq HA HB hy19 hW s1 s2 s3 R' TL TD;go_wp2_with fail
     rw [← HW19.out];clear HZ a25 z25 k7 z7 HW19 hD;refine (kdd H19.out.mm H19.out.ok H19.out.cnt HTD.out).mono ?_;rintro v wa19 ⟨rfl,g1,g2⟩;have SF:=MS.sym_facts TDr H19.out.ok H19.out.cnt;have R':Hid (x.c17=if (y19.sym y19.lb).2.1=0 then MS.c20 { (y19.sym y19.lb).1 with least:=Tr.spanLeast 1 (y19.sym y19.lb).2.2,bits:=Tr.spanBits (y19.sym y19.lb).2.2,st:=20 } else ((y19.sym y19.lb).1,(y19.sym y19.lb).2.1)):=R19.out;clear R19;by_cases h0:(y19.sym y19.lb).2.1=0
     ·rw [if_pos h0] at R';rw [if_pos h0];obtain ⟨s1,s2,s3⟩:=SF.2 h0;have so:=SF.1;have hlb:=H19.out.lb;have sd:=k8m (k:=(y19.sym y19.lb).2.2) (by omega);obtain ⟨z,t,k,hr⟩:∃ z t k,y19.sym y19.lb=(z,t,k):=⟨_,_,_,rfl⟩
      rw [hr] at g1 R' s2 s3 so sd h0 ⊢;have h0':t=0:=h0;subst h0';have hza:z.la=y19.la:=by have:z=_:=s3;rw [this]
      have hzb:z.lb=y19.lb:=by have:z=_:=s3;rw [this]
      have hzl:z.left=y19.left:=by have:z=_:=s3;rw [this]
      have hzq:z.qc=y19.qc:=by have:z=_:=s3;rw [this]
      have b1:Below wa19.heap.size wa19 (wa19.alloc (.cells #[.int .i64 (Tr.spanLeast 1 k), .int .i64 (Tr.spanBits k)] 125)):=(Below.refl _ _).alloc (Nat.le_refl _) _;have HZ:Hid (MM ρ (wa19.alloc (.cells #[.int .i64 (Tr.spanLeast 1 k), .int .i64 (Tr.spanBits k)] 125)) p z∧Ok z∧Fr (fun k=>1<=k∧k<=5) ρ w (wa19.alloc (.cells #[.int .i64 (Tr.spanLeast 1 k), .int .i64 (Tr.spanBits k)] 125))):=⟨g1.below b1,so,(H19.out.fr.trans g2).trans (Fr.below b1)⟩
      have a39:=HZ.out.1.cellI.2.2.1;have z39:=HZ.out.1.cellI.2.2.2.1;have a40:=HZ.out.1.cellI.2.2.2.2.1;have z40:=HZ.out.1.cellI.2.2.2.2.2.1;have k7:=HZ.out.1.cell7.1;have z7:=HZ.out.1.cell7.2;have q0:(wa19.alloc (.cells #[.int .i64 (Tr.spanLeast 1 k), .int .i64 (Tr.spanBits k)] 125)).cell? ⟨wa19.heap.size,0,none⟩=some (.int .i64 (Tr.spanLeast 1 k)):=by simp
      have q1:(wa19.alloc (.cells #[.int .i64 (Tr.spanLeast 1 k), .int .i64 (Tr.spanBits k)] 125)).cell? ⟨wa19.heap.size,1,none⟩=some (.int .i64 (Tr.spanBits k)):=by simp
      have HA:=HZ.out.1.span (Tr.spanLeast 1 k) (Tr.spanBits k);have HB:=HA.1.st 20;obtain ⟨y20,hy20⟩:∃ y20:MS,y20={ z with least:=Tr.spanLeast 1 k,bits:=Tr.spanBits k,st:=20 }:=⟨_,rfl⟩
      obtain ⟨WW20,hW⟩:∃ W,W=(((wa19.alloc (.cells #[.int .i64 (Tr.spanLeast 1 k), .int .i64 (Tr.spanBits k)] 125)).setCell ⟨p,39,none⟩ (.int .i64 (Tr.spanLeast 1 k))).setCell ⟨p,40,none⟩ (.int .i64 (Tr.spanBits k))).setCell ⟨p,7,none⟩ (.int .i64 20):=⟨_,rfl⟩
      have H20:Hid (Cw ρ w p y20 WW20):=by
       show Cw ρ w p y20 WW20;rw [hW,hy20];exact ⟨HB.1,{ HZ.out.2.1 with },s2,by show z.la≠[];rw [hza];exact H19.out.ne,by show z.lb.length<=16;rw [hzb];exact H19.out.lb,(HZ.out.2.2.trans HA.2).trans HB.2⟩
      have B20:y20.bits<=16∧y20.least<=1000000∧1<=y20.least:=by rw [hy20];exact sd
      have Q20:∀ b∈y20.qc,b<256:=by rw [hy20];show ∀ b∈z.qc,b<256;rw [hzq];exact Q19
      have L20:y20.left<=65535:=by rw [hy20];show z.left<=65535;rw [hzl];exact L19
      have R20:Hid (x.c17=MS.c20 y20):=by show x.c17=_;rw [hy20];exact R'.out
      have HW20:Hid (WW20=(((wa19.alloc (.cells #[.int .i64 (Tr.spanLeast 1 k), .int .i64 (Tr.spanBits k)] 125)).setCell ⟨p,39,none⟩ (.int .i64 (Tr.spanLeast 1 k))).setCell ⟨p,40,none⟩ (.int .i64 (Tr.spanBits k))).setCell ⟨p,7,none⟩ (.int .i64 20)):=hW;have hE3:Tr.spanLeast 1 k=y20.least:=by rw [hy20]
      have hE4:Tr.spanBits k=y20.bits:=by rw [hy20]
      unfold vtb;clear g1 g2 hr s3 so SF h0 hza hzb hzl hzq HA HB hy20 hW b1 sd R' HZ;rw [hE3,hE4] at HW20 a39 z39 a40 z40 k7 z7 q0 q1 ⊢;clear hE3 hE4;go_wp2_with fail
      rw [← HW20.out];clear a39 z39 a40 z40 k7 z7 q0 q1 HW20;have hbl:=B20;refine (xh4 y20.least y20.bits H20.out.mm H20.out.ok H20.out.cnt hbl.1 hbl.2.1).mono ?_;rintro v wa20 ⟨rfl,g1,g2⟩;have SF:=MS.spanR_facts (least:=y20.least) H20.out.ok H20.out.cnt hbl.1;have R':Hid (x.c17=if (y20.spanR y20.least y20.bits).2.1=0 then (if (y20.spanR y20.least y20.bits).1.qc.length<(y20.spanR y20.least y20.bits).2.2 then (y20.spanR y20.least y20.bits).1.refuse 11 else MS.c21 { (y20.spanR y20.least y20.bits).1 with dist:=(y20.spanR y20.least y20.bits).2.2,st:=21 }) else ((y20.spanR y20.least y20.bits).1,(y20.spanR y20.least y20.bits).2.1)):=R20.out;clear R20;by_cases h0:(y20.spanR y20.least y20.bits).2.1=0
      ·rw [if_pos h0] at R';obtain ⟨s1,s2,s3,s4⟩:=SF.2 h0;have so:=SF.1;have hD:(y20.spanR y20.least y20.bits).2.2<=2000000∧1<=(y20.spanR y20.least y20.bits).2.2:=by
        have:2^y20.bits<=2^16:=Nat.pow_le_pow_right (by decide) hbl.1;have e:2^16=65536:=by decide
        have:=hbl.2.2;omega
       obtain ⟨z,t,D,hr⟩:∃ z t D,y20.spanR y20.least y20.bits=(z,t,D):=⟨_,_,_,rfl⟩
       rw [hr] at g1 R' s1 s4 so hD h0 ⊢;have h0':t=0:=h0;subst h0';have hzl:z.left=y20.left:=by have:z=_:=s4;rw [this]
       have hzq:z.qc=y20.qc:=by have:z=_:=s4;rw [this]
       have HZ:Hid (MM ρ wa20 p z∧Ok z∧Fr (fun k=>1<=k∧k<=5) ρ w wa20):=⟨g1,so,H20.out.fr.trans g2⟩
       obtain ⟨cw,c17,HLEN0,_,_⟩:=g1.win;have HLEN:Hid (Calls Tryz.prog 57 #[.pointer (some ⟨cw,0,none⟩)] wa20 fun v w'=>v= .returned (.int .i64 z.qc.length)∧wa20=w'):=HLEN0;have c41:=g1.cellI.2.2.2.2.2.2.1;have z41:=g1.cellI.2.2.2.2.2.2.2;have hq256:z.qc.length<=256:=by obtain ⟨L,B,T⟩:=g1;exact B.rc'
       have HQB:Hid (∀ b∈z.qc,b<256):=by show ∀ b∈z.qc,b<256;rw [hzq];exact Q20
       have hleft:z.left<=65535:=by rw [hzl];exact L20
       clear g1 g2 hr s4 so SF HLEN0 h0 s1 s2 s3 hzl hzq;go_wp2_with fail
       refine HLEN.out.mono ?_;rintro v w' ⟨rfl,rfl⟩;obtain ⟨N,hN⟩:∃ N,N=z.qc.length:=⟨_,rfl⟩
       rw [← hN] at hq256 R' ⊢;have HN:Hid (N=z.qc.length):=hN;clear hN;by_cases hd:N<D
       ·rw [if_pos hd] at R';have hdi:(N:Int)<D:=by omega
        go_wp2_with fail
        refine (kv8 11 HZ.out.1).mono ?_;rintro v w4 ⟨rfl,g3,g4⟩;have HR2:Hid (MM ρ w4 p (z.refuse 11).1∧Fr (fun k=>1<=k∧k<=5) ρ w w4):=⟨g3,HZ.out.2.2.trans g4⟩
        clear g3 g4;go_wp2_with fail
        go_ret
        unfold y0y;rw [R'.out];exact ⟨rfl,HR2.out⟩
       ·rw [if_neg hd] at R';have hdi:¬ (N:Int)<D:=by omega
        have H1:=HZ.out.1.dist D;have H2:=H1.1.st 21;have k7:=HZ.out.1.cell7.1;have z7:=HZ.out.1.cell7.2;obtain ⟨R,hR⟩:∃ R,R=MS.c21 { z with dist:=D,st:=21 }:=⟨_,rfl⟩
        have H0:Hid (∃ y,Kw ρ w p y R ((wa20.setCell ⟨p,41,none⟩ (.int .i64 D)).setCell ⟨p,7,none⟩ (.int .i64 21))):=⟨{ z with dist:=D,st:=21 },H2.1,{ HZ.out.2.1 with },hR.symm,hleft,hD.2,by show D<=z.qc.length;rw [← HN.out];omega,HQB.out,(HZ.out.2.2.trans H1.2).trans H2.2⟩
        have HF:Hid (x.c17=R):=by show x.c17=R;rw [hR];exact R'.out
        clear H1 H2 hR R' HZ hd HLEN;go_wp2_with fail
        clear hdi;generalize decide (N<D)=dd;go_loopw [] (fun wr=>Hid (∃ y,Kw ρ w p y R wr)) (fun wr=>xq0 wr p 25)
        case atStart=>exact H0
        case round=>
         clear H0;obtain ⟨y,Y⟩:=hrel.out;have c25:=Y.mm.cell25.1;have e25:=xv1 c25;have hl:=Y.left;have HY:Hid (Kw ρ w p y R wr):=Y;by_cases hz:y.left=0
         ·have HZ:Hid (R=({ y with st:=17 },0)):=by show R=_;rw [← HY.out.eq,MS.copy_zero hz]
          rw [hz] at c25;have k7:=Y.mm.cell7.1;have z7:=Y.mm.cell7.2;have H17:Hid (MM ρ (wr.setCell ⟨p,7,none⟩ (.int .i64 17)) p { y with st:=17 }∧Fr (fun k=>1<=k∧k<=5) ρ wr (wr.setCell ⟨p,7,none⟩ (.int .i64 17))):=Y.mm.st 17;clear hz Y hrel;go_wp2_with fail
          go_ret
          unfold y0y;rw [HF.out,HZ.out];exact ⟨rfl,H17.out.1,HY.out.fr.trans H17.out.2⟩
         ·obtain ⟨n,hn⟩:∃ n,y.left=n+1:=⟨y.left - 1,by omega⟩
          have HS:Hid (R=if (y.put (y.qc.getD (y.qc.length - y.dist) 0)).2=0 then MS.copyL n { (y.put (y.qc.getD (y.qc.length - y.dist) 0)).1 with left:=n } else y.put (y.qc.getD (y.qc.length - y.dist) 0)):=by show R=_;rw [← HY.out.eq,MS.copy_succ hn]
          have hpos:(0:Int)<y.left:=by omega
          have hb:y.qc.getD (y.qc.length - y.dist) 0<256:=getD_lt Y.qb _;obtain ⟨cw,c17,_,HBK0,_⟩:=Y.mm.win;have HBK:Hid (∀ n,Calls Tryz.prog 150 #[.pointer (some ⟨cw,0,none⟩), .int .i64 y.dist] (wr.drewN n) fun v w'=>v= .returned (.int .u8 (y.qc.getD (y.qc.length - y.dist) 0:Nat))∧∃ m,w'=(wr.drewN n).drewN m):=fun n=>HBK0 n y.dist Y.d1 Y.d2
          have c41:=Y.mm.cellI.2.2.2.2.2.2.1;obtain ⟨b,hbE⟩:∃ b,b=y.qc.getD (y.qc.length - y.dist) 0:=⟨_,rfl⟩
          rw [← hbE] at HS hb HBK;clear hbE HBK0;have HPF:=MS.put_facts Y.ok b;have hq256:y.qc.length<=256:=by obtain ⟨L,B,T⟩:=Y.mm;exact B.rc'
          obtain ⟨P,hP⟩:∃ P,P=y.put b:=⟨_,rfl⟩
          have HPT:Hid (∀ wq,MM ρ wq p y->Calls Tryz.prog 137 #[.pointer (some ⟨p,0,none⟩), .int .u8 b] wq fun v w'=>y0y ρ wq p P v w'):=fun wq m=>by rw [hP];exact mPut b m HY.out.ok hb
          rw [← hP] at HS HPF;have HPF':Hid (Ok P.1∧(P.2=0->P.1=y.putted b)):=HPF;clear hP HPF hz Y hrel;by_cases h1:P.2=0
          ·have hPe:=HPF'.out.2 h1;rw [if_pos h1] at HS;have hPl:P.1.left=n+1:=by rw [hPe];exact hn
           have HPD:Hid (1<=P.1.dist∧P.1.dist<=P.1.qc.length∧∀ b∈P.1.qc,b<256):=by
            show _∧_∧_;rw [hPe];refine ⟨HY.out.d1,?_,vso HY.out.qb hb⟩;have:=xsr y.qc b hq256;have h3:=HY.out.d2;show y.dist<=(MS.pushed y.qc b).length;omega
           obtain ⟨Q,t,hQ⟩:∃ Q t,P=(Q,t):=⟨_,_,rfl⟩
           rw [hQ] at HS HPF' HPT hPl HPD h1;clear hQ hPe;have h1':t=0:=h1;subst h1';clear h1;go_wp2_with fail
           go_region_with (first
            | (go_at_call 150;refine (HBK.out 1).mono ?_;rintro e w2 ⟨rfl,m2,hw2⟩;have H2:Hid (MM ρ w2 p y∧Fr (fun k=>1<=k∧k<=5) ρ w w2):=by { show _∧_;rw [hw2];exact ⟨(HY.out.mm.drewN 1).drewN m2,(HY.out.fr.drewN 1).drewN m2⟩ };clear hw2)
            | (go_at_call 137;refine (HPT.out _ H2.out.1).mono ?_;rintro e w3 ⟨rfl,g1,g2⟩;have H3:Hid (MM ρ w3 p Q∧Fr (fun k=>1<=k∧k<=5) ρ w w3):=⟨g1,H2.out.2.trans g2⟩;clear g1 g2))
           all_goals
            have d25:w3.cell? ⟨p,25,none⟩=some (.int .i64 (n+1:Nat)):=by rw [← hPl];exact H3.out.1.cell25.1
            have z25:=H3.out.1.cell25.2;have HL:=H3.out.1.left n;have HN:Hid (∃ y,Kw ρ w p y R (w3.setCell ⟨p,25,none⟩ (.int .i64 n))):=⟨{ Q with left:=n },HL.1,{ HPF'.out.1 with },HS.out.symm,by show n<=65535;omega,HPD.out.1,HPD.out.2.1,HPD.out.2.2,H3.out.2.trans HL.2⟩
            have eN:xq0 (w3.setCell ⟨p,25,none⟩ (.int .i64 n)) p 25=n:=xv1 HL.1.cell25.1;have hn1:((n+1:Nat):Int) - 1=(n:Int):=by omega
            clear HL;go_wp2_with fail
            go_roundw
            case rel=>exact HN
            case measure=>rw [e25,eN];omega
          ·rw [if_neg h1] at HS;obtain ⟨Q,t,hQ⟩:∃ Q t,P=(Q,t):=⟨_,_,rfl⟩
           rw [hQ] at HS HPF' HPT h1;clear hQ;have h1':¬ t=0:=h1;have h0':((t:Int)==0)=false:=by simp;exact h1'
           clear h1;go_wp2_with fail
           go_region_with (first
            | (go_at_call 150;refine (HBK.out 1).mono ?_;rintro e w2 ⟨rfl,m2,hw2⟩;have H2:Hid (MM ρ w2 p y∧Fr (fun k=>1<=k∧k<=5) ρ w w2):=by { show _∧_;rw [hw2];exact ⟨(HY.out.mm.drewN 1).drewN m2,(HY.out.fr.drewN 1).drewN m2⟩ };clear hw2)
            | (go_at_call 137;refine (HPT.out _ H2.out.1).mono ?_;rintro e w3 ⟨rfl,g1,g2⟩;have H3:Hid (MM ρ w3 p Q∧Fr (fun k=>1<=k∧k<=5) ρ w w3):=⟨g1,H2.out.2.trans g2⟩;clear g1 g2))
           all_goals
            go_wp2_with fail
            go_ret
            unfold y0y;rw [HF.out,HS.out];exact ⟨rfl,H3.out⟩
      ·rw [if_neg h0] at R';obtain ⟨e,he⟩:∃ e,e=(y20.spanR y20.least y20.bits).2.1:=⟨_,rfl⟩
       have HR:Hid (MM ρ wa20 p (y20.spanR y20.least y20.bits).1∧Fr (fun k=>1<=k∧k<=5) ρ w wa20∧(y20.spanR y20.least y20.bits).2.1=e):=⟨g1,H20.out.fr.trans g2,he.symm⟩
       rw [← he] at h0 ⊢;have h0':((e:Int)==0)=false:=by simp;exact h0
       clear g1 g2 he;go_wp2_with fail
       go_ret
       unfold y0y;rw [R'.out,HR.out.2.2];exact ⟨rfl,HR.out.1,HR.out.2.1⟩
     ·rw [if_neg h0] at R';rw [if_neg h0];obtain ⟨e,he⟩:∃ e,e=(y19.sym y19.lb).2.1:=⟨_,rfl⟩
      have b1:Below wa19.heap.size wa19 (wa19.alloc (.cells #[.int .i64 0, .int .i64 0] 125)):=(Below.refl _ _).alloc (Nat.le_refl _) _;have HR:Hid (MM ρ (wa19.alloc (.cells #[.int .i64 0, .int .i64 0] 125)) p (y19.sym y19.lb).1∧Fr (fun k=>1<=k∧k<=5) ρ w (wa19.alloc (.cells #[.int .i64 0, .int .i64 0] 125))∧(y19.sym y19.lb).2.1=e):=⟨g1.below b1,(H19.out.fr.trans g2).trans (Fr.below b1),he.symm⟩
      rw [← he] at h0 ⊢;have h0':((e:Int)==0)=false:=by simp;exact h0
      clear g1 g2 he b1;go_wp2_with fail
      go_ret
      unfold y0y;rw [R'.out,HR.out.2.2];exact ⟨rfl,HR.out.1,HR.out.2.1⟩
    ·rw [if_neg h0] at R';obtain ⟨e,he⟩:∃ e,e=(y18.spanR y18.least y18.bits).2.1:=⟨_,rfl⟩
     have HR:Hid (MM ρ wa18 p (y18.spanR y18.least y18.bits).1∧Fr (fun k=>1<=k∧k<=5) ρ w wa18∧(y18.spanR y18.least y18.bits).2.1=e):=⟨g1,H18.out.fr.trans g2,he.symm⟩
     rw [← he] at h0 ⊢;have h0':((e:Int)==0)=false:=by simp;exact h0
     clear g1 g2 he;go_wp2_with fail
     go_ret
     unfold y0y;rw [R'.out,HR.out.2.2];exact ⟨rfl,HR.out.1,HR.out.2.1⟩
 ·rw [if_neg h0] at R';rw [if_neg h0];obtain ⟨e,he⟩:∃ e,e=(x.sym x.la).2.1:=⟨_,rfl⟩
  have b1:Below wa17.heap.size wa17 (wa17.alloc (.cells #[.int .i64 0, .int .u8 0, .int .i64 0, .int .i64 0] 218)):=(Below.refl _ _).alloc (Nat.le_refl _) _;have HR:Hid (MM ρ (wa17.alloc (.cells #[.int .i64 0, .int .u8 0, .int .i64 0, .int .i64 0] 218)) p (x.sym x.la).1∧Fr (fun k=>1<=k∧k<=5) ρ w (wa17.alloc (.cells #[.int .i64 0, .int .u8 0, .int .i64 0, .int .i64 0] 218))∧(x.sym x.la).2.1=e):=⟨g1.below b1,(H17.out.fr.trans g2).trans (Fr.below b1),he.symm⟩
  rw [← he] at h0 ⊢;have h0':((e:Int)==0)=false:=by simp;exact h0
  clear g1 g2 he b1;go_wp2_with fail
  go_ret
  unfold y0y;rw [R'.out,HR.out.2.2];exact ⟨rfl,HR.out.1,HR.out.2.1⟩
theorem xoi{ρ:Nat->Nat}{w:World}{p:Nat}{x:MS}(h:MM ρ w p x)(ok:Ok x)(hc:x.count<=40)(hne:x.la≠[])(hlb:x.lb.length<=16)(hqc:∀ b∈x.qc,b<256)(hla:x.la.length<=269)(hlit:x.lit<256)(hst:x.st=16) :
  Calls Tryz.prog 106 #[.pointer (some ⟨p,0,none⟩)] w fun v w'=>y0y ρ w p x.c16 v w':=by
 have H16:Hid (Cw ρ w p x w):=⟨h,ok,hc,hne,hlb,Fr.refl _ _ _⟩
 have Q16:=hqc;have c38:=h.cellI.1;have A16:=hla;have L16:=hlit;have R16:Hid (x.c16=MS.andThen (x.put x.lit) fun y=>MS.c17 { y with st:=17 }):=rfl;have c7:=h.cell7.1;rw [hst] at c7;clear h ok hst hc hne hlb hqc;go_enter Tryz.func106,Tryz.ntmps106
 go_wp2_with fail
 refine (mPut x.lit H16.out.mm H16.out.ok L16).mono ?_;rintro v wa16 ⟨rfl,g1,g2⟩;have PF:=MS.put_facts H16.out.ok x.lit;have hq256:x.qc.length<=256:=by obtain ⟨L,B,T⟩:=H16.out.mm;exact B.rc'
 have R':Hid (x.c16=if (x.put x.lit).2=0 then MS.c17 { (x.put x.lit).1 with st:=17 } else x.put x.lit):=R16.out;clear R16;by_cases h0:(x.put x.lit).2=0
 ·rw [if_pos h0] at R';have hPe:=PF.2 h0;have so:=PF.1;rw [h0];obtain ⟨z,hz⟩:∃ z,z=(x.put x.lit).1:=⟨_,rfl⟩
  rw [← hz] at g1 R' hPe so;have hza:z.la=x.la:=by rw [hPe];rfl
  have hzb:z.lb=x.lb:=by rw [hPe];rfl
  have hzc:z.count=x.count:=by rw [hPe];rfl
  have hzq:z.qc=MS.pushed x.qc x.lit:=by rw [hPe];rfl
  have k7:=g1.cell7.1;have z7:=g1.cell7.2;have HB:=g1.st 17;obtain ⟨y17,hy17⟩:∃ y17:MS,y17={ z with st:=17 }:=⟨_,rfl⟩
  obtain ⟨WW17,hW⟩:∃ W,W=wa16.setCell ⟨p,7,none⟩ (.int .i64 17):=⟨_,rfl⟩
  have H17:Hid (Cw ρ w p y17 WW17):=by
   show Cw ρ w p y17 WW17;rw [hW,hy17];exact ⟨HB.1,so.st 17,by show z.count<=40;rw [hzc];exact H16.out.cnt,by show z.la≠[];rw [hza];exact H16.out.ne,by show z.lb.length<=16;rw [hzb];exact H16.out.lb,(H16.out.fr.trans g2).trans HB.2⟩
  have Q17:∀ b∈y17.qc,b<256:=by rw [hy17];show ∀ b∈z.qc,b<256;rw [hzq];exact vso Q16 L16
  have A17:y17.la.length<=269:=by rw [hy17];show z.la.length<=269;rw [hza];exact A16
  have R17:Hid (x.c16=MS.c17 y17):=by show x.c16=_;rw [hy17];exact R'.out
  have HW17:Hid (WW17=wa16.setCell ⟨p,7,none⟩ (.int .i64 17)):=hW;obtain ⟨gs,tl,td,c37,cg0,cg1,TL,TD,hgp⟩:=g1.sets (by rw [hza];exact H16.out.ne);have TLr:inRange y17.la=true:=by rw [hy17];exact TL.rng
  have HTL:Hid (TabS ρ WW17 268 4 (fun i=>(litC i).toList) tl y17.la):=by
   show TabS _ _ _ _ _ _ _;rw [hW,hy17];exact TL.fr HB.2.kp (by decide)
  clear g1 g2 hz hPe so PF h0 hza hzb hzc hzq HB hy17 hW R' TL TD;go_wp2_with fail
  rw [← HW17.out];clear k7 z7 HW17;refine (z4b H17.out.mm H17.out.ok H17.out.cnt HTL.out).mono ?_;rintro v wa17 ⟨rfl,g1,g2⟩;have SF:=MS.sym_facts TLr H17.out.ok H17.out.cnt;have R':Hid (x.c16=if (y17.sym y17.la).2.1=0 then (if (y17.sym y17.la).2.2<256 then ({ (y17.sym y17.la).1 with lit:=(y17.sym y17.la).2.2,st:=16 },0) else if (y17.sym y17.la).2.2=256 then (y17.sym y17.la).1.endBlock else MS.c18 { (y17.sym y17.la).1 with least:=Tr.spanLeast 3 ((y17.sym y17.la).2.2 - 257),bits:=Tr.spanBits ((y17.sym y17.la).2.2 - 257),st:=18 }) else ((y17.sym y17.la).1,(y17.sym y17.la).2.1)):=R17.out;clear R17;by_cases h0:(y17.sym y17.la).2.1=0
  ·rw [if_pos h0] at R';rw [if_pos h0];obtain ⟨s1,s2,s3⟩:=SF.2 h0;have so:=SF.1;have hla:=A17;obtain ⟨z,t,k,hr⟩:∃ z t k,y17.sym y17.la=(z,t,k):=⟨_,_,_,rfl⟩
   rw [hr] at g1 R' s1 s2 s3 so h0 ⊢;have hk269:k<269:=by have:k<y17.la.length:=s1;omega
   have h0':t=0:=h0;subst h0';by_cases hk:k<256
   ·have HC:Hid (litC k=#[.int .i64 0, .int .u8 k, .int .i64 0, .int .i64 0]):=by show litC k=_;unfold litC;rw [if_pos hk]
    have HG:Hid (x.c16=z.goLit k):=by show x.c16=_;rw [R'.out];rw [if_pos hk];exact (if_pos hk).symm
    have b1:Below wa17.heap.size wa17 (wa17.alloc (.cells #[.int .i64 0, .int .u8 k, .int .i64 0, .int .i64 0] 218)):=(Below.refl _ _).alloc (Nat.le_refl _) _;have HZ:Hid (MM ρ (wa17.alloc (.cells #[.int .i64 0, .int .u8 k, .int .i64 0, .int .i64 0] 218)) p z∧Ok z∧Fr (fun k=>1<=k∧k<=5) ρ w (wa17.alloc (.cells #[.int .i64 0, .int .u8 k, .int .i64 0, .int .i64 0] 218))):=⟨g1.below b1,so,(H17.out.fr.trans g2).trans (Fr.below b1)⟩
    have HGL:Hid (Calls Tryz.prog 148 #[.pointer (some ⟨p,0,none⟩), .agg #[.int .i64 0, .int .u8 k, .int .i64 0, .int .i64 0]] (wa17.alloc (.cells #[.int .i64 0, .int .u8 k, .int .i64 0, .int .i64 0] 218)) fun v w'=>y0y ρ (wa17.alloc (.cells #[.int .i64 0, .int .u8 k, .int .i64 0, .int .i64 0] 218)) p (z.goLit k) v w'):=by
     have:=xo6 k HZ.out.1 HZ.out.2.1 (by have:z.count<=40:=s2;omega) (by omega);rw [HC.out] at this;exact this
    rw [HC.out];clear g1 g2 hr s3 so SF h0 R' b1;go_wp2_with fail
    refine HGL.out.mono ?_;rintro v w9 ⟨rfl,g3,g4⟩;have HR2:Hid (MM ρ w9 p (z.goLit k).1∧Fr (fun k=>1<=k∧k<=5) ρ w w9):=⟨g3,HZ.out.2.2.trans g4⟩
    clear g3 g4;obtain ⟨GG,hGG⟩:∃ GG,GG=z.goLit k:=⟨_,rfl⟩
    rw [← hGG] at HR2 HG ⊢;clear hGG HGL;go_wp2_with fail
    go_ret
    unfold y0y;rw [HG.out];exact ⟨rfl,HR2.out⟩
   ·by_cases hk6:k=256
    ·have HC:Hid (litC k=#[.int .i64 1, .int .u8 0, .int .i64 0, .int .i64 0]):=by show litC k=_;unfold litC;rw [if_neg hk,if_pos hk6]
     have HG:Hid (x.c16=z.goLit k):=by show x.c16=_;rw [R'.out];rw [if_neg hk,if_pos hk6];exact (if_neg hk).symm
     have b1:Below wa17.heap.size wa17 (wa17.alloc (.cells #[.int .i64 1, .int .u8 0, .int .i64 0, .int .i64 0] 218)):=(Below.refl _ _).alloc (Nat.le_refl _) _;have HZ:Hid (MM ρ (wa17.alloc (.cells #[.int .i64 1, .int .u8 0, .int .i64 0, .int .i64 0] 218)) p z∧Ok z∧Fr (fun k=>1<=k∧k<=5) ρ w (wa17.alloc (.cells #[.int .i64 1, .int .u8 0, .int .i64 0, .int .i64 0] 218))):=⟨g1.below b1,so,(H17.out.fr.trans g2).trans (Fr.below b1)⟩
     have HGL:Hid (Calls Tryz.prog 148 #[.pointer (some ⟨p,0,none⟩), .agg #[.int .i64 1, .int .u8 0, .int .i64 0, .int .i64 0]] (wa17.alloc (.cells #[.int .i64 1, .int .u8 0, .int .i64 0, .int .i64 0] 218)) fun v w'=>y0y ρ (wa17.alloc (.cells #[.int .i64 1, .int .u8 0, .int .i64 0, .int .i64 0] 218)) p (z.goLit k) v w'):=by
      have:=xo6 k HZ.out.1 HZ.out.2.1 (by have:z.count<=40:=s2;omega) (by omega);rw [HC.out] at this;exact this
     rw [HC.out];clear g1 g2 hr s3 so SF h0 R' b1;go_wp2_with fail
     refine HGL.out.mono ?_;rintro v w9 ⟨rfl,g3,g4⟩;have HR2:Hid (MM ρ w9 p (z.goLit k).1∧Fr (fun k=>1<=k∧k<=5) ρ w w9):=⟨g3,HZ.out.2.2.trans g4⟩
     clear g3 g4;obtain ⟨GG,hGG⟩:∃ GG,GG=z.goLit k:=⟨_,rfl⟩
     rw [← hGG] at HR2 HG ⊢;clear hGG HGL;go_wp2_with fail
     go_ret
     unfold y0y;rw [HG.out];exact ⟨rfl,HR2.out⟩
    ·have HC:Hid (litC k=#[.int .i64 2, .int .u8 0, .int .i64 (Tr.spanLeast 3 (k - 257)), .int .i64 (Tr.spanBits (k - 257))]):=by show litC k=_;unfold litC;rw [if_neg hk,if_neg hk6]
     rw [if_neg hk,if_neg hk6] at R';have sd:=zj7 (j:=k - 257) (by omega);have hza:z.la=y17.la:=by have:z=_:=s3;rw [this]
     have hzb:z.lb=y17.lb:=by have:z=_:=s3;rw [this]
     have hzq:z.qc=y17.qc:=by have:z=_:=s3;rw [this]
     have b1:Below wa17.heap.size wa17 (wa17.alloc (.cells #[.int .i64 2, .int .u8 0, .int .i64 (Tr.spanLeast 3 (k - 257)), .int .i64 (Tr.spanBits (k - 257))] 218)):=(Below.refl _ _).alloc (Nat.le_refl _) _;have HZ:Hid (MM ρ (wa17.alloc (.cells #[.int .i64 2, .int .u8 0, .int .i64 (Tr.spanLeast 3 (k - 257)), .int .i64 (Tr.spanBits (k - 257))] 218)) p z∧Ok z∧Fr (fun k=>1<=k∧k<=5) ρ w (wa17.alloc (.cells #[.int .i64 2, .int .u8 0, .int .i64 (Tr.spanLeast 3 (k - 257)), .int .i64 (Tr.spanBits (k - 257))] 218))):=⟨g1.below b1,so,(H17.out.fr.trans g2).trans (Fr.below b1)⟩
     have a39:=HZ.out.1.cellI.2.2.1;have z39:=HZ.out.1.cellI.2.2.2.1;have a40:=HZ.out.1.cellI.2.2.2.2.1;have z40:=HZ.out.1.cellI.2.2.2.2.2.1;have k7:=HZ.out.1.cell7.1;have z7:=HZ.out.1.cell7.2;have q0:(wa17.alloc (.cells #[.int .i64 2, .int .u8 0, .int .i64 (Tr.spanLeast 3 (k - 257)), .int .i64 (Tr.spanBits (k - 257))] 218)).cell? ⟨wa17.heap.size,0,none⟩=some (.int .i64 2):=by simp
     have q2:(wa17.alloc (.cells #[.int .i64 2, .int .u8 0, .int .i64 (Tr.spanLeast 3 (k - 257)), .int .i64 (Tr.spanBits (k - 257))] 218)).cell? ⟨wa17.heap.size,2,none⟩=some (.int .i64 (Tr.spanLeast 3 (k - 257))):=by simp
     have q3:(wa17.alloc (.cells #[.int .i64 2, .int .u8 0, .int .i64 (Tr.spanLeast 3 (k - 257)), .int .i64 (Tr.spanBits (k - 257))] 218)).cell? ⟨wa17.heap.size,3,none⟩=some (.int .i64 (Tr.spanBits (k - 257))):=by simp
     have HA:=HZ.out.1.span (Tr.spanLeast 3 (k - 257)) (Tr.spanBits (k - 257));have HB:=HA.1.st 18;obtain ⟨y18,hy18⟩:∃ y18:MS,y18={ z with least:=Tr.spanLeast 3 (k - 257),bits:=Tr.spanBits (k - 257),st:=18 }:=⟨_,rfl⟩
     obtain ⟨WW18,hW⟩:∃ W,W=(((wa17.alloc (.cells #[.int .i64 2, .int .u8 0, .int .i64 (Tr.spanLeast 3 (k - 257)), .int .i64 (Tr.spanBits (k - 257))] 218)).setCell ⟨p,39,none⟩ (.int .i64 (Tr.spanLeast 3 (k - 257)))).setCell ⟨p,40,none⟩ (.int .i64 (Tr.spanBits (k - 257)))).setCell ⟨p,7,none⟩ (.int .i64 18):=⟨_,rfl⟩
     have H18:Hid (Cw ρ w p y18 WW18):=by
      show Cw ρ w p y18 WW18;rw [hW,hy18];exact ⟨HB.1,{ HZ.out.2.1 with },s2,by show z.la≠[];rw [hza];exact H17.out.ne,by show z.lb.length<=16;rw [hzb];exact H17.out.lb,(HZ.out.2.2.trans HA.2).trans HB.2⟩
     have B18:y18.bits<=16∧y18.least<=1000000∧y18.least+2^y18.bits<=65535:=by
      rw [hy18];show Tr.spanBits (k - 257)<=16∧Tr.spanLeast 3 (k - 257)<=1000000∧Tr.spanLeast 3 (k - 257)+2^Tr.spanBits (k - 257)<=65535;have:=Nat.two_pow_pos (Tr.spanBits (k - 257));omega
     have Q18:∀ b∈y18.qc,b<256:=by rw [hy18];show ∀ b∈z.qc,b<256;rw [hzq];exact Q17
     have R18:Hid (x.c16=MS.c18 y18):=by show x.c16=_;rw [hy18];exact R'.out
     have HW18:Hid (WW18=(((wa17.alloc (.cells #[.int .i64 2, .int .u8 0, .int .i64 (Tr.spanLeast 3 (k - 257)), .int .i64 (Tr.spanBits (k - 257))] 218)).setCell ⟨p,39,none⟩ (.int .i64 (Tr.spanLeast 3 (k - 257)))).setCell ⟨p,40,none⟩ (.int .i64 (Tr.spanBits (k - 257)))).setCell ⟨p,7,none⟩ (.int .i64 18)):=hW;rw [HC.out];have hv3:Tr.spanLeast 3 (k - 257)=y18.least:=by rw [hy18]
     have hv4:Tr.spanBits (k - 257)=y18.bits:=by rw [hy18]
     rw [hv3,hv4] at HW18 a39 z39 a40 z40 k7 z7 q0 q2 q3 ⊢;clear g1 g2 hr s3 so SF h0 hza hzb hzq HA HB hy18 hW b1 sd R' hk hk6 HZ HC s1 hk269 hv3 hv4;go_wp2_with fail
     rw [← HW18.out];clear a39 z39 a40 z40 k7 z7 q0 q2 q3 HW18;have hbl:=B18;refine (xh4 y18.least y18.bits H18.out.mm H18.out.ok H18.out.cnt hbl.1 hbl.2.1).mono ?_;rintro v wa18 ⟨rfl,g1,g2⟩;have SF:=MS.spanR_facts (least:=y18.least) H18.out.ok H18.out.cnt hbl.1;have R':Hid (x.c16=if (y18.spanR y18.least y18.bits).2.1=0 then MS.c19 { (y18.spanR y18.least y18.bits).1 with left:=(y18.spanR y18.least y18.bits).2.2,st:=19 } else ((y18.spanR y18.least y18.bits).1,(y18.spanR y18.least y18.bits).2.1)):=R18.out;clear R18;by_cases h0:(y18.spanR y18.least y18.bits).2.1=0
     ·rw [if_pos h0] at R';obtain ⟨s1,s2,s3,s4⟩:=SF.2 h0;have so:=SF.1;have hD:(y18.spanR y18.least y18.bits).2.2<=65535:=by have:=hbl.2.2;omega
      obtain ⟨z,t,D,hr⟩:∃ z t D,y18.spanR y18.least y18.bits=(z,t,D):=⟨_,_,_,rfl⟩
      rw [hr] at g1 R' s1 s4 so hD h0 ⊢;have h0':t=0:=h0;subst h0';have hza:z.la=y18.la:=by have:z=_:=s4;rw [this]
      have hzb:z.lb=y18.lb:=by have:z=_:=s4;rw [this]
      have hzq:z.qc=y18.qc:=by have:z=_:=s4;rw [this]
      have HZ:Hid (MM ρ wa18 p z∧Ok z∧Fr (fun k=>1<=k∧k<=5) ρ w wa18):=⟨g1,so,H18.out.fr.trans g2⟩
      have a25:=g1.cell25.1;have z25:=g1.cell25.2;have k7:=g1.cell7.1;have z7:=g1.cell7.2;have HA:=g1.left D;have HB:=HA.1.st 19;obtain ⟨y19,hy19⟩:∃ y19:MS,y19={ z with left:=D,st:=19 }:=⟨_,rfl⟩
      obtain ⟨WW19,hW⟩:∃ W,W=(wa18.setCell ⟨p,25,none⟩ (.int .i64 D)).setCell ⟨p,7,none⟩ (.int .i64 19):=⟨_,rfl⟩
      have H19:Hid (Cw ρ w p y19 WW19):=by
       show Cw ρ w p y19 WW19;rw [hW,hy19];exact ⟨HB.1,{ HZ.out.2.1 with },s1,by show z.la≠[];rw [hza];exact H18.out.ne,by show z.lb.length<=16;rw [hzb];exact H18.out.lb,(HZ.out.2.2.trans HA.2).trans HB.2⟩
      have Q19:∀ b∈y19.qc,b<256:=by rw [hy19];show ∀ b∈z.qc,b<256;rw [hzq];exact Q18
      have L19:y19.left<=65535:=by rw [hy19];exact hD
      have R19:Hid (x.c16=MS.c19 y19):=by show x.c16=_;rw [hy19];exact R'.out
      have HW19:Hid (WW19=(wa18.setCell ⟨p,25,none⟩ (.int .i64 D)).setCell ⟨p,7,none⟩ (.int .i64 19)):=hW;obtain ⟨gs,tl,td,c37,cg0,cg1,TL,TD,hgp⟩:=g1.sets (by rw [hza];exact H18.out.ne);have TDr:inRange y19.lb=true:=by rw [hy19];exact TD.rng
      have HTD:Hid (TabS ρ WW19 271 2 (fun i=>(vtb 1 i).toList) td y19.lb):=by
       show TabS _ _ _ _ _ _ _;rw [hW,hy19];exact TD.fr (HA.2.trans HB.2).kp (by decide)
      clear g1 g2 hr s4 so SF h0 hza hzb hzq HA HB hy19 hW s1 s2 s3 R' TL TD;go_wp2_with fail
      rw [← HW19.out];clear HZ a25 z25 k7 z7 HW19 hD;refine (kdd H19.out.mm H19.out.ok H19.out.cnt HTD.out).mono ?_;rintro v wa19 ⟨rfl,g1,g2⟩;have SF:=MS.sym_facts TDr H19.out.ok H19.out.cnt;have R':Hid (x.c16=if (y19.sym y19.lb).2.1=0 then MS.c20 { (y19.sym y19.lb).1 with least:=Tr.spanLeast 1 (y19.sym y19.lb).2.2,bits:=Tr.spanBits (y19.sym y19.lb).2.2,st:=20 } else ((y19.sym y19.lb).1,(y19.sym y19.lb).2.1)):=R19.out;clear R19;by_cases h0:(y19.sym y19.lb).2.1=0
      ·rw [if_pos h0] at R';rw [if_pos h0];obtain ⟨s1,s2,s3⟩:=SF.2 h0;have so:=SF.1;have hlb:=H19.out.lb;have sd:=k8m (k:=(y19.sym y19.lb).2.2) (by omega);obtain ⟨z,t,k,hr⟩:∃ z t k,y19.sym y19.lb=(z,t,k):=⟨_,_,_,rfl⟩
       rw [hr] at g1 R' s2 s3 so sd h0 ⊢;have h0':t=0:=h0;subst h0';have hza:z.la=y19.la:=by have:z=_:=s3;rw [this]
       have hzb:z.lb=y19.lb:=by have:z=_:=s3;rw [this]
       have hzl:z.left=y19.left:=by have:z=_:=s3;rw [this]
       have hzq:z.qc=y19.qc:=by have:z=_:=s3;rw [this]
       have b1:Below wa19.heap.size wa19 (wa19.alloc (.cells #[.int .i64 (Tr.spanLeast 1 k), .int .i64 (Tr.spanBits k)] 125)):=(Below.refl _ _).alloc (Nat.le_refl _) _;have HZ:Hid (MM ρ (wa19.alloc (.cells #[.int .i64 (Tr.spanLeast 1 k), .int .i64 (Tr.spanBits k)] 125)) p z∧Ok z∧Fr (fun k=>1<=k∧k<=5) ρ w (wa19.alloc (.cells #[.int .i64 (Tr.spanLeast 1 k), .int .i64 (Tr.spanBits k)] 125))):=⟨g1.below b1,so,(H19.out.fr.trans g2).trans (Fr.below b1)⟩
       have a39:=HZ.out.1.cellI.2.2.1;have z39:=HZ.out.1.cellI.2.2.2.1;have a40:=HZ.out.1.cellI.2.2.2.2.1;have z40:=HZ.out.1.cellI.2.2.2.2.2.1;have k7:=HZ.out.1.cell7.1;have z7:=HZ.out.1.cell7.2;have q0:(wa19.alloc (.cells #[.int .i64 (Tr.spanLeast 1 k), .int .i64 (Tr.spanBits k)] 125)).cell? ⟨wa19.heap.size,0,none⟩=some (.int .i64 (Tr.spanLeast 1 k)):=by simp
       have q1:(wa19.alloc (.cells #[.int .i64 (Tr.spanLeast 1 k), .int .i64 (Tr.spanBits k)] 125)).cell? ⟨wa19.heap.size,1,none⟩=some (.int .i64 (Tr.spanBits k)):=by simp
       have HA:=HZ.out.1.span (Tr.spanLeast 1 k) (Tr.spanBits k);have HB:=HA.1.st 20;obtain ⟨y20,hy20⟩:∃ y20:MS,y20={ z with least:=Tr.spanLeast 1 k,bits:=Tr.spanBits k,st:=20 }:=⟨_,rfl⟩
       obtain ⟨WW20,hW⟩:∃ W,W=(((wa19.alloc (.cells #[.int .i64 (Tr.spanLeast 1 k), .int .i64 (Tr.spanBits k)] 125)).setCell ⟨p,39,none⟩ (.int .i64 (Tr.spanLeast 1 k))).setCell ⟨p,40,none⟩ (.int .i64 (Tr.spanBits k))).setCell ⟨p,7,none⟩ (.int .i64 20):=⟨_,rfl⟩
       have H20:Hid (Cw ρ w p y20 WW20):=by
        show Cw ρ w p y20 WW20;rw [hW,hy20];exact ⟨HB.1,{ HZ.out.2.1 with },s2,by show z.la≠[];rw [hza];exact H19.out.ne,by show z.lb.length<=16;rw [hzb];exact H19.out.lb,(HZ.out.2.2.trans HA.2).trans HB.2⟩
       have B20:y20.bits<=16∧y20.least<=1000000∧1<=y20.least:=by rw [hy20];exact sd
       have Q20:∀ b∈y20.qc,b<256:=by rw [hy20];show ∀ b∈z.qc,b<256;rw [hzq];exact Q19
       have L20:y20.left<=65535:=by rw [hy20];show z.left<=65535;rw [hzl];exact L19
       have R20:Hid (x.c16=MS.c20 y20):=by show x.c16=_;rw [hy20];exact R'.out
       have HW20:Hid (WW20=(((wa19.alloc (.cells #[.int .i64 (Tr.spanLeast 1 k), .int .i64 (Tr.spanBits k)] 125)).setCell ⟨p,39,none⟩ (.int .i64 (Tr.spanLeast 1 k))).setCell ⟨p,40,none⟩ (.int .i64 (Tr.spanBits k))).setCell ⟨p,7,none⟩ (.int .i64 20)):=hW;have hE3:Tr.spanLeast 1 k=y20.least:=by rw [hy20]
       have hE4:Tr.spanBits k=y20.bits:=by rw [hy20]
       unfold vtb;clear g1 g2 hr s3 so SF h0 hza hzb hzl hzq HA HB hy20 hW b1 sd R' HZ;rw [hE3,hE4] at HW20 a39 z39 a40 z40 k7 z7 q0 q1 ⊢;clear hE3 hE4;go_wp2_with fail
       rw [← HW20.out];clear a39 z39 a40 z40 k7 z7 q0 q1 HW20;have hbl:=B20;refine (xh4 y20.least y20.bits H20.out.mm H20.out.ok H20.out.cnt hbl.1 hbl.2.1).mono ?_;rintro v wa20 ⟨rfl,g1,g2⟩;have SF:=MS.spanR_facts (least:=y20.least) H20.out.ok H20.out.cnt hbl.1;have R':Hid (x.c16=if (y20.spanR y20.least y20.bits).2.1=0 then (if (y20.spanR y20.least y20.bits).1.qc.length<(y20.spanR y20.least y20.bits).2.2 then (y20.spanR y20.least y20.bits).1.refuse 11 else MS.c21 { (y20.spanR y20.least y20.bits).1 with dist:=(y20.spanR y20.least y20.bits).2.2,st:=21 }) else ((y20.spanR y20.least y20.bits).1,(y20.spanR y20.least y20.bits).2.1)):=R20.out;clear R20;by_cases h0:(y20.spanR y20.least y20.bits).2.1=0
       ·rw [if_pos h0] at R';obtain ⟨s1,s2,s3,s4⟩:=SF.2 h0;have so:=SF.1;have hD:(y20.spanR y20.least y20.bits).2.2<=2000000∧1<=(y20.spanR y20.least y20.bits).2.2:=by
         have:2^y20.bits<=2^16:=Nat.pow_le_pow_right (by decide) hbl.1;have e:2^16=65536:=by decide
         have:=hbl.2.2;omega
        obtain ⟨z,t,D,hr⟩:∃ z t D,y20.spanR y20.least y20.bits=(z,t,D):=⟨_,_,_,rfl⟩
        rw [hr] at g1 R' s1 s4 so hD h0 ⊢;have h0':t=0:=h0;subst h0';have hzl:z.left=y20.left:=by have:z=_:=s4;rw [this]
        have hzq:z.qc=y20.qc:=by have:z=_:=s4;rw [this]
        have HZ:Hid (MM ρ wa20 p z∧Ok z∧Fr (fun k=>1<=k∧k<=5) ρ w wa20):=⟨g1,so,H20.out.fr.trans g2⟩
        obtain ⟨cw,c17,HLEN0,_,_⟩:=g1.win;have HLEN:Hid (Calls Tryz.prog 57 #[.pointer (some ⟨cw,0,none⟩)] wa20 fun v w'=>v= .returned (.int .i64 z.qc.length)∧wa20=w'):=HLEN0;have c41:=g1.cellI.2.2.2.2.2.2.1;have z41:=g1.cellI.2.2.2.2.2.2.2;have hq256:z.qc.length<=256:=by obtain ⟨L,B,T⟩:=g1;exact B.rc'
        have HQB:Hid (∀ b∈z.qc,b<256):=by show ∀ b∈z.qc,b<256;rw [hzq];exact Q20
        have hleft:z.left<=65535:=by rw [hzl];exact L20
        clear g1 g2 hr s4 so SF HLEN0 h0 s1 s2 s3 hzl hzq;go_wp2_with fail
        refine HLEN.out.mono ?_;rintro v w' ⟨rfl,rfl⟩;obtain ⟨N,hN⟩:∃ N,N=z.qc.length:=⟨_,rfl⟩
        rw [← hN] at hq256 R' ⊢;have HN:Hid (N=z.qc.length):=hN;clear hN;by_cases hd:N<D
        ·rw [if_pos hd] at R';have hdi:(N:Int)<D:=by omega
         go_wp2_with fail
         refine (kv8 11 HZ.out.1).mono ?_;rintro v w4 ⟨rfl,g3,g4⟩;have HR2:Hid (MM ρ w4 p (z.refuse 11).1∧Fr (fun k=>1<=k∧k<=5) ρ w w4):=⟨g3,HZ.out.2.2.trans g4⟩
         clear g3 g4;go_wp2_with fail
         go_ret
         unfold y0y;rw [R'.out];exact ⟨rfl,HR2.out⟩
        ·rw [if_neg hd] at R';have hdi:¬ (N:Int)<D:=by omega
         have H1:=HZ.out.1.dist D;have H2:=H1.1.st 21;have k7:=HZ.out.1.cell7.1;have z7:=HZ.out.1.cell7.2;obtain ⟨R,hR⟩:∃ R,R=MS.c21 { z with dist:=D,st:=21 }:=⟨_,rfl⟩
         have H0:Hid (∃ y,Kw ρ w p y R ((wa20.setCell ⟨p,41,none⟩ (.int .i64 D)).setCell ⟨p,7,none⟩ (.int .i64 21))):=⟨{ z with dist:=D,st:=21 },H2.1,{ HZ.out.2.1 with },hR.symm,hleft,hD.2,by show D<=z.qc.length;rw [← HN.out];omega,HQB.out,(HZ.out.2.2.trans H1.2).trans H2.2⟩
         have HF:Hid (x.c16=R):=by show x.c16=R;rw [hR];exact R'.out
         clear H1 H2 hR R' HZ hd HLEN;go_wp2_with fail
         clear hdi;generalize decide (N<D)=dd;go_loopw [] (fun wr=>Hid (∃ y,Kw ρ w p y R wr)) (fun wr=>xq0 wr p 25)
         case atStart=>exact H0
         case round=>
          clear H0;obtain ⟨y,Y⟩:=hrel.out;have c25:=Y.mm.cell25.1;have e25:=xv1 c25;have hl:=Y.left;have HY:Hid (Kw ρ w p y R wr):=Y;by_cases hz:y.left=0
          ·have HZ:Hid (R=({ y with st:=17 },0)):=by show R=_;rw [← HY.out.eq,MS.copy_zero hz]
           rw [hz] at c25;have k7:=Y.mm.cell7.1;have z7:=Y.mm.cell7.2;have H17:Hid (MM ρ (wr.setCell ⟨p,7,none⟩ (.int .i64 17)) p { y with st:=17 }∧Fr (fun k=>1<=k∧k<=5) ρ wr (wr.setCell ⟨p,7,none⟩ (.int .i64 17))):=Y.mm.st 17;clear hz Y hrel;go_wp2_with fail
           go_ret
           unfold y0y;rw [HF.out,HZ.out];exact ⟨rfl,H17.out.1,HY.out.fr.trans H17.out.2⟩
          ·obtain ⟨n,hn⟩:∃ n,y.left=n+1:=⟨y.left - 1,by omega⟩
           have HS:Hid (R=if (y.put (y.qc.getD (y.qc.length - y.dist) 0)).2=0 then MS.copyL n { (y.put (y.qc.getD (y.qc.length - y.dist) 0)).1 with left:=n } else y.put (y.qc.getD (y.qc.length - y.dist) 0)):=by show R=_;rw [← HY.out.eq,MS.copy_succ hn]
           have hpos:(0:Int)<y.left:=by omega
           have hb:y.qc.getD (y.qc.length - y.dist) 0<256:=getD_lt Y.qb _;obtain ⟨cw,c17,_,HBK0,_⟩:=Y.mm.win;have HBK:Hid (∀ n,Calls Tryz.prog 150 #[.pointer (some ⟨cw,0,none⟩), .int .i64 y.dist] (wr.drewN n) fun v w'=>v= .returned (.int .u8 (y.qc.getD (y.qc.length - y.dist) 0:Nat))∧∃ m,w'=(wr.drewN n).drewN m):=fun n=>HBK0 n y.dist Y.d1 Y.d2
           have c41:=Y.mm.cellI.2.2.2.2.2.2.1;obtain ⟨b,hbE⟩:∃ b,b=y.qc.getD (y.qc.length - y.dist) 0:=⟨_,rfl⟩
           rw [← hbE] at HS hb HBK;clear hbE HBK0;have HPF:=MS.put_facts Y.ok b;have hq256:y.qc.length<=256:=by obtain ⟨L,B,T⟩:=Y.mm;exact B.rc'
           obtain ⟨P,hP⟩:∃ P,P=y.put b:=⟨_,rfl⟩
           have HPT:Hid (∀ wq,MM ρ wq p y->Calls Tryz.prog 137 #[.pointer (some ⟨p,0,none⟩), .int .u8 b] wq fun v w'=>y0y ρ wq p P v w'):=fun wq m=>by rw [hP];exact mPut b m HY.out.ok hb
           rw [← hP] at HS HPF;have HPF':Hid (Ok P.1∧(P.2=0->P.1=y.putted b)):=HPF;clear hP HPF hz Y hrel;by_cases h1:P.2=0
           ·have hPe:=HPF'.out.2 h1;rw [if_pos h1] at HS;have hPl:P.1.left=n+1:=by rw [hPe];exact hn
            have HPD:Hid (1<=P.1.dist∧P.1.dist<=P.1.qc.length∧∀ b∈P.1.qc,b<256):=by
             show _∧_∧_;rw [hPe];refine ⟨HY.out.d1,?_,vso HY.out.qb hb⟩;have:=xsr y.qc b hq256;have h3:=HY.out.d2;show y.dist<=(MS.pushed y.qc b).length;omega
            obtain ⟨Q,t,hQ⟩:∃ Q t,P=(Q,t):=⟨_,_,rfl⟩
            rw [hQ] at HS HPF' HPT hPl HPD h1;clear hQ hPe;have h1':t=0:=h1;subst h1';clear h1;go_wp2_with fail
            go_region_with (first
             | (go_at_call 150;refine (HBK.out 1).mono ?_;rintro e w2 ⟨rfl,m2,hw2⟩;have H2:Hid (MM ρ w2 p y∧Fr (fun k=>1<=k∧k<=5) ρ w w2):=by { show _∧_;rw [hw2];exact ⟨(HY.out.mm.drewN 1).drewN m2,(HY.out.fr.drewN 1).drewN m2⟩ };clear hw2)
             | (go_at_call 137;refine (HPT.out _ H2.out.1).mono ?_;rintro e w3 ⟨rfl,g1,g2⟩;have H3:Hid (MM ρ w3 p Q∧Fr (fun k=>1<=k∧k<=5) ρ w w3):=⟨g1,H2.out.2.trans g2⟩;clear g1 g2))
            all_goals
             have d25:w3.cell? ⟨p,25,none⟩=some (.int .i64 (n+1:Nat)):=by rw [← hPl];exact H3.out.1.cell25.1
             have z25:=H3.out.1.cell25.2;have HL:=H3.out.1.left n;have HN:Hid (∃ y,Kw ρ w p y R (w3.setCell ⟨p,25,none⟩ (.int .i64 n))):=⟨{ Q with left:=n },HL.1,{ HPF'.out.1 with },HS.out.symm,by show n<=65535;omega,HPD.out.1,HPD.out.2.1,HPD.out.2.2,H3.out.2.trans HL.2⟩
             have eN:xq0 (w3.setCell ⟨p,25,none⟩ (.int .i64 n)) p 25=n:=xv1 HL.1.cell25.1;have hn1:((n+1:Nat):Int) - 1=(n:Int):=by omega
             clear HL;go_wp2_with fail
             go_roundw
             case rel=>exact HN
             case measure=>rw [e25,eN];omega
           ·rw [if_neg h1] at HS;obtain ⟨Q,t,hQ⟩:∃ Q t,P=(Q,t):=⟨_,_,rfl⟩
            rw [hQ] at HS HPF' HPT h1;clear hQ;have h1':¬ t=0:=h1;have h0':((t:Int)==0)=false:=by simp;exact h1'
            clear h1;go_wp2_with fail
            go_region_with (first
             | (go_at_call 150;refine (HBK.out 1).mono ?_;rintro e w2 ⟨rfl,m2,hw2⟩;have H2:Hid (MM ρ w2 p y∧Fr (fun k=>1<=k∧k<=5) ρ w w2):=by { show _∧_;rw [hw2];exact ⟨(HY.out.mm.drewN 1).drewN m2,(HY.out.fr.drewN 1).drewN m2⟩ };clear hw2)
             | (go_at_call 137;refine (HPT.out _ H2.out.1).mono ?_;rintro e w3 ⟨rfl,g1,g2⟩;have H3:Hid (MM ρ w3 p Q∧Fr (fun k=>1<=k∧k<=5) ρ w w3):=⟨g1,H2.out.2.trans g2⟩;clear g1 g2))
            all_goals
             go_wp2_with fail
             go_ret
             unfold y0y;rw [HF.out,HS.out];exact ⟨rfl,H3.out⟩
       ·rw [if_neg h0] at R';obtain ⟨e,he⟩:∃ e,e=(y20.spanR y20.least y20.bits).2.1:=⟨_,rfl⟩
        have HR:Hid (MM ρ wa20 p (y20.spanR y20.least y20.bits).1∧Fr (fun k=>1<=k∧k<=5) ρ w wa20∧(y20.spanR y20.least y20.bits).2.1=e):=⟨g1,H20.out.fr.trans g2,he.symm⟩
        rw [← he] at h0 ⊢;have h0':((e:Int)==0)=false:=by simp;exact h0
        clear g1 g2 he;go_wp2_with fail
        go_ret
        unfold y0y;rw [R'.out,HR.out.2.2];exact ⟨rfl,HR.out.1,HR.out.2.1⟩
      ·rw [if_neg h0] at R';rw [if_neg h0];obtain ⟨e,he⟩:∃ e,e=(y19.sym y19.lb).2.1:=⟨_,rfl⟩
       have b1:Below wa19.heap.size wa19 (wa19.alloc (.cells #[.int .i64 0, .int .i64 0] 125)):=(Below.refl _ _).alloc (Nat.le_refl _) _;have HR:Hid (MM ρ (wa19.alloc (.cells #[.int .i64 0, .int .i64 0] 125)) p (y19.sym y19.lb).1∧Fr (fun k=>1<=k∧k<=5) ρ w (wa19.alloc (.cells #[.int .i64 0, .int .i64 0] 125))∧(y19.sym y19.lb).2.1=e):=⟨g1.below b1,(H19.out.fr.trans g2).trans (Fr.below b1),he.symm⟩
       rw [← he] at h0 ⊢;have h0':((e:Int)==0)=false:=by simp;exact h0
       clear g1 g2 he b1;go_wp2_with fail
       go_ret
       unfold y0y;rw [R'.out,HR.out.2.2];exact ⟨rfl,HR.out.1,HR.out.2.1⟩
     ·rw [if_neg h0] at R';obtain ⟨e,he⟩:∃ e,e=(y18.spanR y18.least y18.bits).2.1:=⟨_,rfl⟩
      have HR:Hid (MM ρ wa18 p (y18.spanR y18.least y18.bits).1∧Fr (fun k=>1<=k∧k<=5) ρ w wa18∧(y18.spanR y18.least y18.bits).2.1=e):=⟨g1,H18.out.fr.trans g2,he.symm⟩
      rw [← he] at h0 ⊢;have h0':((e:Int)==0)=false:=by simp;exact h0
      clear g1 g2 he;go_wp2_with fail
      go_ret
      unfold y0y;rw [R'.out,HR.out.2.2];exact ⟨rfl,HR.out.1,HR.out.2.1⟩
  ·rw [if_neg h0] at R';rw [if_neg h0];obtain ⟨e,he⟩:∃ e,e=(y17.sym y17.la).2.1:=⟨_,rfl⟩
   have b1:Below wa17.heap.size wa17 (wa17.alloc (.cells #[.int .i64 0, .int .u8 0, .int .i64 0, .int .i64 0] 218)):=(Below.refl _ _).alloc (Nat.le_refl _) _;have HR:Hid (MM ρ (wa17.alloc (.cells #[.int .i64 0, .int .u8 0, .int .i64 0, .int .i64 0] 218)) p (y17.sym y17.la).1∧Fr (fun k=>1<=k∧k<=5) ρ w (wa17.alloc (.cells #[.int .i64 0, .int .u8 0, .int .i64 0, .int .i64 0] 218))∧(y17.sym y17.la).2.1=e):=⟨g1.below b1,(H17.out.fr.trans g2).trans (Fr.below b1),he.symm⟩
   rw [← he] at h0 ⊢;have h0':((e:Int)==0)=false:=by simp;exact h0
   clear g1 g2 he b1;go_wp2_with fail
   go_ret
   unfold y0y;rw [R'.out,HR.out.2.2];exact ⟨rfl,HR.out.1,HR.out.2.1⟩
 ·rw [if_neg h0] at R';obtain ⟨e,he⟩:∃ e,e=(x.put x.lit).2:=⟨_,rfl⟩
  have HR:Hid (MM ρ wa16 p (x.put x.lit).1∧Fr (fun k=>1<=k∧k<=5) ρ w wa16∧(x.put x.lit).2=e):=⟨g1,H16.out.fr.trans g2,he.symm⟩
  rw [← he] at h0 ⊢;have h0':((e:Int)==0)=false:=by simp;exact h0
  clear g1 g2 he;go_wp2_with fail
  go_ret
  unfold y0y;rw [R'.out,HR.out.2.2];exact ⟨rfl,HR.out.1,HR.out.2.1⟩
end Go.Proofs.YtbcjmakpempkiaaGreatDoor
