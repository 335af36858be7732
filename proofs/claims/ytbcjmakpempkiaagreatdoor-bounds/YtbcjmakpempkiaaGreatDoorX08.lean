import Derived.Test.YtbcjmakpempkiaaGreatDoorX07
set_option maxRecDepth 100000
set_option maxHeartbeats 8000000
set_option linter.all false
namespace Go.Proofs.YtbcjmakpempkiaaGreatDoor
open Go.RowKit
theorem z0y{ρ:Nat->Nat}{w:World}{p:Nat}{x:MS}(h:MM ρ w p x)(ok:Ok x)(hc:x.count<=40)(hne:x.la≠[])(hlb:x.lb.length<=16)(hqc:∀ b∈x.qc,b<256)(hb:x.bits<=16∧x.least<=1000000∧x.least+2^x.bits<=65535)(hst:x.st=18) :
  Calls Tryz.prog 106 #[.pointer (some ⟨p,0,none⟩)] w fun v w'=>y0y ρ w p x.c18 v w':=by
 have H18:Hid (Cw ρ w p x w):=⟨h,ok,hc,hne,hlb,Fr.refl _ _ _⟩
 have Q18:=hqc;have c39:=h.cellI.2.2.1;have c40:=h.cellI.2.2.2.2.1;have B18:=hb;have R18:Hid (x.c18=MS.symThen (x.spanR x.least x.bits) fun y n=>MS.c19 { y with left:=n,st:=19 }):=rfl;have c7:=h.cell7.1;rw [hst] at c7;clear h ok hst hc hne hlb hqc;go_enter Tryz.func106,Tryz.ntmps106
 go_wp2_with fail
 have hbl:=B18;refine (xh4 x.least x.bits H18.out.mm H18.out.ok H18.out.cnt hbl.1 hbl.2.1).mono ?_;rintro v wa18 ⟨rfl,g1,g2⟩;have SF:=MS.spanR_facts (least:=x.least) H18.out.ok H18.out.cnt hbl.1;have R':Hid (x.c18=if (x.spanR x.least x.bits).2.1=0 then MS.c19 { (x.spanR x.least x.bits).1 with left:=(x.spanR x.least x.bits).2.2,st:=19 } else ((x.spanR x.least x.bits).1,(x.spanR x.least x.bits).2.1)):=R18.out;clear R18;by_cases h0:(x.spanR x.least x.bits).2.1=0
 ·rw [if_pos h0] at R';obtain ⟨s1,s2,s3,s4⟩:=SF.2 h0;have so:=SF.1;have hD:(x.spanR x.least x.bits).2.2<=65535:=by have:=hbl.2.2;omega
  obtain ⟨z,t,D,hr⟩:∃ z t D,x.spanR x.least x.bits=(z,t,D):=⟨_,_,_,rfl⟩
  rw [hr] at g1 R' s1 s4 so hD h0 ⊢;have h0':t=0:=h0;subst h0';have hza:z.la=x.la:=by have:z=_:=s4;rw [this]
  have hzb:z.lb=x.lb:=by have:z=_:=s4;rw [this]
  have hzq:z.qc=x.qc:=by have:z=_:=s4;rw [this]
  have HZ:Hid (MM ρ wa18 p z∧Ok z∧Fr (fun k=>1<=k∧k<=5) ρ w wa18):=⟨g1,so,H18.out.fr.trans g2⟩
  have a25:=g1.cell25.1;have z25:=g1.cell25.2;have k7:=g1.cell7.1;have z7:=g1.cell7.2;have HA:=g1.left D;have HB:=HA.1.st 19;obtain ⟨y19,hy19⟩:∃ y19:MS,y19={ z with left:=D,st:=19 }:=⟨_,rfl⟩
  obtain ⟨WW19,hW⟩:∃ W,W=(wa18.setCell ⟨p,25,none⟩ (.int .i64 D)).setCell ⟨p,7,none⟩ (.int .i64 19):=⟨_,rfl⟩
  have H19:Hid (Cw ρ w p y19 WW19):=by
   show Cw ρ w p y19 WW19;rw [hW,hy19];exact ⟨HB.1,{ HZ.out.2.1 with },s1,by show z.la≠[];rw [hza];exact H18.out.ne,by show z.lb.length<=16;rw [hzb];exact H18.out.lb,(HZ.out.2.2.trans HA.2).trans HB.2⟩
  have Q19:∀ b∈y19.qc,b<256:=by rw [hy19];show ∀ b∈z.qc,b<256;rw [hzq];exact Q18
  have L19:y19.left<=65535:=by rw [hy19];exact hD
  have R19:Hid (x.c18=MS.c19 y19):=by show x.c18=_;rw [hy19];exact R'.out
  have HW19:Hid (WW19=(wa18.setCell ⟨p,25,none⟩ (.int .i64 D)).setCell ⟨p,7,none⟩ (.int .i64 19)):=hW;obtain ⟨gs,tl,td,c37,cg0,cg1,TL,TD,hgp⟩:=g1.sets (by rw [hza];exact H18.out.ne);have TDr:inRange y19.lb=true:=by rw [hy19];exact TD.rng
  have HTD:Hid (TabS ρ WW19 271 2 (fun i=>(vtb 1 i).toList) td y19.lb):=by
   show TabS _ _ _ _ _ _ _;rw [hW,hy19];exact TD.fr (HA.2.trans HB.2).kp (by decide)
  clear g1 g2 hr s4 so SF h0 hza hzb hzq HA HB hy19 hW s1 s2 s3 R' TL TD;go_wp2_with fail
  rw [← HW19.out];clear HZ a25 z25 k7 z7 HW19 hD;refine (kdd H19.out.mm H19.out.ok H19.out.cnt HTD.out).mono ?_;rintro v wa19 ⟨rfl,g1,g2⟩;have SF:=MS.sym_facts TDr H19.out.ok H19.out.cnt;have R':Hid (x.c18=if (y19.sym y19.lb).2.1=0 then MS.c20 { (y19.sym y19.lb).1 with least:=Tr.spanLeast 1 (y19.sym y19.lb).2.2,bits:=Tr.spanBits (y19.sym y19.lb).2.2,st:=20 } else ((y19.sym y19.lb).1,(y19.sym y19.lb).2.1)):=R19.out;clear R19;by_cases h0:(y19.sym y19.lb).2.1=0
  ·rw [if_pos h0] at R';rw [if_pos h0];obtain ⟨s1,s2,s3⟩:=SF.2 h0;have so:=SF.1;have hlb:=H19.out.lb;have sd:=k8m (k:=(y19.sym y19.lb).2.2) (by omega);obtain ⟨z,t,k,hr⟩:∃ z t k,y19.sym y19.lb=(z,t,k):=⟨_,_,_,rfl⟩
   rw [hr] at g1 R' s2 s3 so sd h0 ⊢;have h0':t=0:=h0;subst h0';have hza:z.la=y19.la:=by have:z=_:=s3;rw [this]
   have hzb:z.lb=y19.lb:=by have:z=_:=s3;rw [this]
   have hzl:z.left=y19.left:=by have:z=_:=s3;rw [this]
   have hzq:z.qc=y19.qc:=by have:z=_:=s3;rw [this]
   have b1:Below wa19.heap.size wa19 (wa19.alloc (.cells #[.int .i64 (Tr.spanLeast 1 k), .int .i64 (Tr.spanBits k)] 125)):=(Below.refl _ _).alloc (Nat.le_refl _) _;have HZ:Hid (MM ρ (wa19.alloc (.cells #[.int .i64 (Tr.spanLeast 1 k), .int .i64 (Tr.spanBits k)] 125)) p z∧Ok z∧Fr (fun k=>1<=k∧k<=5) ρ w (wa19.alloc (.cells #[.int .i64 (Tr.spanLeast 1 k), .int .i64 (Tr.spanBits k)] 125))):=⟨g1.below b1,so,(H19.out.fr.trans g2).trans (Fr.below b1)⟩
   have a39:=HZ.out.1.cellI.2.2.1;have z39:=HZ.out.1.cellI.2.2.2.1;have a40:=HZ.out.1.cellI.2.2.2.2.1;have z40:=HZ.out.1.cellI.2.2.2.2.2.1;have k7:=HZ.out.1.cell7.1;have z7:=HZ.out.1.cell7.2;have q0:(wa19.alloc (.cells #[.int .i64 (Tr.spanLeast 1 k), .int .i64 (Tr.spanBits k)] 125)).cell? ⟨wa19.heap.size,0,none⟩=some (.int .i64 (Tr.spanLeast 1 k)):=by simp
   have q1:(wa19.alloc (.cells #[.int .i64 (Tr.spanLeast 1 k), .int .i64 (Tr.spanBits k)] 125)).cell? ⟨wa19.heap.size,1,none⟩=some (.int .i64 (Tr.spanBits k)):=by simp
   have HA:=HZ.out.1.span (Tr.spanLeast 1 k) (Tr.spanBits k);have HB:=HA.1.st 20;obtain ⟨y20,hy20⟩:∃ y20:MS,y20={ z with least:=Tr.spanLeast 1 k,bits:=Tr.spanBits k,st:=20 }:=⟨_,rfl⟩
   obtain ⟨WW20,hW⟩:∃ W,W=(((wa19.alloc (.cells #[.int .i64 (Tr.spanLeast 1 k), .int .i64 (Tr.spanBits k)] 125)).setCell ⟨p,39,none⟩ (.int .i64 (Tr.spanLeast 1 k))).setCell ⟨p,40,none⟩ (.int .i64 (Tr.spanBits k))).setCell ⟨p,7,none⟩ (.int .i64 20):=⟨_,rfl⟩
   have H20:Hid (Cw ρ w p y20 WW20):=by
    show Cw ρ w p y20 WW20;rw [hW,hy20];exact ⟨HB.1,{ HZ.out.2.1 with },s2,by show z.la≠[];rw [hza];exact H19.out.ne,by show z.lb.length<=16;rw [hzb];exact H19.out.lb,(HZ.out.2.2.trans HA.2).trans HB.2⟩
   have B20:y20.bits<=16∧y20.least<=1000000∧1<=y20.least:=by rw [hy20];exact sd
   have Q20:∀ b∈y20.qc,b<256:=by rw [hy20];show ∀ b∈z.qc,b<256;rw [hzq];exact Q19
   have L20:y20.left<=65535:=by rw [hy20];show z.left<=65535;rw [hzl];exact L19
   have R20:Hid (x.c18=MS.c20 y20):=by show x.c18=_;rw [hy20];exact R'.out
   have HW20:Hid (WW20=(((wa19.alloc (.cells #[.int .i64 (Tr.spanLeast 1 k), .int .i64 (Tr.spanBits k)] 125)).setCell ⟨p,39,none⟩ (.int .i64 (Tr.spanLeast 1 k))).setCell ⟨p,40,none⟩ (.int .i64 (Tr.spanBits k))).setCell ⟨p,7,none⟩ (.int .i64 20)):=hW;have hE3:Tr.spanLeast 1 k=y20.least:=by rw [hy20]
   have hE4:Tr.spanBits k=y20.bits:=by rw [hy20]
   unfold vtb;clear g1 g2 hr s3 so SF h0 hza hzb hzl hzq HA HB hy20 hW b1 sd R' HZ;rw [hE3,hE4] at HW20 a39 z39 a40 z40 k7 z7 q0 q1 ⊢;clear hE3 hE4;go_wp2_with fail
   rw [← HW20.out];clear a39 z39 a40 z40 k7 z7 q0 q1 HW20;have hbl:=B20;refine (xh4 y20.least y20.bits H20.out.mm H20.out.ok H20.out.cnt hbl.1 hbl.2.1).mono ?_;rintro v wa20 ⟨rfl,g1,g2⟩;have SF:=MS.spanR_facts (least:=y20.least) H20.out.ok H20.out.cnt hbl.1;have R':Hid (x.c18=if (y20.spanR y20.least y20.bits).2.1=0 then (if (y20.spanR y20.least y20.bits).1.qc.length<(y20.spanR y20.least y20.bits).2.2 then (y20.spanR y20.least y20.bits).1.refuse 11 else MS.c21 { (y20.spanR y20.least y20.bits).1 with dist:=(y20.spanR y20.least y20.bits).2.2,st:=21 }) else ((y20.spanR y20.least y20.bits).1,(y20.spanR y20.least y20.bits).2.1)):=R20.out;clear R20;by_cases h0:(y20.spanR y20.least y20.bits).2.1=0
   ·rw [if_pos h0] at R';obtain ⟨s1,s2,s3,s4⟩:=SF.2 h0;have so:=SF.1;have hD:(y20.spanR y20.least y20.bits).2.2<=2000000∧1<=(y20.spanR y20.least y20.bits).2.2:=by
     have:2^y20.bits<=2^16:=Nat.pow_le_pow_right (by decide) hbl.1;have e:2^16=65536:=by decide
     have:=hbl.2.2;omega
    obtain ⟨z,t,D,hr⟩:∃ z t D,y20.spanR y20.least y20.bits=(z,t,D):=⟨_,_,_,rfl⟩
    rw [hr] at g1 R' s1 s4 so hD h0 ⊢;have h0':t=0:=h0;subst h0';have hzl:z.left=y20.left:=by have:z=_:=s4;rw [this]
    have hzq:z.qc=y20.qc:=by have:z=_:=s4;rw [this]
    have HZ:Hid (MM ρ wa20 p z∧Ok z∧Fr (fun k=>1<=k∧k<=5) ρ w wa20):=⟨g1,so,H20.out.fr.trans g2⟩
    obtain ⟨cw,c17,HLEN0,_,_⟩:=g1.win;have HLEN:Hid (Calls Tryz.prog 57 #[.pointer (some ⟨cw,0,none⟩)] wa20 fun v w'=>v= .returned (.int .i64 z.qc.length)∧wa20=w'):=HLEN0;have c41:=g1.cellI.2.2.2.2.2.2.1;have z41:=g1.cellI.2.2.2.2.2.2.2;have hq256:z.qc.length<=256:=by obtain ⟨L,B,T⟩:=g1;exact B.rc'
    have HQB:Hid (∀ b∈z.qc,b<256):=by show ∀ b∈z.qc,b<256;rw [hzq];exact Q20
    have hleft:z.left<=65535:=by rw [hzl];exact L20
    clear g1 g2 hr s4 so SF HLEN0 h0 s1 s2 s3 hzl hzq;go_wp2_with fail
    refine HLEN.out.mono ?_;rintro v w' ⟨rfl,rfl⟩;obtain ⟨N,hN⟩:∃ N,N=z.qc.length:=⟨_,rfl⟩
    rw [← hN] at hq256 R' ⊢;have HN:Hid (N=z.qc.length):=hN;clear hN;by_cases hd:N<D
    ·rw [if_pos hd] at R';have hdi:(N:Int)<D:=by omega
     go_wp2_with fail
     refine (kv8 11 HZ.out.1).mono ?_;rintro v w4 ⟨rfl,g3,g4⟩;have HR2:Hid (MM ρ w4 p (z.refuse 11).1∧Fr (fun k=>1<=k∧k<=5) ρ w w4):=⟨g3,HZ.out.2.2.trans g4⟩
     clear g3 g4;go_wp2_with fail
     go_ret
     unfold y0y;rw [R'.out];exact ⟨rfl,HR2.out⟩
    ·rw [if_neg hd] at R';have hdi:¬ (N:Int)<D:=by omega
     have H1:=HZ.out.1.dist D;have H2:=H1.1.st 21;have k7:=HZ.out.1.cell7.1;have z7:=HZ.out.1.cell7.2;obtain ⟨R,hR⟩:∃ R,R=MS.c21 { z with dist:=D,st:=21 }:=⟨_,rfl⟩
     have H0:Hid (∃ y,Kw ρ w p y R ((wa20.setCell ⟨p,41,none⟩ (.int .i64 D)).setCell ⟨p,7,none⟩ (.int .i64 21))):=⟨{ z with dist:=D,st:=21 },H2.1,{ HZ.out.2.1 with },hR.symm,hleft,hD.2,by show D<=z.qc.length;rw [← HN.out];omega,HQB.out,(HZ.out.2.2.trans H1.2).trans H2.2⟩
     have HF:Hid (x.c18=R):=by show x.c18=R;rw [hR];exact R'.out
     clear H1 H2 hR R' HZ hd HLEN;go_wp2_with fail
     clear hdi;generalize decide (N<D)=dd;go_loopw [] (fun wr=>Hid (∃ y,Kw ρ w p y R wr)) (fun wr=>xq0 wr p 25)
     case atStart=>exact H0
     case round=>
      clear H0;obtain ⟨y,Y⟩:=hrel.out;have c25:=Y.mm.cell25.1;have e25:=xv1 c25;have hl:=Y.left;have HY:Hid (Kw ρ w p y R wr):=Y;by_cases hz:y.left=0
      ·have HZ:Hid (R=({ y with st:=17 },0)):=by show R=_;rw [← HY.out.eq,MS.copy_zero hz]
       rw [hz] at c25;have k7:=Y.mm.cell7.1;have z7:=Y.mm.cell7.2;have H17:Hid (MM ρ (wr.setCell ⟨p,7,none⟩ (.int .i64 17)) p { y with st:=17 }∧Fr (fun k=>1<=k∧k<=5) ρ wr (wr.setCell ⟨p,7,none⟩ (.int .i64 17))):=Y.mm.st 17;clear hz Y hrel;go_wp2_with fail
       go_ret
       unfold y0y;rw [HF.out,HZ.out];exact ⟨rfl,H17.out.1,HY.out.fr.trans H17.out.2⟩
      ·obtain ⟨n,hn⟩:∃ n,y.left=n+1:=⟨y.left - 1,by omega⟩
       have HS:Hid (R=if (y.put (y.qc.getD (y.qc.length - y.dist) 0)).2=0 then MS.copyL n { (y.put (y.qc.getD (y.qc.length - y.dist) 0)).1 with left:=n } else y.put (y.qc.getD (y.qc.length - y.dist) 0)):=by show R=_;rw [← HY.out.eq,MS.copy_succ hn]
       have hpos:(0:Int)<y.left:=by omega
       have hb:y.qc.getD (y.qc.length - y.dist) 0<256:=getD_lt Y.qb _;obtain ⟨cw,c17,_,HBK0,_⟩:=Y.mm.win;have HBK:Hid (∀ n,Calls Tryz.prog 150 #[.pointer (some ⟨cw,0,none⟩), .int .i64 y.dist] (wr.drewN n) fun v w'=>v= .returned (.int .u8 (y.qc.getD (y.qc.length - y.dist) 0:Nat))∧∃ m,w'=(wr.drewN n).drewN m):=fun n=>HBK0 n y.dist Y.d1 Y.d2
       have c41:=Y.mm.cellI.2.2.2.2.2.2.1;obtain ⟨b,hbE⟩:∃ b,b=y.qc.getD (y.qc.length - y.dist) 0:=⟨_,rfl⟩
       rw [← hbE] at HS hb HBK;clear hbE HBK0;have HPF:=MS.put_facts Y.ok b;have hq256:y.qc.length<=256:=by obtain ⟨L,B,T⟩:=Y.mm;exact B.rc'
       obtain ⟨P,hP⟩:∃ P,P=y.put b:=⟨_,rfl⟩
       have HPT:Hid (∀ wq,MM ρ wq p y->Calls Tryz.prog 137 #[.pointer (some ⟨p,0,none⟩), .int .u8 b] wq fun v w'=>y0y ρ wq p P v w'):=fun wq m=>by rw [hP];exact mPut b m HY.out.ok hb
       rw [← hP] at HS HPF;have HPF':Hid (Ok P.1∧(P.2=0->P.1=y.putted b)):=HPF;clear hP HPF hz Y hrel;by_cases h1:P.2=0
       ·have hPe:=HPF'.out.2 h1;rw [if_pos h1] at HS;have hPl:P.1.left=n+1:=by rw [hPe];exact hn
        have HPD:Hid (1<=P.1.dist∧P.1.dist<=P.1.qc.length∧∀ b∈P.1.qc,b<256):=by
         show _∧_∧_;rw [hPe];refine ⟨HY.out.d1,?_,vso HY.out.qb hb⟩;have:=xsr y.qc b hq256;have h3:=HY.out.d2;show y.dist<=(MS.pushed y.qc b).length;omega
        obtain ⟨Q,t,hQ⟩:∃ Q t,P=(Q,t):=⟨_,_,rfl⟩
        rw [hQ] at HS HPF' HPT hPl HPD h1;clear hQ hPe;have h1':t=0:=h1;subst h1';clear h1;go_wp2_with fail
        go_region_with (first
         | (go_at_call 150;refine (HBK.out 1).mono ?_;rintro e w2 ⟨rfl,m2,hw2⟩;have H2:Hid (MM ρ w2 p y∧Fr (fun k=>1<=k∧k<=5) ρ w w2):=by { show _∧_;rw [hw2];exact ⟨(HY.out.mm.drewN 1).drewN m2,(HY.out.fr.drewN 1).drewN m2⟩ };clear hw2)
         | (go_at_call 137;refine (HPT.out _ H2.out.1).mono ?_;rintro e w3 ⟨rfl,g1,g2⟩;have H3:Hid (MM ρ w3 p Q∧Fr (fun k=>1<=k∧k<=5) ρ w w3):=⟨g1,H2.out.2.trans g2⟩;clear g1 g2))
        all_goals
         have d25:w3.cell? ⟨p,25,none⟩=some (.int .i64 (n+1:Nat)):=by rw [← hPl];exact H3.out.1.cell25.1
         have z25:=H3.out.1.cell25.2;have HL:=H3.out.1.left n;have HN:Hid (∃ y,Kw ρ w p y R (w3.setCell ⟨p,25,none⟩ (.int .i64 n))):=⟨{ Q with left:=n },HL.1,{ HPF'.out.1 with },HS.out.symm,by show n<=65535;omega,HPD.out.1,HPD.out.2.1,HPD.out.2.2,H3.out.2.trans HL.2⟩
         have eN:xq0 (w3.setCell ⟨p,25,none⟩ (.int .i64 n)) p 25=n:=xv1 HL.1.cell25.1;have hn1:((n+1:Nat):Int) - 1=(n:Int):=by omega
         clear HL;go_wp2_with fail
         go_roundw
         case rel=>exact HN
         case measure=>rw [e25,eN];omega
       ·rw [if_neg h1] at HS;obtain ⟨Q,t,hQ⟩:∃ Q t,P=(Q,t):=⟨_,_,rfl⟩
        rw [hQ] at HS HPF' HPT h1;clear hQ;have h1':¬ t=0:=h1;have h0':((t:Int)==0)=false:=by simp;exact h1'
        clear h1;go_wp2_with fail
        go_region_with (first
         | (go_at_call 150;refine (HBK.out 1).mono ?_;rintro e w2 ⟨rfl,m2,hw2⟩;have H2:Hid (MM ρ w2 p y∧Fr (fun k=>1<=k∧k<=5) ρ w w2):=by { show _∧_;rw [hw2];exact ⟨(HY.out.mm.drewN 1).drewN m2,(HY.out.fr.drewN 1).drewN m2⟩ };clear hw2)
         | (go_at_call 137;refine (HPT.out _ H2.out.1).mono ?_;rintro e w3 ⟨rfl,g1,g2⟩;have H3:Hid (MM ρ w3 p Q∧Fr (fun k=>1<=k∧k<=5) ρ w w3):=⟨g1,H2.out.2.trans g2⟩;clear g1 g2))
        all_goals
         go_wp2_with fail
         go_ret
         unfold y0y;rw [HF.out,HS.out];exact ⟨rfl,H3.out⟩
   ·rw [if_neg h0] at R';obtain ⟨e,he⟩:∃ e,e=(y20.spanR y20.least y20.bits).2.1:=⟨_,rfl⟩
    have HR:Hid (MM ρ wa20 p (y20.spanR y20.least y20.bits).1∧Fr (fun k=>1<=k∧k<=5) ρ w wa20∧(y20.spanR y20.least y20.bits).2.1=e):=⟨g1,H20.out.fr.trans g2,he.symm⟩
    rw [← he] at h0 ⊢;have h0':((e:Int)==0)=false:=by simp;exact h0
    clear g1 g2 he;go_wp2_with fail
    go_ret
    unfold y0y;rw [R'.out,HR.out.2.2];exact ⟨rfl,HR.out.1,HR.out.2.1⟩
  ·rw [if_neg h0] at R';rw [if_neg h0];obtain ⟨e,he⟩:∃ e,e=(y19.sym y19.lb).2.1:=⟨_,rfl⟩
   have b1:Below wa19.heap.size wa19 (wa19.alloc (.cells #[.int .i64 0, .int .i64 0] 125)):=(Below.refl _ _).alloc (Nat.le_refl _) _;have HR:Hid (MM ρ (wa19.alloc (.cells #[.int .i64 0, .int .i64 0] 125)) p (y19.sym y19.lb).1∧Fr (fun k=>1<=k∧k<=5) ρ w (wa19.alloc (.cells #[.int .i64 0, .int .i64 0] 125))∧(y19.sym y19.lb).2.1=e):=⟨g1.below b1,(H19.out.fr.trans g2).trans (Fr.below b1),he.symm⟩
   rw [← he] at h0 ⊢;have h0':((e:Int)==0)=false:=by simp;exact h0
   clear g1 g2 he b1;go_wp2_with fail
   go_ret
   unfold y0y;rw [R'.out,HR.out.2.2];exact ⟨rfl,HR.out.1,HR.out.2.1⟩
 ·rw [if_neg h0] at R';obtain ⟨e,he⟩:∃ e,e=(x.spanR x.least x.bits).2.1:=⟨_,rfl⟩
  have HR:Hid (MM ρ wa18 p (x.spanR x.least x.bits).1∧Fr (fun k=>1<=k∧k<=5) ρ w wa18∧(x.spanR x.least x.bits).2.1=e):=⟨g1,H18.out.fr.trans g2,he.symm⟩
  rw [← he] at h0 ⊢;have h0':((e:Int)==0)=false:=by simp;exact h0
  clear g1 g2 he;go_wp2_with fail
  go_ret
  unfold y0y;rw [R'.out,HR.out.2.2];exact ⟨rfl,HR.out.1,HR.out.2.1⟩
theorem vqc{ρ:Nat->Nat}{w:World}{p:Nat}{x:MS}(h:MM ρ w p x)(ok:Ok x)(hc:x.count<=40)(hne:x.la≠[])(hlb:x.lb.length<=16)(hqc:∀ b∈x.qc,b<256)(hla:x.la.length<=269)(hst:x.st=17) :
  Calls Tryz.prog 106 #[.pointer (some ⟨p,0,none⟩)] w fun v w'=>y0y ρ w p x.c17 v w':=by
 have H17:Hid (Cw ρ w p x w):=⟨h,ok,hc,hne,hlb,Fr.refl _ _ _⟩
 have Q17:=hqc;obtain ⟨gs,tl,td,c37,cg0,cg1,TL,TD,hgp⟩:=h.sets hne;have TLr:=TL.rng;have HTL:Hid (TabS ρ w 268 4 (fun i=>(litC i).toList) tl x.la):=TL;have A17:=hla;clear TL TD;have R17:Hid (x.c17=MS.symThen (x.sym x.la) fun y k=>if k<256 then ({ y with lit:=k,st:=16 },0) else if k=256 then y.endBlock else MS.c18 { y with least:=Tr.spanLeast 3 (k - 257),bits:=Tr.spanBits (k - 257),st:=18 }):=rfl;have c7:=h.cell7.1;rw [hst] at c7;clear h ok hst hc hne hlb hqc;go_enter Tryz.func106,Tryz.ntmps106
 go_wp2_with fail
 refine (z4b H17.out.mm H17.out.ok H17.out.cnt HTL.out).mono ?_;rintro v wa17 ⟨rfl,g1,g2⟩;have SF:=MS.sym_facts TLr H17.out.ok H17.out.cnt;have R':Hid (x.c17=if (x.sym x.la).2.1=0 then (if (x.sym x.la).2.2<256 then ({ (x.sym x.la).1 with lit:=(x.sym x.la).2.2,st:=16 },0) else if (x.sym x.la).2.2=256 then (x.sym x.la).1.endBlock else MS.c18 { (x.sym x.la).1 with least:=Tr.spanLeast 3 ((x.sym x.la).2.2 - 257),bits:=Tr.spanBits ((x.sym x.la).2.2 - 257),st:=18 }) else ((x.sym x.la).1,(x.sym x.la).2.1)):=R17.out;clear R17;by_cases h0:(x.sym x.la).2.1=0
 ·rw [if_pos h0] at R';rw [if_pos h0];obtain ⟨s1,s2,s3⟩:=SF.2 h0;have so:=SF.1;have hla:=A17;obtain ⟨z,t,k,hr⟩:∃ z t k,x.sym x.la=(z,t,k):=⟨_,_,_,rfl⟩
  rw [hr] at g1 R' s1 s2 s3 so h0 ⊢;have hk269:k<269:=by have:k<x.la.length:=s1;omega
  have h0':t=0:=h0;subst h0';by_cases hk:k<256
  ·have HC:Hid (litC k=#[.int .i64 0, .int .u8 k, .int .i64 0, .int .i64 0]):=by show litC k=_;unfold litC;rw [if_pos hk]
   have HG:Hid (x.c17=z.goLit k):=by show x.c17=_;rw [R'.out];rw [if_pos hk];exact (if_pos hk).symm
   have b1:Below wa17.heap.size wa17 (wa17.alloc (.cells #[.int .i64 0, .int .u8 k, .int .i64 0, .int .i64 0] 218)):=(Below.refl _ _).alloc (Nat.le_refl _) _;have HZ:Hid (MM ρ (wa17.alloc (.cells #[.int .i64 0, .int .u8 k, .int .i64 0, .int .i64 0] 218)) p z∧Ok z∧Fr (fun k=>1<=k∧k<=5) ρ w (wa17.alloc (.cells #[.int .i64 0, .int .u8 k, .int .i64 0, .int .i64 0] 218))):=⟨g1.below b1,so,(H17.out.fr.trans g2).trans (Fr.below b1)⟩
   have HGL:Hid (Calls Tryz.prog 148 #[.pointer (some ⟨p,0,none⟩), .agg #[.int .i64 0, .int .u8 k, .int .i64 0, .int .i64 0]] (wa17.alloc (.cells #[.int .i64 0, .int .u8 k, .int .i64 0, .int .i64 0] 218)) fun v w'=>y0y ρ (wa17.alloc (.cells #[.int .i64 0, .int .u8 k, .int .i64 0, .int .i64 0] 218)) p (z.goLit k) v w'):=by
    have:=xo6 k HZ.out.1 HZ.out.2.1 (by have:z.count<=40:=s2;omega) (by omega);rw [HC.out] at this;exact this
   rw [HC.out];clear g1 g2 hr s3 so SF h0 R' b1;go_wp2_with fail
   refine HGL.out.mono ?_;rintro v w9 ⟨rfl,g3,g4⟩;have HR2:Hid (MM ρ w9 p (z.goLit k).1∧Fr (fun k=>1<=k∧k<=5) ρ w w9):=⟨g3,HZ.out.2.2.trans g4⟩
   clear g3 g4;obtain ⟨GG,hGG⟩:∃ GG,GG=z.goLit k:=⟨_,rfl⟩
   rw [← hGG] at HR2 HG ⊢;clear hGG HGL;go_wp2_with fail
   go_ret
   unfold y0y;rw [HG.out];exact ⟨rfl,HR2.out⟩
  ·by_cases hk6:k=256
   ·have HC:Hid (litC k=#[.int .i64 1, .int .u8 0, .int .i64 0, .int .i64 0]):=by show litC k=_;unfold litC;rw [if_neg hk,if_pos hk6]
    have HG:Hid (x.c17=z.goLit k):=by show x.c17=_;rw [R'.out];rw [if_neg hk,if_pos hk6];exact (if_neg hk).symm
    have b1:Below wa17.heap.size wa17 (wa17.alloc (.cells #[.int .i64 1, .int .u8 0, .int .i64 0, .int .i64 0] 218)):=(Below.refl _ _).alloc (Nat.le_refl _) _;have HZ:Hid (MM ρ (wa17.alloc (.cells #[.int .i64 1, .int .u8 0, .int .i64 0, .int .i64 0] 218)) p z∧Ok z∧Fr (fun k=>1<=k∧k<=5) ρ w (wa17.alloc (.cells #[.int .i64 1, .int .u8 0, .int .i64 0, .int .i64 0] 218))):=⟨g1.below b1,so,(H17.out.fr.trans g2).trans (Fr.below b1)⟩
    have HGL:Hid (Calls Tryz.prog 148 #[.pointer (some ⟨p,0,none⟩), .agg #[.int .i64 1, .int .u8 0, .int .i64 0, .int .i64 0]] (wa17.alloc (.cells #[.int .i64 1, .int .u8 0, .int .i64 0, .int .i64 0] 218)) fun v w'=>y0y ρ (wa17.alloc (.cells #[.int .i64 1, .int .u8 0, .int .i64 0, .int .i64 0] 218)) p (z.goLit k) v w'):=by
     have:=xo6 k HZ.out.1 HZ.out.2.1 (by have:z.count<=40:=s2;omega) (by omega);rw [HC.out] at this;exact this
    rw [HC.out];clear g1 g2 hr s3 so SF h0 R' b1;go_wp2_with fail
    refine HGL.out.mono ?_;rintro v w9 ⟨rfl,g3,g4⟩;have HR2:Hid (MM ρ w9 p (z.goLit k).1∧Fr (fun k=>1<=k∧k<=5) ρ w w9):=⟨g3,HZ.out.2.2.trans g4⟩
    clear g3 g4;obtain ⟨GG,hGG⟩:∃ GG,GG=z.goLit k:=⟨_,rfl⟩
    rw [← hGG] at HR2 HG ⊢;clear hGG HGL;go_wp2_with fail
    go_ret
    unfold y0y;rw [HG.out];exact ⟨rfl,HR2.out⟩
   ·have HC:Hid (litC k=#[.int .i64 2, .int .u8 0, .int .i64 (Tr.spanLeast 3 (k - 257)), .int .i64 (Tr.spanBits (k - 257))]):=by show litC k=_;unfold litC;rw [if_neg hk,if_neg hk6]
    rw [if_neg hk,if_neg hk6] at R';have sd:=zj7 (j:=k - 257) (by omega);have hza:z.la=x.la:=by have:z=_:=s3;rw [this]
    have hzb:z.lb=x.lb:=by have:z=_:=s3;rw [this]
    have hzq:z.qc=x.qc:=by have:z=_:=s3;rw [this]
    have b1:Below wa17.heap.size wa17 (wa17.alloc (.cells #[.int .i64 2, .int .u8 0, .int .i64 (Tr.spanLeast 3 (k - 257)), .int .i64 (Tr.spanBits (k - 257))] 218)):=(Below.refl _ _).alloc (Nat.le_refl _) _;have HZ:Hid (MM ρ (wa17.alloc (.cells #[.int .i64 2, .int .u8 0, .int .i64 (Tr.spanLeast 3 (k - 257)), .int .i64 (Tr.spanBits (k - 257))] 218)) p z∧Ok z∧Fr (fun k=>1<=k∧k<=5) ρ w (wa17.alloc (.cells #[.int .i64 2, .int .u8 0, .int .i64 (Tr.spanLeast 3 (k - 257)), .int .i64 (Tr.spanBits (k - 257))] 218))):=⟨g1.below b1,so,(H17.out.fr.trans g2).trans (Fr.below b1)⟩
    have a39:=HZ.out.1.cellI.2.2.1;have z39:=HZ.out.1.cellI.2.2.2.1;have a40:=HZ.out.1.cellI.2.2.2.2.1;have z40:=HZ.out.1.cellI.2.2.2.2.2.1;have k7:=HZ.out.1.cell7.1;have z7:=HZ.out.1.cell7.2;have q0:(wa17.alloc (.cells #[.int .i64 2, .int .u8 0, .int .i64 (Tr.spanLeast 3 (k - 257)), .int .i64 (Tr.spanBits (k - 257))] 218)).cell? ⟨wa17.heap.size,0,none⟩=some (.int .i64 2):=by simp
    have q2:(wa17.alloc (.cells #[.int .i64 2, .int .u8 0, .int .i64 (Tr.spanLeast 3 (k - 257)), .int .i64 (Tr.spanBits (k - 257))] 218)).cell? ⟨wa17.heap.size,2,none⟩=some (.int .i64 (Tr.spanLeast 3 (k - 257))):=by simp
    have q3:(wa17.alloc (.cells #[.int .i64 2, .int .u8 0, .int .i64 (Tr.spanLeast 3 (k - 257)), .int .i64 (Tr.spanBits (k - 257))] 218)).cell? ⟨wa17.heap.size,3,none⟩=some (.int .i64 (Tr.spanBits (k - 257))):=by simp
    have HA:=HZ.out.1.span (Tr.spanLeast 3 (k - 257)) (Tr.spanBits (k - 257));have HB:=HA.1.st 18;obtain ⟨y18,hy18⟩:∃ y18:MS,y18={ z with least:=Tr.spanLeast 3 (k - 257),bits:=Tr.spanBits (k - 257),st:=18 }:=⟨_,rfl⟩
    obtain ⟨WW18,hW⟩:∃ W,W=(((wa17.alloc (.cells #[.int .i64 2, .int .u8 0, .int .i64 (Tr.spanLeast 3 (k - 257)), .int .i64 (Tr.spanBits (k - 257))] 218)).setCell ⟨p,39,none⟩ (.int .i64 (Tr.spanLeast 3 (k - 257)))).setCell ⟨p,40,none⟩ (.int .i64 (Tr.spanBits (k - 257)))).setCell ⟨p,7,none⟩ (.int .i64 18):=⟨_,rfl⟩
    have H18:Hid (Cw ρ w p y18 WW18):=by
     show Cw ρ w p y18 WW18;rw [hW,hy18];exact ⟨HB.1,{ HZ.out.2.1 with },s2,by show z.la≠[];rw [hza];exact H17.out.ne,by show z.lb.length<=16;rw [hzb];exact H17.out.lb,(HZ.out.2.2.trans HA.2).trans HB.2⟩
    have B18:y18.bits<=16∧y18.least<=1000000∧y18.least+2^y18.bits<=65535:=by
     rw [hy18];show Tr.spanBits (k - 257)<=16∧Tr.spanLeast 3 (k - 257)<=1000000∧Tr.spanLeast 3 (k - 257)+2^Tr.spanBits (k - 257)<=65535;have:=Nat.two_pow_pos (Tr.spanBits (k - 257));omega
    have Q18:∀ b∈y18.qc,b<256:=by rw [hy18];show ∀ b∈z.qc,b<256;rw [hzq];exact Q17
    have R18:Hid (x.c17=MS.c18 y18):=by show x.c17=_;rw [hy18];exact R'.out
    have HW18:Hid (WW18=(((wa17.alloc (.cells #[.int .i64 2, .int .u8 0, .int .i64 (Tr.spanLeast 3 (k - 257)), .int .i64 (Tr.spanBits (k - 257))] 218)).setCell ⟨p,39,none⟩ (.int .i64 (Tr.spanLeast 3 (k - 257)))).setCell ⟨p,40,none⟩ (.int .i64 (Tr.spanBits (k - 257)))).setCell ⟨p,7,none⟩ (.int .i64 18)):=hW;rw [HC.out];have hv3:Tr.spanLeast 3 (k - 257)=y18.least:=by rw [hy18]
    have hv4:Tr.spanBits (k - 257)=y18.bits:=by rw [hy18]
    rw [hv3,hv4] at HW18 a39 z39 a40 z40 k7 z7 q0 q2 q3 ⊢;clear g1 g2 hr s3 so SF h0 hza hzb hzq HA HB hy18 hW b1 sd R' hk hk6 HZ HC s1 hk269 hv3 hv4;go_wp2_with fail
    rw [← HW18.out];clear a39 z39 a40 z40 k7 z7 q0 q2 q3 HW18;have hbl:=B18;refine (xh4 y18.least y18.bits H18.out.mm H18.out.ok H18.out.cnt hbl.1 hbl.2.1).mono ?_;rintro v wa18 ⟨rfl,g1,g2⟩;have SF:=MS.spanR_facts (least:=y18.least) H18.out.ok H18.out.cnt hbl.1;have R':Hid (x.c17=if (y18.spanR y18.least y18.bits).2.1=0 then MS.c19 { (y18.spanR y18.least y18.bits).1 with left:=(y18.spanR y18.least y18.bits).2.2,st:=19 } else ((y18.spanR y18.least y18.bits).1,(y18.spanR y18.least y18.bits).2.1)):=R18.out;clear R18;by_cases h0:(y18.spanR y18.least y18.bits).2.1=0
    ·rw [if_pos h0] at R';obtain ⟨s1,s2,s3,s4⟩:=SF.2 h0;have so:=SF.1;have hD:(y18.spanR y18.least y18.bits).2.2<=65535:=by have:=hbl.2.2;omega
     obtain ⟨z,t,D,hr⟩:∃ z t D,y18.spanR y18.least y18.bits=(z,t,D):=⟨_,_,_,rfl⟩
     rw [hr] at g1 R' s1 s4 so hD h0 ⊢;have h0':t=0:=h0;subst h0';have hza:z.la=y18.la:=by have:z=_:=s4;rw [this]
     have hzb:z.lb=y18.lb:=by have:z=_:=s4;rw [this]
     have hzq:z.qc=y18.qc:=by have:z=_:=s4;rw [this]
     have HZ:Hid (MM ρ wa18 p z∧Ok z∧Fr (fun k=>1<=k∧k<=5) ρ w wa18):=⟨g1,so,H18.out.fr.trans g2⟩
     have a25:=g1.cell25.1;have z25:=g1.cell25.2;have k7:=g1.cell7.1;have z7:=g1.cell7.2;have HA:=g1.left D;have HB:=HA.1.st 19;obtain ⟨y19,hy19⟩:∃ y19:MS,y19={ z with left:=D,st:=19 }:=⟨_,rfl⟩
     obtain ⟨WW19,hW⟩:∃ W,W=(wa18.setCell ⟨p,25,none⟩ (.int .i64 D)).setCell ⟨p,7,none⟩ (.int .i64 19):=⟨_,rfl⟩
     have H19:Hid (Cw ρ w p y19 WW19):=by
      show Cw ρ w p y19 WW19;rw [hW,hy19];exact ⟨HB.1,{ HZ.out.2.1 with },s1,by show z.la≠[];rw [hza];exact H18.out.ne,by show z.lb.length<=16;rw [hzb];exact H18.out.lb,(HZ.out.2.2.trans HA.2).trans HB.2⟩
     have Q19:∀ b∈y19.qc,b<256:=by rw [hy19];show ∀ b∈z.qc,b<256;rw [hzq];exact Q18
     have L19:y19.left<=65535:=by rw [hy19];exact hD
     have R19:Hid (x.c17=MS.c19 y19):=by show x.c17=_;rw [hy19];exact R'.out
     have HW19:Hid (WW19=(wa18.setCell ⟨p,25,none⟩ (.int .i64 D)).setCell ⟨p,7,none⟩ (.int .i64 19)):=hW;obtain ⟨gs,tl,td,c37,cg0,cg1,TL,TD,hgp⟩:=g1.sets (by rw [hza];exact H18.out.ne);have TDr:inRange y19.lb=true:=by rw [hy19];exact TD.rng
     have HTD:Hid (TabS ρ WW19 271 2 (fun i=>(vtb 1 i).toList) td y19.lb):=by
      show TabS _ _ _ _ _ _ _;rw [hW,hy19];exact TD.fr (HA.2.trans HB.2).kp (by decide)
     clear g1 g2 hr s4 so SF h0 hza hzb hzq HA HB hy19 hW s1 s2 s3 R' TL TD;go_wp2_with fail
     rw [← HW19.out];clear HZ a25 z25 k7 z7 HW19 hD;refine (kdd H19.out.mm H19.out.ok H19.out.cnt HTD.out).mono ?_;rintro v wa19 ⟨rfl,g1,g2⟩;have SF:=MS.sym_facts TDr H19.out.ok H19.out.cnt;have R':Hid (x.c17=if (y19.sym y19.lb).2.1=0 then MS.c20 { (y19.sym y19.lb).1 with least:=Tr.spanLeast 1 (y19.sym y19.lb).2.2,bits:=Tr.spanBits (y19.sym y19.lb).2.2,st:=20 } else ((y19.sym y19.lb).1,(y19.sym y19.lb).2.1)):=R19.out;clear R19;by_cases h0:(y19.sym y19.lb).2.1=0
     ·rw [if_pos h0] at R';rw [if_pos h0];obtain ⟨s1,s2,s3⟩:=SF.2 h0;have so:=SF.1;have hlb:=H19.out.lb;have sd:=k8m (k:=(y19.sym y19.lb).2.2) (by omega);obtain ⟨z,t,k,hr⟩:∃ z t k,y19.sym y19.lb=(z,t,k):=⟨_,_,_,rfl⟩
      rw [hr] at g1 R' s2 s3 so sd h0 ⊢;have h0':t=0:=h0;subst h0';have hza:z.la=y19.la:=by have:z=_:=s3;rw [this]
      have hzb:z.lb=y19.lb:=by have:z=_:=s3;rw [this]
      have hzl:z.left=y19.left:=by have:z=_:=s3;rw [this]
      have hzq:z.qc=y19.qc:=by have:z=_:=s3;rw [this]
      have b1:Below wa19.heap.size wa19 (wa19.alloc (.cells #[.int .i64 (Tr.spanLeast 1 k), .int .i64 (Tr.spanBits k)] 125)):=(Below.refl _ _).alloc (Nat.le_refl _) _;have HZ:Hid (MM ρ (wa19.alloc (.cells #[.int .i64 (Tr.spanLeast 1 k), .int .i64 (Tr.spanBits k)] 125)) p z∧Ok z∧Fr (fun k=>1<=k∧k<=5) ρ w (wa19.alloc (.cells #[.int .i64 (Tr.spanLeast 1 k), .int .i64 (Tr.spanBits k)] 125))):=⟨g1.below b1,so,(H19.out.fr.trans g2).trans (Fr.below b1)⟩
      have a39:=HZ.out.1.cellI.2.2.1;have z39:=HZ.out.1.cellI.2.2.2.1;have a40:=HZ.out.1.cellI.2.2.2.2.1;have z40:=HZ.out.1.cellI.2.2.2.2.2.1;have k7:=HZ.out.1.cell7.1;have z7:=HZ.out.1.cell7.2;have q0:(wa19.alloc (.cells #[.int .i64 (Tr.spanLeast 1 k), .int .i64 (Tr.spanBits k)] 125)).cell? ⟨wa19.heap.size,0,none⟩=some (.int .i64 (Tr.spanLeast 1 k)):=by simp
      have q1:(wa19.alloc (.cells #[.int .i64 (Tr.spanLeast 1 k), .int .i64 (Tr.spanBits k)] 125)).cell? ⟨wa19.heap.size,1,none⟩=some (.int .i64 (Tr.spanBits k)):=by simp
      have HA:=HZ.out.1.span (Tr.spanLeast 1 k) (Tr.spanBits k);have HB:=HA.1.st 20;obtain ⟨y20,hy20⟩:∃ y20:MS,y20={ z with least:=Tr.spanLeast 1 k,bits:=Tr.spanBits k,st:=20 }:=⟨_,rfl⟩
      obtain ⟨WW20,hW⟩:∃ W,W=(((wa19.alloc (.cells #[.int .i64 (Tr.spanLeast 1 k), .int .i64 (Tr.spanBits k)] 125)).setCell ⟨p,39,none⟩ (.int .i64 (Tr.spanLeast 1 k))).setCell ⟨p,40,none⟩ (.int .i64 (Tr.spanBits k))).setCell ⟨p,7,none⟩ (.int .i64 20):=⟨_,rfl⟩
      have H20:Hid (Cw ρ w p y20 WW20):=by
       show Cw ρ w p y20 WW20;rw [hW,hy20];exact ⟨HB.1,{ HZ.out.2.1 with },s2,by show z.la≠[];rw [hza];exact H19.out.ne,by show z.lb.length<=16;rw [hzb];exact H19.out.lb,(HZ.out.2.2.trans HA.2).trans HB.2⟩
      have B20:y20.bits<=16∧y20.least<=1000000∧1<=y20.least:=by rw [hy20];exact sd
      have Q20:∀ b∈y20.qc,b<256:=by rw [hy20];show ∀ b∈z.qc,b<256;rw [hzq];exact Q19
      have L20:y20.left<=65535:=by rw [hy20];show z.left<=65535;rw [hzl];exact L19
      have R20:Hid (x.c17=MS.c20 y20):=by show x.c17=_;rw [hy20];exact R'.out
      have HW20:Hid (WW20=(((wa19.alloc (.cells #[.int .i64 (Tr.spanLeast 1 k), .int .i64 (Tr.spanBits k)] 125)).setCell ⟨p,39,none⟩ (.int .i64 (Tr.spanLeast 1 k))).setCell ⟨p,40,none⟩ (.int .i64 (Tr.spanBits k))).setCell ⟨p,7,none⟩ (.int .i64 20)):=hW;have hE3:Tr.spanLeast 1 k=y20.least:=by rw [hy20]
      have hE4:Tr.spanBits k=y20.bits:=by rw [hy20]
      unfold vtb;clear g1 g2 hr s3 so SF h0 hza hzb hzl hzq HA HB hy20 hW b1 sd R' HZ;rw [hE3,hE4] at HW20 a39 z39 a40 z40 k7 z7 q0 q1 ⊢;clear hE3 hE4;go_wp2_with fail
      rw [← HW20.out];clear a39 z39 a40 z40 k7 z7 q0 q1 HW20;have hbl:=B20;refine (xh4 y20.least y20.bits H20.out.mm H20.out.ok H20.out.cnt hbl.1 hbl.2.1).mono ?_;rintro v wa20 ⟨rfl,g1,g2⟩;have SF:=MS.spanR_facts (least:=y20.least) H20.out.ok H20.out.cnt hbl.1;have R':Hid (x.c17=if (y20.spanR y20.least y20.bits).2.1=0 then (if (y20.spanR y20.least y20.bits).1.qc.length<(y20.spanR y20.least y20.bits).2.2 then (y20.spanR y20.least y20.bits).1.refuse 11 else MS.c21 { (y20.spanR y20.least y20.bits).1 with dist:=(y20.spanR y20.least y20.bits).2.2,st:=21 }) else ((y20.spanR y20.least y20.bits).1,(y20.spanR y20.least y20.bits).2.1)):=R20.out;clear R20;by_cases h0:(y20.spanR y20.least y20.bits).2.1=0
      ·rw [if_pos h0] at R';obtain ⟨s1,s2,s3,s4⟩:=SF.2 h0;have so:=SF.1;have hD:(y20.spanR y20.least y20.bits).2.2<=2000000∧1<=(y20.spanR y20.least y20.bits).2.2:=by
        have:2^y20.bits<=2^16:=Nat.pow_le_pow_right (by decide) hbl.1;have e:2^16=65536:=by decide
        have:=hbl.2.2;omega
       obtain ⟨z,t,D,hr⟩:∃ z t D,y20.spanR y20.least y20.bits=(z,t,D):=⟨_,_,_,rfl⟩
       rw [hr] at g1 R' s1 s4 so hD h0 ⊢;have h0':t=0:=h0;subst h0';have hzl:z.left=y20.left:=by have:z=_:=s4;rw [this]
       have hzq:z.qc=y20.qc:=by have:z=_:=s4;rw [this]
       have HZ:Hid (MM ρ wa20 p z∧Ok z∧Fr (fun k=>1<=k∧k<=5) ρ w wa20):=⟨g1,so,H20.out.fr.trans g2⟩
       obtain ⟨cw,c17,HLEN0,_,_⟩:=g1.win;have HLEN:Hid (Calls Tryz.prog 57 #[.pointer (some ⟨cw,0,none⟩)] wa20 fun v w'=>v= .returned (.int .i64 z.qc.length)∧wa20=w'):=HLEN0;have c41:=g1.cellI.2.2.2.2.2.2.1;have z41:=g1.cellI.2.2.2.2.2.2.2;have hq256:z.qc.length<=256:=by obtain ⟨L,B,T⟩:=g1;exact B.rc'
       have HQB:Hid (∀ b∈z.qc,b<256):=by show ∀ b∈z.qc,b<256;rw [hzq];exact Q20
       have hleft:z.left<=65535:=by rw [hzl];exact L20
       clear g1 g2 hr s4 so SF HLEN0 h0 s1 s2 s3 hzl hzq;go_wp2_with fail
       refine HLEN.out.mono ?_;rintro v w' ⟨rfl,rfl⟩;obtain ⟨N,hN⟩:∃ N,N=z.qc.length:=⟨_,rfl⟩
       rw [← hN] at hq256 R' ⊢;have HN:Hid (N=z.qc.length):=hN;clear hN;by_cases hd:N<D
       ·rw [if_pos hd] at R';have hdi:(N:Int)<D:=by omega
        go_wp2_with fail
        refine (kv8 11 HZ.out.1).mono ?_;rintro v w4 ⟨rfl,g3,g4⟩;have HR2:Hid (MM ρ w4 p (z.refuse 11).1∧Fr (fun k=>1<=k∧k<=5) ρ w w4):=⟨g3,HZ.out.2.2.trans g4⟩
        clear g3 g4;go_wp2_with fail
        go_ret
        unfold y0y;rw [R'.out];exact ⟨rfl,HR2.out⟩
       ·rw [if_neg hd] at R';have hdi:¬ (N:Int)<D:=by omega
        have H1:=HZ.out.1.dist D;have H2:=H1.1.st 21;have k7:=HZ.out.1.cell7.1;have z7:=HZ.out.1.cell7.2;obtain ⟨R,hR⟩:∃ R,R=MS.c21 { z with dist:=D,st:=21 }:=⟨_,rfl⟩
        have H0:Hid (∃ y,Kw ρ w p y R ((wa20.setCell ⟨p,41,none⟩ (.int .i64 D)).setCell ⟨p,7,none⟩ (.int .i64 21))):=⟨{ z with dist:=D,st:=21 },H2.1,{ HZ.out.2.1 with },hR.symm,hleft,hD.2,by show D<=z.qc.length;rw [← HN.out];omega,HQB.out,(HZ.out.2.2.trans H1.2).trans H2.2⟩
        have HF:Hid (x.c17=R):=by show x.c17=R;rw [hR];exact R'.out
        clear H1 H2 hR R' HZ hd HLEN;go_wp2_with fail
        clear hdi;generalize decide (N<D)=dd;go_loopw [] (fun wr=>Hid (∃ y,Kw ρ w p y R wr)) (fun wr=>xq0 wr p 25)
        case atStart=>exact H0
        case round=>
         clear H0;obtain ⟨y,Y⟩:=hrel.out;have c25:=Y.mm.cell25.1;have e25:=xv1 c25;have hl:=Y.left;have HY:Hid (Kw ρ w p y R wr):=Y;by_cases hz:y.left=0
         ·have HZ:Hid (R=({ y with st:=17 },0)):=by show R=_;rw [← HY.out.eq,MS.copy_zero hz]
          rw [hz] at c25;have k7:=Y.mm.cell7.1;have z7:=Y.mm.cell7.2;have H17:Hid (MM ρ (wr.setCell ⟨p,7,none⟩ (.int .i64 17)) p { y with st:=17 }∧Fr (fun k=>1<=k∧k<=5) ρ wr (wr.setCell ⟨p,7,none⟩ (.int .i64 17))):=Y.mm.st 17;clear hz Y hrel;go_wp2_with fail
          go_ret
          unfold y0y;rw [HF.out,HZ.out];exact ⟨rfl,H17.out.1,HY.out.fr.trans H17.out.2⟩
         ·obtain ⟨n,hn⟩:∃ n,y.left=n+1:=⟨y.left - 1,by omega⟩
          have HS:Hid (R=if (y.put (y.qc.getD (y.qc.length - y.dist) 0)).2=0 then MS.copyL n { (y.put (y.qc.getD (y.qc.length - y.dist) 0)).1 with left:=n } else y.put (y.qc.getD (y.qc.length - y.dist) 0)):=by show R=_;rw [← HY.out.eq,MS.copy_succ hn]
          have hpos:(0:Int)<y.left:=by omega
          have hb:y.qc.getD (y.qc.length - y.dist) 0<256:=getD_lt Y.qb _;obtain ⟨cw,c17,_,HBK0,_⟩:=Y.mm.win;have HBK:Hid (∀ n,Calls Tryz.prog 150 #[.pointer (some ⟨cw,0,none⟩), .int .i64 y.dist] (wr.drewN n) fun v w'=>v= .returned (.int .u8 (y.qc.getD (y.qc.length - y.dist) 0:Nat))∧∃ m,w'=(wr.drewN n).drewN m):=fun n=>HBK0 n y.dist Y.d1 Y.d2
          have c41:=Y.mm.cellI.2.2.2.2.2.2.1;obtain ⟨b,hbE⟩:∃ b,b=y.qc.getD (y.qc.length - y.dist) 0:=⟨_,rfl⟩
          rw [← hbE] at HS hb HBK;clear hbE HBK0;have HPF:=MS.put_facts Y.ok b;have hq256:y.qc.length<=256:=by obtain ⟨L,B,T⟩:=Y.mm;exact B.rc'
          obtain ⟨P,hP⟩:∃ P,P=y.put b:=⟨_,rfl⟩
          have HPT:Hid (∀ wq,MM ρ wq p y->Calls Tryz.prog 137 #[.pointer (some ⟨p,0,none⟩), .int .u8 b] wq fun v w'=>y0y ρ wq p P v w'):=fun wq m=>by rw [hP];exact mPut b m HY.out.ok hb
          rw [← hP] at HS HPF;have HPF':Hid (Ok P.1∧(P.2=0->P.1=y.putted b)):=HPF;clear hP HPF hz Y hrel;by_cases h1:P.2=0
          ·have hPe:=HPF'.out.2 h1;rw [if_pos h1] at HS;have hPl:P.1.left=n+1:=by rw [hPe];exact hn
           have HPD:Hid (1<=P.1.dist∧P.1.dist<=P.1.qc.length∧∀ b∈P.1.qc,b<256):=by
            show _∧_∧_;rw [hPe];refine ⟨HY.out.d1,?_,vso HY.out.qb hb⟩;have:=xsr y.qc b hq256;have h3:=HY.out.d2;show y.dist<=(MS.pushed y.qc b).length;omega
           obtain ⟨Q,t,hQ⟩:∃ Q t,P=(Q,t):=⟨_,_,rfl⟩
           rw [hQ] at HS HPF' HPT hPl HPD h1;clear hQ hPe;have h1':t=0:=h1;subst h1';clear h1;go_wp2_with fail
           go_region_with (first
            | (go_at_call 150;refine (HBK.out 1).mono ?_;rintro e w2 ⟨rfl,m2,hw2⟩;have H2:Hid (MM ρ w2 p y∧Fr (fun k=>1<=k∧k<=5) ρ w w2):=by { show _∧_;rw [hw2];exact ⟨(HY.out.mm.drewN 1).drewN m2,(HY.out.fr.drewN 1).drewN m2⟩ };clear hw2)
            | (go_at_call 137;refine (HPT.out _ H2.out.1).mono ?_;rintro e w3 ⟨rfl,g1,g2⟩;have H3:Hid (MM ρ w3 p Q∧Fr (fun k=>1<=k∧k<=5) ρ w w3):=⟨g1,H2.out.2.trans g2⟩;clear g1 g2))
           all_goals
            have d25:w3.cell? ⟨p,25,none⟩=some (.int .i64 (n+1:Nat)):=by rw [← hPl];exact H3.out.1.cell25.1
            have z25:=H3.out.1.cell25.2;have HL:=H3.out.1.left n;have HN:Hid (∃ y,Kw ρ w p y R (w3.setCell ⟨p,25,none⟩ (.int .i64 n))):=⟨{ Q with left:=n },HL.1,{ HPF'.out.1 with },HS.out.symm,by show n<=65535;omega,HPD.out.1,HPD.out.2.1,HPD.out.2.2,H3.out.2.trans HL.2⟩
            have eN:xq0 (w3.setCell ⟨p,25,none⟩ (.int .i64 n)) p 25=n:=xv1 HL.1.cell25.1;have hn1:((n+1:Nat):Int) - 1=(n:Int):=by omega
            clear HL;go_wp2_with fail
            go_roundw
            case rel=>exact HN
            case measure=>rw [e25,eN];omega
          ·rw [if_neg h1] at HS;obtain ⟨Q,t,hQ⟩:∃ Q t,P=(Q,t):=⟨_,_,rfl⟩
           rw [hQ] at HS HPF' HPT h1;clear hQ;have h1':¬ t=0:=h1;have h0':((t:Int)==0)=false:=by simp;exact h1'
           clear h1;go_wp2_with fail
           go_region_with (first
            | (go_at_call 150;refine (HBK.out 1).mono ?_;rintro e w2 ⟨rfl,m2,hw2⟩;have H2:Hid (MM ρ w2 p y∧Fr (fun k=>1<=k∧k<=5) ρ w w2):=by { show _∧_;rw [hw2];exact ⟨(HY.out.mm.drewN 1).drewN m2,(HY.out.fr.drewN 1).drewN m2⟩ };clear hw2)
            | (go_at_call 137;refine (HPT.out _ H2.out.1).mono ?_;rintro e w3 ⟨rfl,g1,g2⟩;have H3:Hid (MM ρ w3 p Q∧Fr (fun k=>1<=k∧k<=5) ρ w w3):=⟨g1,H2.out.2.trans g2⟩;clear g1 g2))
           all_goals
            go_wp2_with fail
            go_ret
            unfold y0y;rw [HF.out,HS.out];exact ⟨rfl,H3.out⟩
      ·rw [if_neg h0] at R';obtain ⟨e,he⟩:∃ e,e=(y20.spanR y20.least y20.bits).2.1:=⟨_,rfl⟩
       have HR:Hid (MM ρ wa20 p (y20.spanR y20.least y20.bits).1∧Fr (fun k=>1<=k∧k<=5) ρ w wa20∧(y20.spanR y20.least y20.bits).2.1=e):=⟨g1,H20.out.fr.trans g2,he.symm⟩
       rw [← he] at h0 ⊢;have h0':((e:Int)==0)=false:=by simp;exact h0
       clear g1 g2 he;go_wp2_with fail
       go_ret
       unfold y0y;rw [R'.out,HR.out.2.2];exact ⟨rfl,HR.out.1,HR.out.2.1⟩
     ·rw [if_neg h0] at R';rw [if_neg h0];obtain ⟨e,he⟩:∃ e,e=(y19.sym y19.lb).2.1:=⟨_,rfl⟩
      have b1:Below wa19.heap.size wa19 (wa19.alloc (.cells #[.int .i64 0, .int .i64 0] 125)):=(Below.refl _ _).alloc (Nat.le_refl _) _;have HR:Hid (MM ρ (wa19.alloc (.cells #[.int .i64 0, .int .i64 0] 125)) p (y19.sym y19.lb).1∧Fr (fun k=>1<=k∧k<=5) ρ w (wa19.alloc (.cells #[.int .i64 0, .int .i64 0] 125))∧(y19.sym y19.lb).2.1=e):=⟨g1.below b1,(H19.out.fr.trans g2).trans (Fr.below b1),he.symm⟩
      rw [← he] at h0 ⊢;have h0':((e:Int)==0)=false:=by simp;exact h0
      clear g1 g2 he b1;go_wp2_with fail
      go_ret
      unfold y0y;rw [R'.out,HR.out.2.2];exact ⟨rfl,HR.out.1,HR.out.2.1⟩
    ·rw [if_neg h0] at R';obtain ⟨e,he⟩:∃ e,e=(y18.spanR y18.least y18.bits).2.1:=⟨_,rfl⟩
     have HR:Hid (MM ρ wa18 p (y18.spanR y18.least y18.bits).1∧Fr (fun k=>1<=k∧k<=5) ρ w wa18∧(y18.spanR y18.least y18.bits).2.1=e):=⟨g1,H18.out.fr.trans g2,he.symm⟩
     rw [← he] at h0 ⊢;have h0':((e:Int)==0)=false:=by simp;exact h0
     clear g1 g2 he;go_wp2_with fail
     go_ret
     unfold y0y;rw [R'.out,HR.out.2.2];exact ⟨rfl,HR.out.1,HR.out.2.1⟩
 ·rw [if_neg h0] at R';rw [if_neg h0];obtain ⟨e,he⟩:∃ e,e=(x.sym x.la).2.1:=⟨_,rfl⟩
  have b1:Below wa17.heap.size wa17 (wa17.alloc (.cells #[.int .i64 0, .int .u8 0, .int .i64 0, .int .i64 0] 218)):=(Below.refl _ _).alloc (Nat.le_refl _) _;have HR:Hid (MM ρ (wa17.alloc (.cells #[.int .i64 0, .int .u8 0, .int .i64 0, .int .i64 0] 218)) p (x.sym x.la).1∧Fr (fun k=>1<=k∧k<=5) ρ w (wa17.alloc (.cells #[.int .i64 0, .int .u8 0, .int .i64 0, .int .i64 0] 218))∧(x.sym x.la).2.1=e):=⟨g1.below b1,(H17.out.fr.trans g2).trans (Fr.below b1),he.symm⟩
  rw [← he] at h0 ⊢;have h0':((e:Int)==0)=false:=by simp;exact h0
  clear g1 g2 he b1;go_wp2_with fail
  go_ret
  unfold y0y;rw [R'.out,HR.out.2.2];exact ⟨rfl,HR.out.1,HR.out.2.1⟩
theorem xoi{ρ:Nat->Nat}{w:World}{p:Nat}{x:MS}(h:MM ρ w p x)(ok:Ok x)(hc:x.count<=40)(hne:x.la≠[])(hlb:x.lb.length<=16)(hqc:∀ b∈x.qc,b<256)(hla:x.la.length<=269)(hlit:x.lit<256)(hst:x.st=16) :
  Calls Tryz.prog 106 #[.pointer (some ⟨p,0,none⟩)] w fun v w'=>y0y ρ w p x.c16 v w':=by
 have H16:Hid (Cw ρ w p x w):=⟨h,ok,hc,hne,hlb,Fr.refl _ _ _⟩
 have Q16:=hqc;have c38:=h.cellI.1;have A16:=hla;have L16:=hlit;have R16:Hid (x.c16=MS.andThen (x.put x.lit) fun y=>MS.c17 { y with st:=17 }):=rfl;have c7:=h.cell7.1;rw [hst] at c7;clear h ok hst hc hne hlb hqc;go_enter Tryz.func106,Tryz.ntmps106
 go_wp2_with fail
 refine (mPut x.lit H16.out.mm H16.out.ok L16).mono ?_;rintro v wa16 ⟨rfl,g1,g2⟩;have PF:=MS.put_facts H16.out.ok x.lit;have hq256:x.qc.length<=256:=by obtain ⟨L,B,T⟩:=H16.out.mm;exact B.rc'
 have R':Hid (x.c16=if (x.put x.lit).2=0 then MS.c17 { (x.put x.lit).1 with st:=17 } else x.put x.lit):=R16.out;clear R16;by_cases h0:(x.put x.lit).2=0
 ·rw [if_pos h0] at R';have hPe:=PF.2 h0;have so:=PF.1;rw [h0];obtain ⟨z,hz⟩:∃ z,z=(x.put x.lit).1:=⟨_,rfl⟩
  rw [← hz] at g1 R' hPe so;have hza:z.la=x.la:=by rw [hPe];rfl
  have hzb:z.lb=x.lb:=by rw [hPe];rfl
  have hzc:z.count=x.count:=by rw [hPe];rfl
  have hzq:z.qc=MS.pushed x.qc x.lit:=by rw [hPe];rfl
  have k7:=g1.cell7.1;have z7:=g1.cell7.2;have HB:=g1.st 17;obtain ⟨y17,hy17⟩:∃ y17:MS,y17={ z with st:=17 }:=⟨_,rfl⟩
  obtain ⟨WW17,hW⟩:∃ W,W=wa16.setCell ⟨p,7,none⟩ (.int .i64 17):=⟨_,rfl⟩
  have H17:Hid (Cw ρ w p y17 WW17):=by
   show Cw ρ w p y17 WW17;rw [hW,hy17];exact ⟨HB.1,so.st 17,by show z.count<=40;rw [hzc];exact H16.out.cnt,by show z.la≠[];rw [hza];exact H16.out.ne,by show z.lb.length<=16;rw [hzb];exact H16.out.lb,(H16.out.fr.trans g2).trans HB.2⟩
  have Q17:∀ b∈y17.qc,b<256:=by rw [hy17];show ∀ b∈z.qc,b<256;rw [hzq];exact vso Q16 L16
  have A17:y17.la.length<=269:=by rw [hy17];show z.la.length<=269;rw [hza];exact A16
  have R17:Hid (x.c16=MS.c17 y17):=by show x.c16=_;rw [hy17];exact R'.out
  have HW17:Hid (WW17=wa16.setCell ⟨p,7,none⟩ (.int .i64 17)):=hW;obtain ⟨gs,tl,td,c37,cg0,cg1,TL,TD,hgp⟩:=g1.sets (by rw [hza];exact H16.out.ne);have TLr:inRange y17.la=true:=by rw [hy17];exact TL.rng
  have HTL:Hid (TabS ρ WW17 268 4 (fun i=>(litC i).toList) tl y17.la):=by
   show TabS _ _ _ _ _ _ _;rw [hW,hy17];exact TL.fr HB.2.kp (by decide)
  clear g1 g2 hz hPe so PF h0 hza hzb hzc hzq HB hy17 hW R' TL TD;go_wp2_with fail
  rw [← HW17.out];clear k7 z7 HW17;refine (z4b H17.out.mm H17.out.ok H17.out.cnt HTL.out).mono ?_;rintro v wa17 ⟨rfl,g1,g2⟩;have SF:=MS.sym_facts TLr H17.out.ok H17.out.cnt;have R':Hid (x.c16=if (y17.sym y17.la).2.1=0 then (if (y17.sym y17.la).2.2<256 then ({ (y17.sym y17.la).1 with lit:=(y17.sym y17.la).2.2,st:=16 },0) else if (y17.sym y17.la).2.2=256 then (y17.sym y17.la).1.endBlock else MS.c18 { (y17.sym y17.la).1 with least:=Tr.spanLeast 3 ((y17.sym y17.la).2.2 - 257),bits:=Tr.spanBits ((y17.sym y17.la).2.2 - 257),st:=18 }) else ((y17.sym y17.la).1,(y17.sym y17.la).2.1)):=R17.out;clear R17;by_cases h0:(y17.sym y17.la).2.1=0
  ·rw [if_pos h0] at R';rw [if_pos h0];obtain ⟨s1,s2,s3⟩:=SF.2 h0;have so:=SF.1;have hla:=A17;obtain ⟨z,t,k,hr⟩:∃ z t k,y17.sym y17.la=(z,t,k):=⟨_,_,_,rfl⟩
   rw [hr] at g1 R' s1 s2 s3 so h0 ⊢;have hk269:k<269:=by have:k<y17.la.length:=s1;omega
   have h0':t=0:=h0;subst h0';by_cases hk:k<256
   ·have HC:Hid (litC k=#[.int .i64 0, .int .u8 k, .int .i64 0, .int .i64 0]):=by show litC k=_;unfold litC;rw [if_pos hk]
    have HG:Hid (x.c16=z.goLit k):=by show x.c16=_;rw [R'.out];rw [if_pos hk];exact (if_pos hk).symm
    have b1:Below wa17.heap.size wa17 (wa17.alloc (.cells #[.int .i64 0, .int .u8 k, .int .i64 0, .int .i64 0] 218)):=(Below.refl _ _).alloc (Nat.le_refl _) _;have HZ:Hid (MM ρ (wa17.alloc (.cells #[.int .i64 0, .int .u8 k, .int .i64 0, .int .i64 0] 218)) p z∧Ok z∧Fr (fun k=>1<=k∧k<=5) ρ w (wa17.alloc (.cells #[.int .i64 0, .int .u8 k, .int .i64 0, .int .i64 0] 218))):=⟨g1.below b1,so,(H17.out.fr.trans g2).trans (Fr.below b1)⟩
    have HGL:Hid (Calls Tryz.prog 148 #[.pointer (some ⟨p,0,none⟩), .agg #[.int .i64 0, .int .u8 k, .int .i64 0, .int .i64 0]] (wa17.alloc (.cells #[.int .i64 0, .int .u8 k, .int .i64 0, .int .i64 0] 218)) fun v w'=>y0y ρ (wa17.alloc (.cells #[.int .i64 0, .int .u8 k, .int .i64 0, .int .i64 0] 218)) p (z.goLit k) v w'):=by
     have:=xo6 k HZ.out.1 HZ.out.2.1 (by have:z.count<=40:=s2;omega) (by omega);rw [HC.out] at this;exact this
    rw [HC.out];clear g1 g2 hr s3 so SF h0 R' b1;go_wp2_with fail
    refine HGL.out.mono ?_;rintro v w9 ⟨rfl,g3,g4⟩;have HR2:Hid (MM ρ w9 p (z.goLit k).1∧Fr (fun k=>1<=k∧k<=5) ρ w w9):=⟨g3,HZ.out.2.2.trans g4⟩
    clear g3 g4;obtain ⟨GG,hGG⟩:∃ GG,GG=z.goLit k:=⟨_,rfl⟩
    rw [← hGG] at HR2 HG ⊢;clear hGG HGL;go_wp2_with fail
    go_ret
    unfold y0y;rw [HG.out];exact ⟨rfl,HR2.out⟩
   ·by_cases hk6:k=256
    ·have HC:Hid (litC k=#[.int .i64 1, .int .u8 0, .int .i64 0, .int .i64 0]):=by show litC k=_;unfold litC;rw [if_neg hk,if_pos hk6]
     have HG:Hid (x.c16=z.goLit k):=by show x.c16=_;rw [R'.out];rw [if_neg hk,if_pos hk6];exact (if_neg hk).symm
     have b1:Below wa17.heap.size wa17 (wa17.alloc (.cells #[.int .i64 1, .int .u8 0, .int .i64 0, .int .i64 0] 218)):=(Below.refl _ _).alloc (Nat.le_refl _) _;have HZ:Hid (MM ρ (wa17.alloc (.cells #[.int .i64 1, .int .u8 0, .int .i64 0, .int .i64 0] 218)) p z∧Ok z∧Fr (fun k=>1<=k∧k<=5) ρ w (wa17.alloc (.cells #[.int .i64 1, .int .u8 0, .int .i64 0, .int .i64 0] 218))):=⟨g1.below b1,so,(H17.out.fr.trans g2).trans (Fr.below b1)⟩
     have HGL:Hid (Calls Tryz.prog 148 #[.pointer (some ⟨p,0,none⟩), .agg #[.int .i64 1, .int .u8 0, .int .i64 0, .int .i64 0]] (wa17.alloc (.cells #[.int .i64 1, .int .u8 0, .int .i64 0, .int .i64 0] 218)) fun v w'=>y0y ρ (wa17.alloc (.cells #[.int .i64 1, .int .u8 0, .int .i64 0, .int .i64 0] 218)) p (z.goLit k) v w'):=by
      have:=xo6 k HZ.out.1 HZ.out.2.1 (by have:z.count<=40:=s2;omega) (by omega);rw [HC.out] at this;exact this
     rw [HC.out];clear g1 g2 hr s3 so SF h0 R' b1;go_wp2_with fail
     refine HGL.out.mono ?_;rintro v w9 ⟨rfl,g3,g4⟩;have HR2:Hid (MM ρ w9 p (z.goLit k).1∧Fr (fun k=>1<=k∧k<=5) ρ w w9):=⟨g3,HZ.out.2.2.trans g4⟩
     clear g3 g4;obtain ⟨GG,hGG⟩:∃ GG,GG=z.goLit k:=⟨_,rfl⟩
     rw [← hGG] at HR2 HG ⊢;clear hGG HGL;go_wp2_with fail
     go_ret
     unfold y0y;rw [HG.out];exact ⟨rfl,HR2.out⟩
    ·have HC:Hid (litC k=#[.int .i64 2, .int .u8 0, .int .i64 (Tr.spanLeast 3 (k - 257)), .int .i64 (Tr.spanBits (k - 257))]):=by show litC k=_;unfold litC;rw [if_neg hk,if_neg hk6]
     rw [if_neg hk,if_neg hk6] at R';have sd:=zj7 (j:=k - 257) (by omega);have hza:z.la=y17.la:=by have:z=_:=s3;rw [this]
     have hzb:z.lb=y17.lb:=by have:z=_:=s3;rw [this]
     have hzq:z.qc=y17.qc:=by have:z=_:=s3;rw [this]
     have b1:Below wa17.heap.size wa17 (wa17.alloc (.cells #[.int .i64 2, .int .u8 0, .int .i64 (Tr.spanLeast 3 (k - 257)), .int .i64 (Tr.spanBits (k - 257))] 218)):=(Below.refl _ _).alloc (Nat.le_refl _) _;have HZ:Hid (MM ρ (wa17.alloc (.cells #[.int .i64 2, .int .u8 0, .int .i64 (Tr.spanLeast 3 (k - 257)), .int .i64 (Tr.spanBits (k - 257))] 218)) p z∧Ok z∧Fr (fun k=>1<=k∧k<=5) ρ w (wa17.alloc (.cells #[.int .i64 2, .int .u8 0, .int .i64 (Tr.spanLeast 3 (k - 257)), .int .i64 (Tr.spanBits (k - 257))] 218))):=⟨g1.below b1,so,(H17.out.fr.trans g2).trans (Fr.below b1)⟩
     have a39:=HZ.out.1.cellI.2.2.1;have z39:=HZ.out.1.cellI.2.2.2.1;have a40:=HZ.out.1.cellI.2.2.2.2.1;have z40:=HZ.out.1.cellI.2.2.2.2.2.1;have k7:=HZ.out.1.cell7.1;have z7:=HZ.out.1.cell7.2;have q0:(wa17.alloc (.cells #[.int .i64 2, .int .u8 0, .int .i64 (Tr.spanLeast 3 (k - 257)), .int .i64 (Tr.spanBits (k - 257))] 218)).cell? ⟨wa17.heap.size,0,none⟩=some (.int .i64 2):=by simp
     have q2:(wa17.alloc (.cells #[.int .i64 2, .int .u8 0, .int .i64 (Tr.spanLeast 3 (k - 257)), .int .i64 (Tr.spanBits (k - 257))] 218)).cell? ⟨wa17.heap.size,2,none⟩=some (.int .i64 (Tr.spanLeast 3 (k - 257))):=by simp
     have q3:(wa17.alloc (.cells #[.int .i64 2, .int .u8 0, .int .i64 (Tr.spanLeast 3 (k - 257)), .int .i64 (Tr.spanBits (k - 257))] 218)).cell? ⟨wa17.heap.size,3,none⟩=some (.int .i64 (Tr.spanBits (k - 257))):=by simp
     have HA:=HZ.out.1.span (Tr.spanLeast 3 (k - 257)) (Tr.spanBits (k - 257));have HB:=HA.1.st 18;obtain ⟨y18,hy18⟩:∃ y18:MS,y18={ z with least:=Tr.spanLeast 3 (k - 257),bits:=Tr.spanBits (k - 257),st:=18 }:=⟨_,rfl⟩
     obtain ⟨WW18,hW⟩:∃ W,W=(((wa17.alloc (.cells #[.int .i64 2, .int .u8 0, .int .i64 (Tr.spanLeast 3 (k - 257)), .int .i64 (Tr.spanBits (k - 257))] 218)).setCell ⟨p,39,none⟩ (.int .i64 (Tr.spanLeast 3 (k - 257)))).setCell ⟨p,40,none⟩ (.int .i64 (Tr.spanBits (k - 257)))).setCell ⟨p,7,none⟩ (.int .i64 18):=⟨_,rfl⟩
     have H18:Hid (Cw ρ w p y18 WW18):=by
      show Cw ρ w p y18 WW18;rw [hW,hy18];exact ⟨HB.1,{ HZ.out.2.1 with },s2,by show z.la≠[];rw [hza];exact H17.out.ne,by show z.lb.length<=16;rw [hzb];exact H17.out.lb,(HZ.out.2.2.trans HA.2).trans HB.2⟩
     have B18:y18.bits<=16∧y18.least<=1000000∧y18.least+2^y18.bits<=65535:=by
      rw [hy18];show Tr.spanBits (k - 257)<=16∧Tr.spanLeast 3 (k - 257)<=1000000∧Tr.spanLeast 3 (k - 257)+2^Tr.spanBits (k - 257)<=65535;have:=Nat.two_pow_pos (Tr.spanBits (k - 257));omega
     have Q18:∀ b∈y18.qc,b<256:=by rw [hy18];show ∀ b∈z.qc,b<256;rw [hzq];exact Q17
     have R18:Hid (x.c16=MS.c18 y18):=by show x.c16=_;rw [hy18];exact R'.out
     have HW18:Hid (WW18=(((wa17.alloc (.cells #[.int .i64 2, .int .u8 0, .int .i64 (Tr.spanLeast 3 (k - 257)), .int .i64 (Tr.spanBits (k - 257))] 218)).setCell ⟨p,39,none⟩ (.int .i64 (Tr.spanLeast 3 (k - 257)))).setCell ⟨p,40,none⟩ (.int .i64 (Tr.spanBits (k - 257)))).setCell ⟨p,7,none⟩ (.int .i64 18)):=hW;rw [HC.out];have hv3:Tr.spanLeast 3 (k - 257)=y18.least:=by rw [hy18]
     have hv4:Tr.spanBits (k - 257)=y18.bits:=by rw [hy18]
     rw [hv3,hv4] at HW18 a39 z39 a40 z40 k7 z7 q0 q2 q3 ⊢;clear g1 g2 hr s3 so SF h0 hza hzb hzq HA HB hy18 hW b1 sd R' hk hk6 HZ HC s1 hk269 hv3 hv4;go_wp2_with fail
     rw [← HW18.out];clear a39 z39 a40 z40 k7 z7 q0 q2 q3 HW18;have hbl:=B18;refine (xh4 y18.least y18.bits H18.out.mm H18.out.ok H18.out.cnt hbl.1 hbl.2.1).mono ?_;rintro v wa18 ⟨rfl,g1,g2⟩;have SF:=MS.spanR_facts (least:=y18.least) H18.out.ok H18.out.cnt hbl.1;have R':Hid (x.c16=if (y18.spanR y18.least y18.bits).2.1=0 then MS.c19 { (y18.spanR y18.least y18.bits).1 with left:=(y18.spanR y18.least y18.bits).2.2,st:=19 } else ((y18.spanR y18.least y18.bits).1,(y18.spanR y18.least y18.bits).2.1)):=R18.out;clear R18;by_cases h0:(y18.spanR y18.least y18.bits).2.1=0
     ·rw [if_pos h0] at R';obtain ⟨s1,s2,s3,s4⟩:=SF.2 h0;have so:=SF.1;have hD:(y18.spanR y18.least y18.bits).2.2<=65535:=by have:=hbl.2.2;omega
      obtain ⟨z,t,D,hr⟩:∃ z t D,y18.spanR y18.least y18.bits=(z,t,D):=⟨_,_,_,rfl⟩
      rw [hr] at g1 R' s1 s4 so hD h0 ⊢;have h0':t=0:=h0;subst h0';have hza:z.la=y18.la:=by have:z=_:=s4;rw [this]
      have hzb:z.lb=y18.lb:=by have:z=_:=s4;rw [this]
      have hzq:z.qc=y18.qc:=by have:z=_:=s4;rw [this]
      have HZ:Hid (MM ρ wa18 p z∧Ok z∧Fr (fun k=>1<=k∧k<=5) ρ w wa18):=⟨g1,so,H18.out.fr.trans g2⟩
      have a25:=g1.cell25.1;have z25:=g1.cell25.2;have k7:=g1.cell7.1;have z7:=g1.cell7.2;have HA:=g1.left D;have HB:=HA.1.st 19;obtain ⟨y19,hy19⟩:∃ y19:MS,y19={ z with left:=D,st:=19 }:=⟨_,rfl⟩
      obtain ⟨WW19,hW⟩:∃ W,W=(wa18.setCell ⟨p,25,none⟩ (.int .i64 D)).setCell ⟨p,7,none⟩ (.int .i64 19):=⟨_,rfl⟩
      have H19:Hid (Cw ρ w p y19 WW19):=by
       show Cw ρ w p y19 WW19;rw [hW,hy19];exact ⟨HB.1,{ HZ.out.2.1 with },s1,by show z.la≠[];rw [hza];exact H18.out.ne,by show z.lb.length<=16;rw [hzb];exact H18.out.lb,(HZ.out.2.2.trans HA.2).trans HB.2⟩
      have Q19:∀ b∈y19.qc,b<256:=by rw [hy19];show ∀ b∈z.qc,b<256;rw [hzq];exact Q18
      have L19:y19.left<=65535:=by rw [hy19];exact hD
      have R19:Hid (x.c16=MS.c19 y19):=by show x.c16=_;rw [hy19];exact R'.out
      have HW19:Hid (WW19=(wa18.setCell ⟨p,25,none⟩ (.int .i64 D)).setCell ⟨p,7,none⟩ (.int .i64 19)):=hW;obtain ⟨gs,tl,td,c37,cg0,cg1,TL,TD,hgp⟩:=g1.sets (by rw [hza];exact H18.out.ne);have TDr:inRange y19.lb=true:=by rw [hy19];exact TD.rng
      have HTD:Hid (TabS ρ WW19 271 2 (fun i=>(vtb 1 i).toList) td y19.lb):=by
       show TabS _ _ _ _ _ _ _;rw [hW,hy19];exact TD.fr (HA.2.trans HB.2).kp (by decide)
      clear g1 g2 hr s4 so SF h0 hza hzb hzq HA HB hy19 hW s1 s2 s3 R' TL TD;go_wp2_with fail
      rw [← HW19.out];clear HZ a25 z25 k7 z7 HW19 hD;refine (kdd H19.out.mm H19.out.ok H19.out.cnt HTD.out).mono ?_;rintro v wa19 ⟨rfl,g1,g2⟩;have SF:=MS.sym_facts TDr H19.out.ok H19.out.cnt;have R':Hid (x.c16=if (y19.sym y19.lb).2.1=0 then MS.c20 { (y19.sym y19.lb).1 with least:=Tr.spanLeast 1 (y19.sym y19.lb).2.2,bits:=Tr.spanBits (y19.sym y19.lb).2.2,st:=20 } else ((y19.sym y19.lb).1,(y19.sym y19.lb).2.1)):=R19.out;clear R19;by_cases h0:(y19.sym y19.lb).2.1=0
      ·rw [if_pos h0] at R';rw [if_pos h0];obtain ⟨s1,s2,s3⟩:=SF.2 h0;have so:=SF.1;have hlb:=H19.out.lb;have sd:=k8m (k:=(y19.sym y19.lb).2.2) (by omega);obtain ⟨z,t,k,hr⟩:∃ z t k,y19.sym y19.lb=(z,t,k):=⟨_,_,_,rfl⟩
       rw [hr] at g1 R' s2 s3 so sd h0 ⊢;have h0':t=0:=h0;subst h0';have hza:z.la=y19.la:=by have:z=_:=s3;rw [this]
       have hzb:z.lb=y19.lb:=by have:z=_:=s3;rw [this]
       have hzl:z.left=y19.left:=by have:z=_:=s3;rw [this]
       have hzq:z.qc=y19.qc:=by have:z=_:=s3;rw [this]
       have b1:Below wa19.heap.size wa19 (wa19.alloc (.cells #[.int .i64 (Tr.spanLeast 1 k), .int .i64 (Tr.spanBits k)] 125)):=(Below.refl _ _).alloc (Nat.le_refl _) _;have HZ:Hid (MM ρ (wa19.alloc (.cells #[.int .i64 (Tr.spanLeast 1 k), .int .i64 (Tr.spanBits k)] 125)) p z∧Ok z∧Fr (fun k=>1<=k∧k<=5) ρ w (wa19.alloc (.cells #[.int .i64 (Tr.spanLeast 1 k), .int .i64 (Tr.spanBits k)] 125))):=⟨g1.below b1,so,(H19.out.fr.trans g2).trans (Fr.below b1)⟩
       have a39:=HZ.out.1.cellI.2.2.1;have z39:=HZ.out.1.cellI.2.2.2.1;have a40:=HZ.out.1.cellI.2.2.2.2.1;have z40:=HZ.out.1.cellI.2.2.2.2.2.1;have k7:=HZ.out.1.cell7.1;have z7:=HZ.out.1.cell7.2;have q0:(wa19.alloc (.cells #[.int .i64 (Tr.spanLeast 1 k), .int .i64 (Tr.spanBits k)] 125)).cell? ⟨wa19.heap.size,0,none⟩=some (.int .i64 (Tr.spanLeast 1 k)):=by simp
       have q1:(wa19.alloc (.cells #[.int .i64 (Tr.spanLeast 1 k), .int .i64 (Tr.spanBits k)] 125)).cell? ⟨wa19.heap.size,1,none⟩=some (.int .i64 (Tr.spanBits k)):=by simp
       have HA:=HZ.out.1.span (Tr.spanLeast 1 k) (Tr.spanBits k);have HB:=HA.1.st 20;obtain ⟨y20,hy20⟩:∃ y20:MS,y20={ z with least:=Tr.spanLeast 1 k,bits:=Tr.spanBits k,st:=20 }:=⟨_,rfl⟩
       obtain ⟨WW20,hW⟩:∃ W,W=(((wa19.alloc (.cells #[.int .i64 (Tr.spanLeast 1 k), .int .i64 (Tr.spanBits k)] 125)).setCell ⟨p,39,none⟩ (.int .i64 (Tr.spanLeast 1 k))).setCell ⟨p,40,none⟩ (.int .i64 (Tr.spanBits k))).setCell ⟨p,7,none⟩ (.int .i64 20):=⟨_,rfl⟩
       have H20:Hid (Cw ρ w p y20 WW20):=by
        show Cw ρ w p y20 WW20;rw [hW,hy20];exact ⟨HB.1,{ HZ.out.2.1 with },s2,by show z.la≠[];rw [hza];exact H19.out.ne,by show z.lb.length<=16;rw [hzb];exact H19.out.lb,(HZ.out.2.2.trans HA.2).trans HB.2⟩
       have B20:y20.bits<=16∧y20.least<=1000000∧1<=y20.least:=by rw [hy20];exact sd
       have Q20:∀ b∈y20.qc,b<256:=by rw [hy20];show ∀ b∈z.qc,b<256;rw [hzq];exact Q19
       have L20:y20.left<=65535:=by rw [hy20];show z.left<=65535;rw [hzl];exact L19
       have R20:Hid (x.c16=MS.c20 y20):=by show x.c16=_;rw [hy20];exact R'.out
       have HW20:Hid (WW20=(((wa19.alloc (.cells #[.int .i64 (Tr.spanLeast 1 k), .int .i64 (Tr.spanBits k)] 125)).setCell ⟨p,39,none⟩ (.int .i64 (Tr.spanLeast 1 k))).setCell ⟨p,40,none⟩ (.int .i64 (Tr.spanBits k))).setCell ⟨p,7,none⟩ (.int .i64 20)):=hW;have hE3:Tr.spanLeast 1 k=y20.least:=by rw [hy20]
       have hE4:Tr.spanBits k=y20.bits:=by rw [hy20]
       unfold vtb;clear g1 g2 hr s3 so SF h0 hza hzb hzl hzq HA HB hy20 hW b1 sd R' HZ;rw [hE3,hE4] at HW20 a39 z39 a40 z40 k7 z7 q0 q1 ⊢;clear hE3 hE4;go_wp2_with fail
       rw [← HW20.out];clear a39 z39 a40 z40 k7 z7 q0 q1 HW20;have hbl:=B20;refine (xh4 y20.least y20.bits H20.out.mm H20.out.ok H20.out.cnt hbl.1 hbl.2.1).mono ?_;rintro v wa20 ⟨rfl,g1,g2⟩;have SF:=MS.spanR_facts (least:=y20.least) H20.out.ok H20.out.cnt hbl.1;have R':Hid (x.c16=if (y20.spanR y20.least y20.bits).2.1=0 then (if (y20.spanR y20.least y20.bits).1.qc.length<(y20.spanR y20.least y20.bits).2.2 then (y20.spanR y20.least y20.bits).1.refuse 11 else MS.c21 { (y20.spanR y20.least y20.bits).1 with dist:=(y20.spanR y20.least y20.bits).2.2,st:=21 }) else ((y20.spanR y20.least y20.bits).1,(y20.spanR y20.least y20.bits).2.1)):=R20.out;clear R20;by_cases h0:(y20.spanR y20.least y20.bits).2.1=0
       ·rw [if_pos h0] at R';obtain ⟨s1,s2,s3,s4⟩:=SF.2 h0;have so:=SF.1;have hD:(y20.spanR y20.least y20.bits).2.2<=2000000∧1<=(y20.spanR y20.least y20.bits).2.2:=by
         have:2^y20.bits<=2^16:=Nat.pow_le_pow_right (by decide) hbl.1;have e:2^16=65536:=by decide
         have:=hbl.2.2;omega
        obtain ⟨z,t,D,hr⟩:∃ z t D,y20.spanR y20.least y20.bits=(z,t,D):=⟨_,_,_,rfl⟩
        rw [hr] at g1 R' s1 s4 so hD h0 ⊢;have h0':t=0:=h0;subst h0';have hzl:z.left=y20.left:=by have:z=_:=s4;rw [this]
        have hzq:z.qc=y20.qc:=by have:z=_:=s4;rw [this]
        have HZ:Hid (MM ρ wa20 p z∧Ok z∧Fr (fun k=>1<=k∧k<=5) ρ w wa20):=⟨g1,so,H20.out.fr.trans g2⟩
        obtain ⟨cw,c17,HLEN0,_,_⟩:=g1.win;have HLEN:Hid (Calls Tryz.prog 57 #[.pointer (some ⟨cw,0,none⟩)] wa20 fun v w'=>v= .returned (.int .i64 z.qc.length)∧wa20=w'):=HLEN0;have c41:=g1.cellI.2.2.2.2.2.2.1;have z41:=g1.cellI.2.2.2.2.2.2.2;have hq256:z.qc.length<=256:=by obtain ⟨L,B,T⟩:=g1;exact B.rc'
        have HQB:Hid (∀ b∈z.qc,b<256):=by show ∀ b∈z.qc,b<256;rw [hzq];exact Q20
        have hleft:z.left<=65535:=by rw [hzl];exact L20
        clear g1 g2 hr s4 so SF HLEN0 h0 s1 s2 s3 hzl hzq;go_wp2_with fail
        refine HLEN.out.mono ?_;rintro v w' ⟨rfl,rfl⟩;obtain ⟨N,hN⟩:∃ N,N=z.qc.length:=⟨_,rfl⟩
        rw [← hN] at hq256 R' ⊢;have HN:Hid (N=z.qc.length):=hN;clear hN;by_cases hd:N<D
        ·rw [if_pos hd] at R';have hdi:(N:Int)<D:=by omega
         go_wp2_with fail
         refine (kv8 11 HZ.out.1).mono ?_;rintro v w4 ⟨rfl,g3,g4⟩;have HR2:Hid (MM ρ w4 p (z.refuse 11).1∧Fr (fun k=>1<=k∧k<=5) ρ w w4):=⟨g3,HZ.out.2.2.trans g4⟩
         clear g3 g4;go_wp2_with fail
         go_ret
         unfold y0y;rw [R'.out];exact ⟨rfl,HR2.out⟩
        ·rw [if_neg hd] at R';have hdi:¬ (N:Int)<D:=by omega
         have H1:=HZ.out.1.dist D;have H2:=H1.1.st 21;have k7:=HZ.out.1.cell7.1;have z7:=HZ.out.1.cell7.2;obtain ⟨R,hR⟩:∃ R,R=MS.c21 { z with dist:=D,st:=21 }:=⟨_,rfl⟩
         have H0:Hid (∃ y,Kw ρ w p y R ((wa20.setCell ⟨p,41,none⟩ (.int .i64 D)).setCell ⟨p,7,none⟩ (.int .i64 21))):=⟨{ z with dist:=D,st:=21 },H2.1,{ HZ.out.2.1 with },hR.symm,hleft,hD.2,by show D<=z.qc.length;rw [← HN.out];omega,HQB.out,(HZ.out.2.2.trans H1.2).trans H2.2⟩
         have HF:Hid (x.c16=R):=by show x.c16=R;rw [hR];exact R'.out
         clear H1 H2 hR R' HZ hd HLEN;go_wp2_with fail
         clear hdi;generalize decide (N<D)=dd;go_loopw [] (fun wr=>Hid (∃ y,Kw ρ w p y R wr)) (fun wr=>xq0 wr p 25)
         case atStart=>exact H0
         case round=>
          clear H0;obtain ⟨y,Y⟩:=hrel.out;have c25:=Y.mm.cell25.1;have e25:=xv1 c25;have hl:=Y.left;have HY:Hid (Kw ρ w p y R wr):=Y;by_cases hz:y.left=0
          ·have HZ:Hid (R=({ y with st:=17 },0)):=by show R=_;rw [← HY.out.eq,MS.copy_zero hz]
           rw [hz] at c25;have k7:=Y.mm.cell7.1;have z7:=Y.mm.cell7.2;have H17:Hid (MM ρ (wr.setCell ⟨p,7,none⟩ (.int .i64 17)) p { y with st:=17 }∧Fr (fun k=>1<=k∧k<=5) ρ wr (wr.setCell ⟨p,7,none⟩ (.int .i64 17))):=Y.mm.st 17;clear hz Y hrel;go_wp2_with fail
           go_ret
           unfold y0y;rw [HF.out,HZ.out];exact ⟨rfl,H17.out.1,HY.out.fr.trans H17.out.2⟩
          ·obtain ⟨n,hn⟩:∃ n,y.left=n+1:=⟨y.left - 1,by omega⟩
           have HS:Hid (R=if (y.put (y.qc.getD (y.qc.length - y.dist) 0)).2=0 then MS.copyL n { (y.put (y.qc.getD (y.qc.length - y.dist) 0)).1 with left:=n } else y.put (y.qc.getD (y.qc.length - y.dist) 0)):=by show R=_;rw [← HY.out.eq,MS.copy_succ hn]
           have hpos:(0:Int)<y.left:=by omega
           have hb:y.qc.getD (y.qc.length - y.dist) 0<256:=getD_lt Y.qb _;obtain ⟨cw,c17,_,HBK0,_⟩:=Y.mm.win;have HBK:Hid (∀ n,Calls Tryz.prog 150 #[.pointer (some ⟨cw,0,none⟩), .int .i64 y.dist] (wr.drewN n) fun v w'=>v= .returned (.int .u8 (y.qc.getD (y.qc.length - y.dist) 0:Nat))∧∃ m,w'=(wr.drewN n).drewN m):=fun n=>HBK0 n y.dist Y.d1 Y.d2
           have c41:=Y.mm.cellI.2.2.2.2.2.2.1;obtain ⟨b,hbE⟩:∃ b,b=y.qc.getD (y.qc.length - y.dist) 0:=⟨_,rfl⟩
           rw [← hbE] at HS hb HBK;clear hbE HBK0;have HPF:=MS.put_facts Y.ok b;have hq256:y.qc.length<=256:=by obtain ⟨L,B,T⟩:=Y.mm;exact B.rc'
           obtain ⟨P,hP⟩:∃ P,P=y.put b:=⟨_,rfl⟩
           have HPT:Hid (∀ wq,MM ρ wq p y->Calls Tryz.prog 137 #[.pointer (some ⟨p,0,none⟩), .int .u8 b] wq fun v w'=>y0y ρ wq p P v w'):=fun wq m=>by rw [hP];exact mPut b m HY.out.ok hb
           rw [← hP] at HS HPF;have HPF':Hid (Ok P.1∧(P.2=0->P.1=y.putted b)):=HPF;clear hP HPF hz Y hrel;by_cases h1:P.2=0
           ·have hPe:=HPF'.out.2 h1;rw [if_pos h1] at HS;have hPl:P.1.left=n+1:=by rw [hPe];exact hn
            have HPD:Hid (1<=P.1.dist∧P.1.dist<=P.1.qc.length∧∀ b∈P.1.qc,b<256):=by
             show _∧_∧_;rw [hPe];refine ⟨HY.out.d1,?_,vso HY.out.qb hb⟩;have:=xsr y.qc b hq256;have h3:=HY.out.d2;show y.dist<=(MS.pushed y.qc b).length;omega
            obtain ⟨Q,t,hQ⟩:∃ Q t,P=(Q,t):=⟨_,_,rfl⟩
            rw [hQ] at HS HPF' HPT hPl HPD h1;clear hQ hPe;have h1':t=0:=h1;subst h1';clear h1;go_wp2_with fail
            go_region_with (first
             | (go_at_call 150;refine (HBK.out 1).mono ?_;rintro e w2 ⟨rfl,m2,hw2⟩;have H2:Hid (MM ρ w2 p y∧Fr (fun k=>1<=k∧k<=5) ρ w w2):=by { show _∧_;rw [hw2];exact ⟨(HY.out.mm.drewN 1).drewN m2,(HY.out.fr.drewN 1).drewN m2⟩ };clear hw2)
             | (go_at_call 137;refine (HPT.out _ H2.out.1).mono ?_;rintro e w3 ⟨rfl,g1,g2⟩;have H3:Hid (MM ρ w3 p Q∧Fr (fun k=>1<=k∧k<=5) ρ w w3):=⟨g1,H2.out.2.trans g2⟩;clear g1 g2))
            all_goals
             have d25:w3.cell? ⟨p,25,none⟩=some (.int .i64 (n+1:Nat)):=by rw [← hPl];exact H3.out.1.cell25.1
             have z25:=H3.out.1.cell25.2;have HL:=H3.out.1.left n;have HN:Hid (∃ y,Kw ρ w p y R (w3.setCell ⟨p,25,none⟩ (.int .i64 n))):=⟨{ Q with left:=n },HL.1,{ HPF'.out.1 with },HS.out.symm,by show n<=65535;omega,HPD.out.1,HPD.out.2.1,HPD.out.2.2,H3.out.2.trans HL.2⟩
             have eN:xq0 (w3.setCell ⟨p,25,none⟩ (.int .i64 n)) p 25=n:=xv1 HL.1.cell25.1;have hn1:((n+1:Nat):Int) - 1=(n:Int):=by omega
             clear HL;go_wp2_with fail
             go_roundw
             case rel=>exact HN
             case measure=>rw [e25,eN];omega
           ·rw [if_neg h1] at HS;obtain ⟨Q,t,hQ⟩:∃ Q t,P=(Q,t):=⟨_,_,rfl⟩
            rw [hQ] at HS HPF' HPT h1;clear hQ;have h1':¬ t=0:=h1;have h0':((t:Int)==0)=false:=by simp;exact h1'
            clear h1;go_wp2_with fail
            go_region_with (first
             | (go_at_call 150;refine (HBK.out 1).mono ?_;rintro e w2 ⟨rfl,m2,hw2⟩;have H2:Hid (MM ρ w2 p y∧Fr (fun k=>1<=k∧k<=5) ρ w w2):=by { show _∧_;rw [hw2];exact ⟨(HY.out.mm.drewN 1).drewN m2,(HY.out.fr.drewN 1).drewN m2⟩ };clear hw2)
             | (go_at_call 137;refine (HPT.out _ H2.out.1).mono ?_;rintro e w3 ⟨rfl,g1,g2⟩;have H3:Hid (MM ρ w3 p Q∧Fr (fun k=>1<=k∧k<=5) ρ w w3):=⟨g1,H2.out.2.trans g2⟩;clear g1 g2))
            all_goals
             go_wp2_with fail
             go_ret
             unfold y0y;rw [HF.out,HS.out];exact ⟨rfl,H3.out⟩
       ·rw [if_neg h0] at R';obtain ⟨e,he⟩:∃ e,e=(y20.spanR y20.least y20.bits).2.1:=⟨_,rfl⟩
        have HR:Hid (MM ρ wa20 p (y20.spanR y20.least y20.bits).1∧Fr (fun k=>1<=k∧k<=5) ρ w wa20∧(y20.spanR y20.least y20.bits).2.1=e):=⟨g1,H20.out.fr.trans g2,he.symm⟩
        rw [← he] at h0 ⊢;have h0':((e:Int)==0)=false:=by simp;exact h0
        clear g1 g2 he;go_wp2_with fail
        go_ret
        unfold y0y;rw [R'.out,HR.out.2.2];exact ⟨rfl,HR.out.1,HR.out.2.1⟩
      ·rw [if_neg h0] at R';rw [if_neg h0];obtain ⟨e,he⟩:∃ e,e=(y19.sym y19.lb).2.1:=⟨_,rfl⟩
       have b1:Below wa19.heap.size wa19 (wa19.alloc (.cells #[.int .i64 0, .int .i64 0] 125)):=(Below.refl _ _).alloc (Nat.le_refl _) _;have HR:Hid (MM ρ (wa19.alloc (.cells #[.int .i64 0, .int .i64 0] 125)) p (y19.sym y19.lb).1∧Fr (fun k=>1<=k∧k<=5) ρ w (wa19.alloc (.cells #[.int .i64 0, .int .i64 0] 125))∧(y19.sym y19.lb).2.1=e):=⟨g1.below b1,(H19.out.fr.trans g2).trans (Fr.below b1),he.symm⟩
       rw [← he] at h0 ⊢;have h0':((e:Int)==0)=false:=by simp;exact h0
       clear g1 g2 he b1;go_wp2_with fail
       go_ret
       unfold y0y;rw [R'.out,HR.out.2.2];exact ⟨rfl,HR.out.1,HR.out.2.1⟩
     ·rw [if_neg h0] at R';obtain ⟨e,he⟩:∃ e,e=(y18.spanR y18.least y18.bits).2.1:=⟨_,rfl⟩
      have HR:Hid (MM ρ wa18 p (y18.spanR y18.least y18.bits).1∧Fr (fun k=>1<=k∧k<=5) ρ w wa18∧(y18.spanR y18.least y18.bits).2.1=e):=⟨g1,H18.out.fr.trans g2,he.symm⟩
      rw [← he] at h0 ⊢;have h0':((e:Int)==0)=false:=by simp;exact h0
      clear g1 g2 he;go_wp2_with fail
      go_ret
      unfold y0y;rw [R'.out,HR.out.2.2];exact ⟨rfl,HR.out.1,HR.out.2.1⟩
  ·rw [if_neg h0] at R';rw [if_neg h0];obtain ⟨e,he⟩:∃ e,e=(y17.sym y17.la).2.1:=⟨_,rfl⟩
   have b1:Below wa17.heap.size wa17 (wa17.alloc (.cells #[.int .i64 0, .int .u8 0, .int .i64 0, .int .i64 0] 218)):=(Below.refl _ _).alloc (Nat.le_refl _) _;have HR:Hid (MM ρ (wa17.alloc (.cells #[.int .i64 0, .int .u8 0, .int .i64 0, .int .i64 0] 218)) p (y17.sym y17.la).1∧Fr (fun k=>1<=k∧k<=5) ρ w (wa17.alloc (.cells #[.int .i64 0, .int .u8 0, .int .i64 0, .int .i64 0] 218))∧(y17.sym y17.la).2.1=e):=⟨g1.below b1,(H17.out.fr.trans g2).trans (Fr.below b1),he.symm⟩
   rw [← he] at h0 ⊢;have h0':((e:Int)==0)=false:=by simp;exact h0
   clear g1 g2 he b1;go_wp2_with fail
   go_ret
   unfold y0y;rw [R'.out,HR.out.2.2];exact ⟨rfl,HR.out.1,HR.out.2.1⟩
 ·rw [if_neg h0] at R';obtain ⟨e,he⟩:∃ e,e=(x.put x.lit).2:=⟨_,rfl⟩
  have HR:Hid (MM ρ wa16 p (x.put x.lit).1∧Fr (fun k=>1<=k∧k<=5) ρ w wa16∧(x.put x.lit).2=e):=⟨g1,H16.out.fr.trans g2,he.symm⟩
  rw [← he] at h0 ⊢;have h0':((e:Int)==0)=false:=by simp;exact h0
  clear g1 g2 he;go_wp2_with fail
  go_ret
  unfold y0y;rw [R'.out,HR.out.2.2];exact ⟨rfl,HR.out.1,HR.out.2.1⟩
def vbd(n:Nat)(x:MS):Prop:=
 match n with
 | 0=>Hc x
 | 1=>Hc x
 | 2=>Hc x
 | 3=>Hc x
 | 4=>Hc x
 | 5=>Hc x
 | 6=>Hc x
 | 7=>True
 | 8=>True
 | 9=>x.left<=65535
 | 10=>x.hl=[]
 | 11=>x.hl=[]
 | 12=>x.hl=[]
 | 13=>x.told<=15∧x.hl.length<=x.told∧∀ b∈x.hl,0<=b∧b<8
 | 14=>Rok x∧x.hs≠[]∧x.hs.length<=15
 | 15=>Rok x∧x.hbits<=6∧x.hleast<=11∧x.hlen<=11
 | 16=>x.la≠[]∧x.lb.length<=16∧(∀ b∈x.qc,b<256)∧x.la.length<=269∧x.lit<256
 | 17=>x.la≠[]∧x.lb.length<=16∧(∀ b∈x.qc,b<256)∧x.la.length<=269
 | 18=>x.la≠[]∧x.lb.length<=16∧(∀ b∈x.qc,b<256)∧(x.bits<=16∧x.least<=1000000∧x.least+2^x.bits<=65535)
 | 19=>x.la≠[]∧x.lb.length<=16∧(∀ b∈x.qc,b<256)∧x.left<=65535
 | 20=>x.la≠[]∧x.lb.length<=16∧(∀ b∈x.qc,b<256)∧(x.bits<=16∧x.least<=1000000∧1<=x.least)∧x.left<=65535
 | 21=>x.left<=65535∧1<=x.dist∧x.dist<=x.qc.length∧(∀ b∈x.qc,b<256)
 | 22=>True
 | 23=>True
 | 24=>True
 | _=>False
structure Pre(x:MS):Prop where
 ok:Ok x
 cnt:x.count<=32
 st:x.st<=24
 at_:vbd x.st x
theorem zdj{ρ:Nat->Nat}{w:World}{p:Nat}{x:MS}(h:MM ρ w p x)(pr:Pre x)(hO:OrdP w)(hG:ρ 0=0)(hst:x.st=0) :
  Calls Tryz.prog 76 #[.pointer (some ⟨p,0,none⟩)] w fun v w'=>xxu ρ w p x.advance v w':=by
 have HA:Hid (x.advance=x.h0):=by show x.advance=_;unfold MS.advance;simp only [hst]
 have HM:Hid (MM ρ w p x∧Pre x):=⟨h,pr⟩
 have HO:Hid (OrdP w∧ρ 0=0):=⟨hO,hG⟩
 have HPR:Hid (vbd 0 x):=by have:=pr.at_;rw [hst] at this;exact this
 have HS:Hid (x.st=0):=hst;have c7:=h.cell7.1;rw [hst] at c7;clear h pr hO hG hst;go_enter Tryz.func76,Tryz.ntmps76
 go_wp2_with fail
 refine (z54 HM.out.1 HPR.out HS.out).mono ?_;rintro v w1 H1;have H2:Hid (xxu ρ w p x.h0 v w1):=H1.x;obtain rfl:=H2.out.1;clear H1;rw [← HA.out] at H2 ⊢;generalize x.advance.2=n at H2 ⊢;go_wp2_with fail
 go_ret
 exact H2.out
theorem xso{ρ:Nat->Nat}{w:World}{p:Nat}{x:MS}(h:MM ρ w p x)(pr:Pre x)(hO:OrdP w)(hG:ρ 0=0)(hst:x.st=1) :
  Calls Tryz.prog 76 #[.pointer (some ⟨p,0,none⟩)] w fun v w'=>xxu ρ w p x.advance v w':=by
 have HA:Hid (x.advance=x.h1):=by show x.advance=_;unfold MS.advance;simp only [hst]
 have HM:Hid (MM ρ w p x∧Pre x):=⟨h,pr⟩
 have HO:Hid (OrdP w∧ρ 0=0):=⟨hO,hG⟩
 have HPR:Hid (vbd 1 x):=by have:=pr.at_;rw [hst] at this;exact this
 have HS:Hid (x.st=1):=hst;have c7:=h.cell7.1;rw [hst] at c7;clear h pr hO hG hst;go_enter Tryz.func76,Tryz.ntmps76
 go_wp2_with fail
 refine (y1s HM.out.1 HPR.out HS.out).mono ?_;rintro v w1 H1;have H2:Hid (xxu ρ w p x.h1 v w1):=H1.x;obtain rfl:=H2.out.1;clear H1;rw [← HA.out] at H2 ⊢;generalize x.advance.2=n at H2 ⊢;go_wp2_with fail
 go_ret
 exact H2.out
theorem vuw{ρ:Nat->Nat}{w:World}{p:Nat}{x:MS}(h:MM ρ w p x)(pr:Pre x)(hO:OrdP w)(hG:ρ 0=0)(hst:x.st=2) :
  Calls Tryz.prog 76 #[.pointer (some ⟨p,0,none⟩)] w fun v w'=>xxu ρ w p x.advance v w':=by
 have HA:Hid (x.advance=x.h2):=by show x.advance=_;unfold MS.advance;simp only [hst]
 have HM:Hid (MM ρ w p x∧Pre x):=⟨h,pr⟩
 have HO:Hid (OrdP w∧ρ 0=0):=⟨hO,hG⟩
 have HPR:Hid (vbd 2 x):=by have:=pr.at_;rw [hst] at this;exact this
 have HS:Hid (x.st=2):=hst;have c7:=h.cell7.1;rw [hst] at c7;clear h pr hO hG hst;go_enter Tryz.func76,Tryz.ntmps76
 go_wp2_with fail
 refine (vr2 HM.out.1 HPR.out HS.out).mono ?_;rintro v w1 H1;have H2:Hid (xxu ρ w p x.h2 v w1):=H1.x;obtain rfl:=H2.out.1;clear H1;rw [← HA.out] at H2 ⊢;generalize x.advance.2=n at H2 ⊢;go_wp2_with fail
 go_ret
 exact H2.out
theorem xhr{ρ:Nat->Nat}{w:World}{p:Nat}{x:MS}(h:MM ρ w p x)(pr:Pre x)(hO:OrdP w)(hG:ρ 0=0)(hst:x.st=3) :
  Calls Tryz.prog 76 #[.pointer (some ⟨p,0,none⟩)] w fun v w'=>xxu ρ w p x.advance v w':=by
 have HA:Hid (x.advance=x.h3):=by show x.advance=_;unfold MS.advance;simp only [hst]
 have HM:Hid (MM ρ w p x∧Pre x):=⟨h,pr⟩
 have HO:Hid (OrdP w∧ρ 0=0):=⟨hO,hG⟩
 have HPR:Hid (vbd 3 x):=by have:=pr.at_;rw [hst] at this;exact this
 have HS:Hid (x.st=3):=hst;have c7:=h.cell7.1;rw [hst] at c7;clear h pr hO hG hst;go_enter Tryz.func76,Tryz.ntmps76
 go_wp2_with fail
 refine (x0l HM.out.1 HPR.out HS.out).mono ?_;rintro v w1 H1;have H2:Hid (xxu ρ w p x.h3 v w1):=H1.x;obtain rfl:=H2.out.1;clear H1;rw [← HA.out] at H2 ⊢;generalize x.advance.2=n at H2 ⊢;go_wp2_with fail
 go_ret
 exact H2.out
theorem jl0{ρ:Nat->Nat}{w:World}{p:Nat}{x:MS}(h:MM ρ w p x)(pr:Pre x)(hO:OrdP w)(hG:ρ 0=0)(hst:x.st=4) :
  Calls Tryz.prog 76 #[.pointer (some ⟨p,0,none⟩)] w fun v w'=>xxu ρ w p x.advance v w':=by
 have HA:Hid (x.advance=x.h4):=by show x.advance=_;unfold MS.advance;simp only [hst]
 have HM:Hid (MM ρ w p x∧Pre x):=⟨h,pr⟩
 have HO:Hid (OrdP w∧ρ 0=0):=⟨hO,hG⟩
 have HPR:Hid (vbd 4 x):=by have:=pr.at_;rw [hst] at this;exact this
 have HS:Hid (x.st=4):=hst;have c7:=h.cell7.1;rw [hst] at c7;clear h pr hO hG hst;go_enter Tryz.func76,Tryz.ntmps76
 go_wp2_with fail
 refine (zqf HM.out.1 HPR.out HS.out).mono ?_;rintro v w1 H1;have H2:Hid (xxu ρ w p x.h4 v w1):=H1.x;obtain rfl:=H2.out.1;clear H1;rw [← HA.out] at H2 ⊢;generalize x.advance.2=n at H2 ⊢;go_wp2_with fail
 go_ret
 exact H2.out
theorem joe{ρ:Nat->Nat}{w:World}{p:Nat}{x:MS}(h:MM ρ w p x)(pr:Pre x)(hO:OrdP w)(hG:ρ 0=0)(hst:x.st=5) :
  Calls Tryz.prog 76 #[.pointer (some ⟨p,0,none⟩)] w fun v w'=>xxu ρ w p x.advance v w':=by
 have HA:Hid (x.advance=x.h5):=by show x.advance=_;unfold MS.advance;simp only [hst]
 have HM:Hid (MM ρ w p x∧Pre x):=⟨h,pr⟩
 have HO:Hid (OrdP w∧ρ 0=0):=⟨hO,hG⟩
 have HPR:Hid (vbd 5 x):=by have:=pr.at_;rw [hst] at this;exact this
 have HS:Hid (x.st=5):=hst;have c7:=h.cell7.1;rw [hst] at c7;clear h pr hO hG hst;go_enter Tryz.func76,Tryz.ntmps76
 go_wp2_with fail
 refine (jqj HM.out.1 HPR.out HS.out).mono ?_;rintro v w1 H1;have H2:Hid (xxu ρ w p x.h5 v w1):=H1.x;obtain rfl:=H2.out.1;clear H1;rw [← HA.out] at H2 ⊢;generalize x.advance.2=n at H2 ⊢;go_wp2_with fail
 go_ret
 exact H2.out
theorem kkt{ρ:Nat->Nat}{w:World}{p:Nat}{x:MS}(h:MM ρ w p x)(pr:Pre x)(hO:OrdP w)(hG:ρ 0=0)(hst:x.st=6) :
  Calls Tryz.prog 76 #[.pointer (some ⟨p,0,none⟩)] w fun v w'=>xxu ρ w p x.advance v w':=by
 have HA:Hid (x.advance=x.h6):=by show x.advance=_;unfold MS.advance;simp only [hst]
 have HM:Hid (MM ρ w p x∧Pre x):=⟨h,pr⟩
 have HO:Hid (OrdP w∧ρ 0=0):=⟨hO,hG⟩
 have HPR:Hid (vbd 6 x):=by have:=pr.at_;rw [hst] at this;exact this
 have HS:Hid (x.st=6):=hst;have c7:=h.cell7.1;rw [hst] at c7;clear h pr hO hG hst;go_enter Tryz.func76,Tryz.ntmps76
 go_wp2_with fail
 refine (vkj HM.out.1 HPR.out HS.out).mono ?_;rintro v w1 H1;have H2:Hid (xxu ρ w p x.h6 v w1):=H1.x;obtain rfl:=H2.out.1;clear H1;rw [← HA.out] at H2 ⊢;generalize x.advance.2=n at H2 ⊢;go_wp2_with fail
 go_ret
 exact H2.out
theorem ycz{ρ:Nat->Nat}{w:World}{p:Nat}{x:MS}(h:MM ρ w p x)(pr:Pre x)(hO:OrdP w)(hG:ρ 0=0)(hst:x.st=7) :
  Calls Tryz.prog 76 #[.pointer (some ⟨p,0,none⟩)] w fun v w'=>xxu ρ w p x.advance v w':=by
 have HA:Hid (x.advance=x.b7):=by show x.advance=_;unfold MS.advance;simp only [hst]
 have HM:Hid (MM ρ w p x∧Pre x):=⟨h,pr⟩
 have HO:Hid (OrdP w∧ρ 0=0):=⟨hO,hG⟩
 have HPR:Hid (vbd 7 x):=by have:=pr.at_;rw [hst] at this;exact this
 have HS:Hid (x.st=7):=hst;have c7:=h.cell7.1;rw [hst] at c7;clear h pr hO hG hst;go_enter Tryz.func76,Tryz.ntmps76
 go_wp2_with fail
 refine (kvf HM.out.1 HM.out.2.ok HM.out.2.cnt).mono ?_;rintro v w1 H1;have H2:Hid (xxu ρ w p x.b7 v w1):=H1;obtain rfl:=H2.out.1;clear H1;rw [← HA.out] at H2 ⊢;generalize x.advance.2=n at H2 ⊢;go_wp2_with fail
 go_ret
 exact H2.out
theorem yq2{ρ:Nat->Nat}{w:World}{p:Nat}{x:MS}(h:MM ρ w p x)(pr:Pre x)(hO:OrdP w)(hG:ρ 0=0)(hst:x.st=8) :
  Calls Tryz.prog 76 #[.pointer (some ⟨p,0,none⟩)] w fun v w'=>xxu ρ w p x.advance v w':=by
 have HA:Hid (x.advance=x.b8):=by show x.advance=_;unfold MS.advance;simp only [hst]
 have HM:Hid (MM ρ w p x∧Pre x):=⟨h,pr⟩
 have HO:Hid (OrdP w∧ρ 0=0):=⟨hO,hG⟩
 have HPR:Hid (vbd 8 x):=by have:=pr.at_;rw [hst] at this;exact this
 have HS:Hid (x.st=8):=hst;have c7:=h.cell7.1;rw [hst] at c7;clear h pr hO hG hst;go_enter Tryz.func76,Tryz.ntmps76
 go_wp2_with fail
 refine (xz4 HM.out.1 HM.out.2.ok HM.out.2.cnt HS.out).mono ?_;rintro v w1 H1;have H2:Hid (xxu ρ w p x.b8 v w1):=H1.x;obtain rfl:=H2.out.1;clear H1;rw [← HA.out] at H2 ⊢;generalize x.advance.2=n at H2 ⊢;go_wp2_with fail
 go_ret
 exact H2.out
theorem xgi{ρ:Nat->Nat}{w:World}{p:Nat}{x:MS}(h:MM ρ w p x)(pr:Pre x)(hO:OrdP w)(hG:ρ 0=0)(hst:x.st=9) :
  Calls Tryz.prog 76 #[.pointer (some ⟨p,0,none⟩)] w fun v w'=>xxu ρ w p x.advance v w':=by
 have HA:Hid (x.advance=x.b9):=by show x.advance=_;unfold MS.advance;simp only [hst]
 have HM:Hid (MM ρ w p x∧Pre x):=⟨h,pr⟩
 have HO:Hid (OrdP w∧ρ 0=0):=⟨hO,hG⟩
 have HPR:Hid (vbd 9 x):=by have:=pr.at_;rw [hst] at this;exact this
 have HS:Hid (x.st=9):=hst;have c7:=h.cell7.1;rw [hst] at c7;clear h pr hO hG hst;go_enter Tryz.func76,Tryz.ntmps76
 go_wp2_with fail
 refine (x1y HM.out.1 HM.out.2.ok HM.out.2.cnt HPR.out HS.out).mono ?_;rintro v w1 H1;have H2:Hid (xxu ρ w p x.b9 v w1):=H1.x;obtain rfl:=H2.out.1;clear H1;rw [← HA.out] at H2 ⊢;generalize x.advance.2=n at H2 ⊢;go_wp2_with fail
 go_ret
 exact H2.out
theorem j78{ρ:Nat->Nat}{w:World}{p:Nat}{x:MS}(h:MM ρ w p x)(pr:Pre x)(hO:OrdP w)(hG:ρ 0=0)(hst:x.st=10) :
  Calls Tryz.prog 76 #[.pointer (some ⟨p,0,none⟩)] w fun v w'=>xxu ρ w p x.advance v w':=by
 have HA:Hid (x.advance=x.o10):=by show x.advance=_;unfold MS.advance;simp only [hst]
 have HM:Hid (MM ρ w p x∧Pre x):=⟨h,pr⟩
 have HO:Hid (OrdP w∧ρ 0=0):=⟨hO,hG⟩
 have HPR:Hid (vbd 10 x):=by have:=pr.at_;rw [hst] at this;exact this
 have HS:Hid (x.st=10):=hst;have c7:=h.cell7.1;rw [hst] at c7;clear h pr hO hG hst;go_enter Tryz.func76,Tryz.ntmps76
 go_wp2_with fail
 refine (v5j HM.out.1 HM.out.2.ok (by have:=HM.out.2.cnt;omega) HO.out.1 HO.out.2 HPR.out HS.out).mono ?_;rintro v w1 H1;have H2:Hid (xxu ρ w p x.o10 v w1):=H1;obtain rfl:=H2.out.1;clear H1;rw [← HA.out] at H2 ⊢;generalize x.advance.2=n at H2 ⊢;go_wp2_with fail
 go_ret
 exact H2.out
theorem yrm{ρ:Nat->Nat}{w:World}{p:Nat}{x:MS}(h:MM ρ w p x)(pr:Pre x)(hO:OrdP w)(hG:ρ 0=0)(hst:x.st=11) :
  Calls Tryz.prog 76 #[.pointer (some ⟨p,0,none⟩)] w fun v w'=>xxu ρ w p x.advance v w':=by
 have HA:Hid (x.advance=x.o11):=by show x.advance=_;unfold MS.advance;simp only [hst]
 have HM:Hid (MM ρ w p x∧Pre x):=⟨h,pr⟩
 have HO:Hid (OrdP w∧ρ 0=0):=⟨hO,hG⟩
 have HPR:Hid (vbd 11 x):=by have:=pr.at_;rw [hst] at this;exact this
 have HS:Hid (x.st=11):=hst;have c7:=h.cell7.1;rw [hst] at c7;clear h pr hO hG hst;go_enter Tryz.func76,Tryz.ntmps76
 go_wp2_with fail
 refine (z5n HM.out.1 HM.out.2.ok (by have:=HM.out.2.cnt;omega) HO.out.1 HO.out.2 HPR.out HS.out).mono ?_;rintro v w1 H1;have H2:Hid (xxu ρ w p x.o11 v w1):=H1;obtain rfl:=H2.out.1;clear H1;rw [← HA.out] at H2 ⊢;generalize x.advance.2=n at H2 ⊢;go_wp2_with fail
 go_ret
 exact H2.out
theorem kca{ρ:Nat->Nat}{w:World}{p:Nat}{x:MS}(h:MM ρ w p x)(pr:Pre x)(hO:OrdP w)(hG:ρ 0=0)(hst:x.st=12) :
  Calls Tryz.prog 76 #[.pointer (some ⟨p,0,none⟩)] w fun v w'=>xxu ρ w p x.advance v w':=by
 have HA:Hid (x.advance=x.o12):=by show x.advance=_;unfold MS.advance;simp only [hst]
 have HM:Hid (MM ρ w p x∧Pre x):=⟨h,pr⟩
 have HO:Hid (OrdP w∧ρ 0=0):=⟨hO,hG⟩
 have HPR:Hid (vbd 12 x):=by have:=pr.at_;rw [hst] at this;exact this
 have HS:Hid (x.st=12):=hst;have c7:=h.cell7.1;rw [hst] at c7;clear h pr hO hG hst;go_enter Tryz.func76,Tryz.ntmps76
 go_wp2_with fail
 refine (y4i HM.out.1 HM.out.2.ok (by have:=HM.out.2.cnt;omega) HO.out.1 HO.out.2 HPR.out HS.out).mono ?_;rintro v w1 H1;have H2:Hid (xxu ρ w p x.o12 v w1):=H1;obtain rfl:=H2.out.1;clear H1;rw [← HA.out] at H2 ⊢;generalize x.advance.2=n at H2 ⊢;go_wp2_with fail
 go_ret
 exact H2.out
theorem kld{ρ:Nat->Nat}{w:World}{p:Nat}{x:MS}(h:MM ρ w p x)(pr:Pre x)(hO:OrdP w)(hG:ρ 0=0)(hst:x.st=13) :
  Calls Tryz.prog 76 #[.pointer (some ⟨p,0,none⟩)] w fun v w'=>xxu ρ w p x.advance v w':=by
 have HA:Hid (x.advance=x.o13):=by show x.advance=_;unfold MS.advance;simp only [hst]
 have HM:Hid (MM ρ w p x∧Pre x):=⟨h,pr⟩
 have HO:Hid (OrdP w∧ρ 0=0):=⟨hO,hG⟩
 have HPR:Hid (vbd 13 x):=by have:=pr.at_;rw [hst] at this;exact this
 have HS:Hid (x.st=13):=hst;have c7:=h.cell7.1;rw [hst] at c7;clear h pr hO hG hst;go_enter Tryz.func76,Tryz.ntmps76
 go_wp2_with fail
 refine (ylo HM.out.1 HM.out.2.ok (by have:=HM.out.2.cnt;omega) HO.out.1 HO.out.2 HPR.out.1 HPR.out.2.1 HPR.out.2.2 HS.out).mono ?_;rintro v w1 H1;have H2:Hid (xxu ρ w p x.o13 v w1):=H1;obtain rfl:=H2.out.1;clear H1;rw [← HA.out] at H2 ⊢;generalize x.advance.2=n at H2 ⊢;go_wp2_with fail
 go_ret
 exact H2.out
theorem jam{ρ:Nat->Nat}{w:World}{p:Nat}{x:MS}(h:MM ρ w p x)(pr:Pre x)(hO:OrdP w)(hG:ρ 0=0)(hst:x.st=14) :
  Calls Tryz.prog 76 #[.pointer (some ⟨p,0,none⟩)] w fun v w'=>xxu ρ w p x.advance v w':=by
 have HA:Hid (x.advance=x.r14):=by show x.advance=_;unfold MS.advance;simp only [hst]
 have HM:Hid (MM ρ w p x∧Pre x):=⟨h,pr⟩
 have HO:Hid (OrdP w∧ρ 0=0):=⟨hO,hG⟩
 have HPR:Hid (vbd 14 x):=by have:=pr.at_;rw [hst] at this;exact this
 have HS:Hid (x.st=14):=hst;have c7:=h.cell7.1;rw [hst] at c7;clear h pr hO hG hst;go_enter Tryz.func76,Tryz.ntmps76
 go_wp2_with fail
 refine (xsa HM.out.1 HM.out.2.ok (by have:=HM.out.2.cnt;omega) HPR.out.1 HPR.out.2.1 HPR.out.2.2 HS.out).mono ?_;rintro v w1 H1;have H2:Hid (xxu ρ w p x.r14 v w1):=H1;obtain rfl:=H2.out.1;clear H1;rw [← HA.out] at H2 ⊢;generalize x.advance.2=n at H2 ⊢;go_wp2_with fail
 go_ret
 exact H2.out
theorem k6p{ρ:Nat->Nat}{w:World}{p:Nat}{x:MS}(h:MM ρ w p x)(pr:Pre x)(hO:OrdP w)(hG:ρ 0=0)(hst:x.st=15) :
  Calls Tryz.prog 76 #[.pointer (some ⟨p,0,none⟩)] w fun v w'=>xxu ρ w p x.advance v w':=by
 have HA:Hid (x.advance=x.r15):=by show x.advance=_;unfold MS.advance;simp only [hst]
 have HM:Hid (MM ρ w p x∧Pre x):=⟨h,pr⟩
 have HO:Hid (OrdP w∧ρ 0=0):=⟨hO,hG⟩
 have HPR:Hid (vbd 15 x):=by have:=pr.at_;rw [hst] at this;exact this
 have HS:Hid (x.st=15):=hst;have c7:=h.cell7.1;rw [hst] at c7;clear h pr hO hG hst;go_enter Tryz.func76,Tryz.ntmps76
 go_wp2_with fail
 refine (yf3 HM.out.1 HM.out.2.ok (by have:=HM.out.2.cnt;omega) HPR.out.1 HPR.out.2.1 HPR.out.2.2.1 HPR.out.2.2.2 HS.out).mono ?_;rintro v w1 H1;have H2:Hid (xxu ρ w p x.r15 v w1):=H1;obtain rfl:=H2.out.1;clear H1;rw [← HA.out] at H2 ⊢;generalize x.advance.2=n at H2 ⊢;go_wp2_with fail
 go_ret
 exact H2.out
theorem vay{ρ:Nat->Nat}{w:World}{p:Nat}{x:MS}(h:MM ρ w p x)(pr:Pre x)(hO:OrdP w)(hG:ρ 0=0)(hst:x.st=16) :
  Calls Tryz.prog 76 #[.pointer (some ⟨p,0,none⟩)] w fun v w'=>xxu ρ w p x.advance v w':=by
 have HA:Hid (x.advance=x.c16):=by show x.advance=_;unfold MS.advance;simp only [hst]
 have HM:Hid (MM ρ w p x∧Pre x):=⟨h,pr⟩
 have HO:Hid (OrdP w∧ρ 0=0):=⟨hO,hG⟩
 have HPR:Hid (vbd 16 x):=by have:=pr.at_;rw [hst] at this;exact this
 have HS:Hid (x.st=16):=hst;have c7:=h.cell7.1;rw [hst] at c7;clear h pr hO hG hst;go_enter Tryz.func76,Tryz.ntmps76
 go_wp2_with fail
 refine (xoi HM.out.1 HM.out.2.ok (by have:=HM.out.2.cnt;omega) HPR.out.1 HPR.out.2.1 HPR.out.2.2.1 HPR.out.2.2.2.1 HPR.out.2.2.2.2 HS.out).mono ?_;rintro v w1 H1;have H2:Hid (xxu ρ w p x.c16 v w1):=H1.x;obtain rfl:=H2.out.1;clear H1;rw [← HA.out] at H2 ⊢;generalize x.advance.2=n at H2 ⊢;go_wp2_with fail
 go_ret
 exact H2.out
theorem jxx{ρ:Nat->Nat}{w:World}{p:Nat}{x:MS}(h:MM ρ w p x)(pr:Pre x)(hO:OrdP w)(hG:ρ 0=0)(hst:x.st=17) :
  Calls Tryz.prog 76 #[.pointer (some ⟨p,0,none⟩)] w fun v w'=>xxu ρ w p x.advance v w':=by
 have HA:Hid (x.advance=x.c17):=by show x.advance=_;unfold MS.advance;simp only [hst]
 have HM:Hid (MM ρ w p x∧Pre x):=⟨h,pr⟩
 have HO:Hid (OrdP w∧ρ 0=0):=⟨hO,hG⟩
 have HPR:Hid (vbd 17 x):=by have:=pr.at_;rw [hst] at this;exact this
 have HS:Hid (x.st=17):=hst;have c7:=h.cell7.1;rw [hst] at c7;clear h pr hO hG hst;go_enter Tryz.func76,Tryz.ntmps76
 go_wp2_with fail
 refine (vqc HM.out.1 HM.out.2.ok (by have:=HM.out.2.cnt;omega) HPR.out.1 HPR.out.2.1 HPR.out.2.2.1 HPR.out.2.2.2 HS.out).mono ?_;rintro v w1 H1;have H2:Hid (xxu ρ w p x.c17 v w1):=H1.x;obtain rfl:=H2.out.1;clear H1;rw [← HA.out] at H2 ⊢;generalize x.advance.2=n at H2 ⊢;go_wp2_with fail
 go_ret
 exact H2.out
theorem kwb{ρ:Nat->Nat}{w:World}{p:Nat}{x:MS}(h:MM ρ w p x)(pr:Pre x)(hO:OrdP w)(hG:ρ 0=0)(hst:x.st=18) :
  Calls Tryz.prog 76 #[.pointer (some ⟨p,0,none⟩)] w fun v w'=>xxu ρ w p x.advance v w':=by
 have HA:Hid (x.advance=x.c18):=by show x.advance=_;unfold MS.advance;simp only [hst]
 have HM:Hid (MM ρ w p x∧Pre x):=⟨h,pr⟩
 have HO:Hid (OrdP w∧ρ 0=0):=⟨hO,hG⟩
 have HPR:Hid (vbd 18 x):=by have:=pr.at_;rw [hst] at this;exact this
 have HS:Hid (x.st=18):=hst;have c7:=h.cell7.1;rw [hst] at c7;clear h pr hO hG hst;go_enter Tryz.func76,Tryz.ntmps76
 go_wp2_with fail
 refine (z0y HM.out.1 HM.out.2.ok (by have:=HM.out.2.cnt;omega) HPR.out.1 HPR.out.2.1 HPR.out.2.2.1 HPR.out.2.2.2 HS.out).mono ?_;rintro v w1 H1;have H2:Hid (xxu ρ w p x.c18 v w1):=H1.x;obtain rfl:=H2.out.1;clear H1;rw [← HA.out] at H2 ⊢;generalize x.advance.2=n at H2 ⊢;go_wp2_with fail
 go_ret
 exact H2.out
theorem ycr{ρ:Nat->Nat}{w:World}{p:Nat}{x:MS}(h:MM ρ w p x)(pr:Pre x)(hO:OrdP w)(hG:ρ 0=0)(hst:x.st=19) :
  Calls Tryz.prog 76 #[.pointer (some ⟨p,0,none⟩)] w fun v w'=>xxu ρ w p x.advance v w':=by
 have HA:Hid (x.advance=x.c19):=by show x.advance=_;unfold MS.advance;simp only [hst]
 have HM:Hid (MM ρ w p x∧Pre x):=⟨h,pr⟩
 have HO:Hid (OrdP w∧ρ 0=0):=⟨hO,hG⟩
 have HPR:Hid (vbd 19 x):=by have:=pr.at_;rw [hst] at this;exact this
 have HS:Hid (x.st=19):=hst;have c7:=h.cell7.1;rw [hst] at c7;clear h pr hO hG hst;go_enter Tryz.func76,Tryz.ntmps76
 go_wp2_with fail
 refine (j5a HM.out.1 HM.out.2.ok (by have:=HM.out.2.cnt;omega) HPR.out.1 HPR.out.2.1 HPR.out.2.2.1 HPR.out.2.2.2 HS.out).mono ?_;rintro v w1 H1;have H2:Hid (xxu ρ w p x.c19 v w1):=H1.x;obtain rfl:=H2.out.1;clear H1;rw [← HA.out] at H2 ⊢;generalize x.advance.2=n at H2 ⊢;go_wp2_with fail
 go_ret
 exact H2.out
theorem zqb{ρ:Nat->Nat}{w:World}{p:Nat}{x:MS}(h:MM ρ w p x)(pr:Pre x)(hO:OrdP w)(hG:ρ 0=0)(hst:x.st=20) :
  Calls Tryz.prog 76 #[.pointer (some ⟨p,0,none⟩)] w fun v w'=>xxu ρ w p x.advance v w':=by
 have HA:Hid (x.advance=x.c20):=by show x.advance=_;unfold MS.advance;simp only [hst]
 have HM:Hid (MM ρ w p x∧Pre x):=⟨h,pr⟩
 have HO:Hid (OrdP w∧ρ 0=0):=⟨hO,hG⟩
 have HPR:Hid (vbd 20 x):=by have:=pr.at_;rw [hst] at this;exact this
 have HS:Hid (x.st=20):=hst;have c7:=h.cell7.1;rw [hst] at c7;clear h pr hO hG hst;go_enter Tryz.func76,Tryz.ntmps76
 go_wp2_with fail
 refine (knx HM.out.1 HM.out.2.ok (by have:=HM.out.2.cnt;omega) HPR.out.1 HPR.out.2.1 HPR.out.2.2.1 HPR.out.2.2.2.1 HPR.out.2.2.2.2 HS.out).mono ?_;rintro v w1 H1;have H2:Hid (xxu ρ w p x.c20 v w1):=H1.x;obtain rfl:=H2.out.1;clear H1;rw [← HA.out] at H2 ⊢;generalize x.advance.2=n at H2 ⊢;go_wp2_with fail
 go_ret
 exact H2.out
theorem jro{ρ:Nat->Nat}{w:World}{p:Nat}{x:MS}(h:MM ρ w p x)(pr:Pre x)(hO:OrdP w)(hG:ρ 0=0)(hst:x.st=21) :
  Calls Tryz.prog 76 #[.pointer (some ⟨p,0,none⟩)] w fun v w'=>xxu ρ w p x.advance v w':=by
 have HA:Hid (x.advance=x.c21):=by show x.advance=_;unfold MS.advance;simp only [hst]
 have HM:Hid (MM ρ w p x∧Pre x):=⟨h,pr⟩
 have HO:Hid (OrdP w∧ρ 0=0):=⟨hO,hG⟩
 have HPR:Hid (vbd 21 x):=by have:=pr.at_;rw [hst] at this;exact this
 have HS:Hid (x.st=21):=hst;have c7:=h.cell7.1;rw [hst] at c7;clear h pr hO hG hst;go_enter Tryz.func76,Tryz.ntmps76
 go_wp2_with fail
 refine (x1x HM.out.1 HM.out.2.ok HPR.out.1 HPR.out.2.1 HPR.out.2.2.1 HPR.out.2.2.2 HS.out).mono ?_;rintro v w1 H1;have H2:Hid (xxu ρ w p x.c21 v w1):=H1.x;obtain rfl:=H2.out.1;clear H1;rw [← HA.out] at H2 ⊢;generalize x.advance.2=n at H2 ⊢;go_wp2_with fail
 go_ret
 exact H2.out
theorem jz2{ρ:Nat->Nat}{w:World}{p:Nat}{x:MS}(h:MM ρ w p x)(pr:Pre x)(hO:OrdP w)(hG:ρ 0=0)(hst:x.st=22) :
  Calls Tryz.prog 76 #[.pointer (some ⟨p,0,none⟩)] w fun v w'=>xxu ρ w p x.advance v w':=by
 have HA:Hid (x.advance=x.e22):=by show x.advance=_;unfold MS.advance;simp only [hst]
 have HM:Hid (MM ρ w p x∧Pre x):=⟨h,pr⟩
 have HO:Hid (OrdP w∧ρ 0=0):=⟨hO,hG⟩
 have HPR:Hid (vbd 22 x):=by have:=pr.at_;rw [hst] at this;exact this
 have HS:Hid (x.st=22):=hst;have c7:=h.cell7.1;rw [hst] at c7;clear h pr hO hG hst;go_enter Tryz.func76,Tryz.ntmps76
 go_wp2_with fail
 refine (van HM.out.1 HM.out.2.ok HM.out.2.cnt HS.out).mono ?_;rintro v w1 H1;have H2:Hid (xxu ρ w p x.e22 v w1):=H1.x;obtain rfl:=H2.out.1;clear H1;rw [← HA.out] at H2 ⊢;generalize x.advance.2=n at H2 ⊢;go_wp2_with fail
 go_ret
 exact H2.out
theorem ku6{ρ:Nat->Nat}{w:World}{p:Nat}{x:MS}(h:MM ρ w p x)(pr:Pre x)(hO:OrdP w)(hG:ρ 0=0)(hst:x.st=23) :
  Calls Tryz.prog 76 #[.pointer (some ⟨p,0,none⟩)] w fun v w'=>xxu ρ w p x.advance v w':=by
 have HA:Hid (x.advance=x.e23):=by show x.advance=_;unfold MS.advance;simp only [hst]
 have HM:Hid (MM ρ w p x∧Pre x):=⟨h,pr⟩
 have HO:Hid (OrdP w∧ρ 0=0):=⟨hO,hG⟩
 have HPR:Hid (vbd 23 x):=by have:=pr.at_;rw [hst] at this;exact this
 have HS:Hid (x.st=23):=hst;have c7:=h.cell7.1;rw [hst] at c7;clear h pr hO hG hst;go_enter Tryz.func76,Tryz.ntmps76
 go_wp2_with fail
 refine (j0c HM.out.1 HM.out.2.ok HM.out.2.cnt HS.out).mono ?_;rintro v w1 H1;have H2:Hid (xxu ρ w p x.e23 v w1):=H1.x;obtain rfl:=H2.out.1;clear H1;rw [← HA.out] at H2 ⊢;generalize x.advance.2=n at H2 ⊢;go_wp2_with fail
 go_ret
 exact H2.out
theorem y4k{ρ:Nat->Nat}{w:World}{p:Nat}{x:MS}(h:MM ρ w p x)(pr:Pre x)(hO:OrdP w)(hG:ρ 0=0)(hst:x.st=24) :
  Calls Tryz.prog 76 #[.pointer (some ⟨p,0,none⟩)] w fun v w'=>xxu ρ w p x.advance v w':=by
 have HA:Hid (x.advance=x.e24):=by show x.advance=_;unfold MS.advance;simp only [hst]
 have HM:Hid (MM ρ w p x∧Pre x):=⟨h,pr⟩
 have HO:Hid (OrdP w∧ρ 0=0):=⟨hO,hG⟩
 have HPR:Hid (vbd 24 x):=by have:=pr.at_;rw [hst] at this;exact this
 have HS:Hid (x.st=24):=hst;have c7:=h.cell7.1;rw [hst] at c7;clear h pr hO hG hst;go_enter Tryz.func76,Tryz.ntmps76
 go_wp2_with fail
 refine (z0q HM.out.1 HM.out.2.ok HM.out.2.cnt HS.out).mono ?_;rintro v w1 H1;have H2:Hid (xxu ρ w p x.e24 v w1):=H1.x;obtain rfl:=H2.out.1;clear H1;rw [← HA.out] at H2 ⊢;generalize x.advance.2=n at H2 ⊢;go_wp2_with fail
 go_ret
 exact H2.out
theorem xwj{ρ:Nat->Nat}{w:World}{p:Nat}{x:MS}(h:MM ρ w p x)(pr:Pre x)(hO:OrdP w)(hG:ρ 0=0) :
  Calls Tryz.prog 76 #[.pointer (some ⟨p,0,none⟩)] w fun v w'=>xxu ρ w p x.advance v w':=by
 have hs:=pr.st;obtain e | e | e | e | e | e | e | e | e | e | e | e | e | e | e | e | e | e | e | e | e | e | e | e | e:x.st=0∨x.st=1∨x.st=2∨x.st=3∨x.st=4∨x.st=5∨x.st=6∨x.st=7∨x.st=8∨x.st=9∨x.st=10∨x.st=11∨x.st=12∨x.st=13∨x.st=14∨x.st=15∨x.st=16∨x.st=17∨x.st=18∨x.st=19∨x.st=20∨x.st=21∨x.st=22∨x.st=23∨x.st=24:=by omega
 ·exact zdj h pr hO hG e
 ·exact xso h pr hO hG e
 ·exact vuw h pr hO hG e
 ·exact xhr h pr hO hG e
 ·exact jl0 h pr hO hG e
 ·exact joe h pr hO hG e
 ·exact kkt h pr hO hG e
 ·exact ycz h pr hO hG e
 ·exact yq2 h pr hO hG e
 ·exact xgi h pr hO hG e
 ·exact j78 h pr hO hG e
 ·exact yrm h pr hO hG e
 ·exact kca h pr hO hG e
 ·exact kld h pr hO hG e
 ·exact jam h pr hO hG e
 ·exact k6p h pr hO hG e
 ·exact vay h pr hO hG e
 ·exact jxx h pr hO hG e
 ·exact kwb h pr hO hG e
 ·exact ycr h pr hO hG e
 ·exact zqb h pr hO hG e
 ·exact jro h pr hO hG e
 ·exact jz2 h pr hO hG e
 ·exact ku6 h pr hO hG e
 ·exact y4k h pr hO hG e
def MQ(ρ:Nat->Nat)(w:World)(p:Nat)(x:MS):Prop:=∃ L,MB ρ w p x L∧MT ρ w x L∧L.sv= .slice none 0 0∧L.sa=0
theorem MQ.mm{ρ:Nat->Nat}{w:World}{p:Nat}{x:MS}(h:MQ ρ w p x):MM ρ w p x:=by obtain ⟨L,a,b,_⟩:=h;exact ⟨L,a,b⟩
theorem MQ.fr{ρ:Nat->Nat}{w w':World}{p:Nat}{x:MS}(h:MQ ρ w p x)(f:Kp (fun _=>False) ρ w w'):MQ ρ w' p x:=by
 obtain ⟨L,h1,h2,h3⟩:=h;exact ⟨L,h1.fr f,h2.fr f (fun _ e=>e.elim),h3⟩
theorem MQ.below{ρ:Nat->Nat}{w w':World}{p:Nat}{x:MS}(h:MQ ρ w p x)(f:Below w.heap.size w w'):MQ ρ w' p x:=h.fr (Kp.of_below f)
theorem TabS.rho9{ρ ρ':Nat->Nat}{w:World}{T:TypeId}{k:Nat}{mean:Nat->List Value}{t:Nat}{l:List Int}(h:TabS ρ w T k mean t l)(e:∀ k,ρ k≠0->ρ k≠9->ρ' k=ρ k):TabS ρ' w T k mean t l:=by
 obtain ⟨m,n,mg,I,h1,h2,h3⟩:=h.tab;exact ⟨⟨m,n,mg,I,h1,h2,by rw [e m (by rw [h3];decide) (by rw [h3];decide)];exact h3⟩,by rw [e t (by rw [h.role];decide) (by rw [h.role];decide)];exact h.role,h.rng,h.len⟩
theorem yoe.rho9{ρ ρ':Nat->Nat}{w:World}{g:Nat}{la lb:List Int}(h:yoe ρ w g la lb)(e:∀ k,ρ k≠0->ρ k≠9->ρ' k=ρ k):yoe ρ' w g la lb:=by
 obtain ⟨t,u,h1,h2,h3,h4⟩:=h;exact ⟨t,u,h1,by rw [e g (by rw [h2];decide) (by rw [h2];decide)];exact h2,h3.rho9 e,h4.rho9 e⟩
theorem MB.rho9{ρ ρ':Nat->Nat}{w:World}{p:Nat}{x:MS}{L:Lo}(B:MB ρ w p x L)(e:∀ k,ρ k≠0->ρ k≠9->ρ' k=ρ k):MB ρ' w p x L:=by
 obtain ⟨r1,r2,r3,r4⟩:=B.rl;exact ⟨B.row,B.ra,B.rc,by rw [e p (by rw [B.rp];decide) (by rw [B.rp];decide)];exact B.rp,by rw [e _ (by rw [r1];decide) (by rw [r1];decide)];exact r1,by rw [e _ (by rw [r2];decide) (by rw [r2];decide)];exact r2,by rw [e _ (by rw [r3];decide) (by rw [r3];decide)];exact r3,by rw [e _ (by rw [r4];decide) (by rw [r4];decide)];exact r4⟩
theorem MT.rho9{ρ ρ':Nat->Nat}{w:World}{x:MS}{L:Lo}(T:MT ρ w x L)(e:∀ k,ρ k≠0->ρ k≠9->ρ' k=ρ k)(l:∀ k,ρ' k≠0->k<w.heap.size){v:Value}{n:Nat}{r:List Nat}(hs:SupI ρ' w v n r):MT ρ' w { x with rest:=r } { L with sv:=v,sa:=n } where
 sup:=hs
 hl:=⟨T.hl.1,fun g hg=>by rw [e g (by rw [T.hl.2 g hg];decide) (by rw [T.hl.2 g hg];decide)];exact T.hl.2 g hg⟩
 rw:=⟨T.rw.1,fun g hg=>by rw [e g (by rw [T.rw.2 g hg];decide) (by rw [T.rw.2 g hg];decide)];exact T.rw.2 g hg⟩
 hp:=T.hp.imp id fun ⟨t,a,b⟩=>⟨t,a,b.rho9 e⟩
 sets:=T.sets.imp id fun ⟨t,a,b⟩=>⟨t,a,b.rho9 e⟩
 fx:=T.fx.imp id fun ⟨t,a,b⟩=>⟨t,a,b.rho9 e⟩
 lt:=l
theorem SupI.nil_(ρ:Nat->Nat)(w:World):SupI ρ w (.slice none 0 0) 0 []:=⟨none,[],0,rfl,fun k hk=>by simp at hk,Nat.le_refl _,by unfold maxLen;omega,fun s hs=>by simp at hs,Nat.zero_le _,rfl,fun b o e=>by cases e⟩
structure Pcs(ρ:Nat->Nat)(w:World)(v:Value)(P:List ByteArray):Prop where
 at_:∃ ad cap,v= .slice ad P.length cap∧StrO w ad P∧P.length<=cap∧cap<=maxLen∧(∀ s∈P,s.size<=maxLen)∧∀ b o,ad=some ⟨b,o,none⟩->(ρ b=0∧b≠0)∧b<w.heap.size
theorem Pcs.nil_(ρ:Nat->Nat)(w:World):Pcs ρ w (.slice none 0 0) []:=⟨none,0,rfl,fun k hk=>by simp at hk,Nat.le_refl _,by unfold maxLen;omega,fun s hs=>by simp at hs,fun b o e=>by cases e⟩
theorem Pcs.below{ρ:Nat->Nat}{w w':World}{v:Value}{P:List ByteArray}(h:Pcs ρ w v P)(f:Below w.heap.size w w'):Pcs ρ w' v P:=by
 obtain ⟨ad,cap,h1,h2,h3,h4,h5,h6⟩:=h.at_;refine ⟨ad,cap,h1,fun k hk=>?_,h3,h4,h5,fun b o e=>⟨(h6 b o e).1,Nat.lt_of_lt_of_le (h6 b o e).2 f.size⟩⟩;obtain ⟨b,o,e,hb,hc⟩:=h2 k hk;exact ⟨b,o,e,Nat.lt_of_lt_of_le hb f.size,by rw [← hc];exact f.cell hb⟩
theorem Pcs.sup{ρ:Nat->Nat}{w:World}{v:Value}{P:List ByteArray}(h:Pcs ρ w v P)(lt:∀ k,ρ k≠0->k<w.heap.size) :
  ∃ ρ',(∀ k,ρ k≠0->ρ' k=ρ k)∧(∀ k,ρ' k≠ρ k->(ρ k=0∧k≠0)∧ρ' k=9)∧(∀ k,ρ' k≠0->k<w.heap.size)∧SupI ρ' w v 0 (P.flatMap strN):=by
 obtain ⟨ad,cap,h1,h2,h3,h4,h5,h6⟩:=h.at_;by_cases hb:∃ b o,ad=some ⟨b,o,Option.none⟩
 ·obtain ⟨b,o,rfl⟩:=hb;obtain ⟨k0,k1⟩:=h6 b o rfl;refine ⟨give ρ b 9,z5c (Or.inl k0.1),fun k hk=>?_,fun k hk=>?_,_,P,cap,h1,h2,h3,h4,h5,Nat.zero_le _,by rw [List.drop_zero],fun b' o' e=>?_⟩
  ·by_cases e:k=b
   ·subst e;exact ⟨k0,v07 _ _ _⟩
   ·exact absurd (show give ρ b 9 k=ρ k from if_neg e) hk
  ·by_cases e:k=b
   ·subst e;exact k1
   ·exact lt k (by rw [show give ρ b 9 k=ρ k from if_neg e] at hk;exact hk)
  ·injection e with e;injection e with e1 e2;subst e1;exact v07 _ _ _
 ·exact ⟨ρ,fun _ _=>rfl,fun k hk=>absurd rfl hk,lt,ad,P,cap,h1,h2,h3,h4,h5,Nat.zero_le _,by rw [List.drop_zero],fun b o e=>absurd ⟨b,o,e⟩ hb⟩
theorem kwp(cs:Array Value)(h:cs.size=2):(Tryz.prog.info? 113).map (·.size)=some cs.size:=by rw [h];kernel_rfl
theorem z6y(v:Value)(w:World)(hv:v.oneCell'=true)(hn:∃ ad n c,v= .slice ad n c):Calls Tryz.prog 75 #[v] w fun e w'=>e= .returned (.agg #[v, .int .i64 0])∧Below w.heap.size w w':=by
 obtain ⟨ad,n,c,rfl⟩:=hn;go_enter Tryz.func75,Tryz.ntmps75
 go_wp2_with fail
 refine bodyPost_ret (v:= .agg #[.slice ad n c, .int .i64 0]) ?_ rfl ?_
 ·exact results_cell_row Tryz.results75 _ _ _ 113 _ _ _ rfl (heap_alloc_new _ _) Tryz.underlying113 rfl (kwp _ rfl)
 ·exact ⟨rfl,(Below.refl _ _).alloc (Nat.le_refl _) _⟩
inductive vgc:Nat->MS->MS×Nat->Prop
 | stop (x:MS):Pre x->x.advance.2≠0->vgc 0 x x.advance
 | go (n:Nat) (x:MS) (r:MS×Nat):Pre x->x.advance.2=0->vgc n x.advance.1 r->vgc (n+1) x r
theorem vgc.rest{n:Nat}{x:MS}{r:MS×Nat}(h:vgc n x r):Pre x:=by cases h <;> assumption
structure jvh(ρ:Nat->Nat)(w:World)(p:Nat)(y:MS)(w':World):Prop where
 ex:∃ ρ',Ext w.heap.size ρ ρ'∧MQ ρ' w' p y
 fr:Fr mine ρ w w'
def Left(ρ:Nat->Nat)(w0:World)(p:Nat)(r:MS×Nat)(w:World)(n:Nat):Prop:=∃ x,ym0 ρ w0 p x w∧vgc n x r
theorem least{P:Nat->Prop}(h:∃ n,P n):∃ n,P n∧∀ m,P m->n<=m:=by
 obtain ⟨n,hn⟩:=h;induction n using Nat.strongRecOn with
 | _ n ih=>
  by_cases h:∃ m,m<n∧P m
  ·obtain ⟨m,hm,hp⟩:=h;exact ih m hm hp
  ·exact ⟨n,hn,fun m hp=>Classical.byContradiction fun hc=>h ⟨m,by omega,hp⟩⟩
open Classical in
noncomputable def v4w(ρ:Nat->Nat)(w0:World)(p:Nat)(r:MS×Nat)(w:World):Nat:=if h:∃ n,Left ρ w0 p r w n then Classical.choose (least h) else 0
theorem vq1{ρ:Nat->Nat}{w0:World}{p:Nat}{r:MS×Nat}{w:World}{n:Nat}(h:Left ρ w0 p r w n):Left ρ w0 p r w (v4w ρ w0 p r w)∧v4w ρ w0 p r w<=n:=by
 have h':∃ n,Left ρ w0 p r w n:=⟨n,h⟩
 unfold v4w;rw [dif_pos h'];have:=Classical.choose_spec (least h');exact ⟨this.1,this.2 n h⟩
def z06(s:Value)(n:Nat):Nat:=if intOf s=0 then n+1 else 0
theorem xta{ρ ρ1:Nat->Nat}{w w1 w2:World}{p:Nat}{y:MS}(hlt:∀ k,ρ k≠0->k<w.heap.size)(h9:∀ k,ρ1 k≠ρ k->ρ k=0∧ρ1 k=9)(h:ym0 ρ1 w1 p y w2)(hs:w.heap.size<=w1.heap.size)(hf:Fr mine ρ w w1) :
  jvh ρ w p { y with rest:=[] } ((w2.setCell ⟨p,12,none⟩ (.slice none 0 0)).setCell ⟨p,13,none⟩ (.int .i64 0)):=by
 obtain ⟨⟨ρ2,e,L,B,T⟩,f⟩:=h;have B1:=B.supply (.slice none 0 0) 0;have F:Fr (fun k=>1<=k∧k<=5) ρ2 w2 ((w2.setCell ⟨p,12,none⟩ (.slice none 0 0)).setCell ⟨p,13,none⟩ (.int .i64 0)):=(Fr.own w2 p 12 _ B.rp).trans (Fr.own _ p 13 _ B.rp);obtain ⟨ρ3,h3⟩:∃ ρ3:Nat->Nat,ρ3=fun k=>if k<w.heap.size then ρ k else ρ2 k:=⟨_,rfl⟩
 have e3:∀ k,ρ2 k≠0->ρ2 k≠9->ρ3 k=ρ2 k:=fun k h0 hk=>by
  rw [h3];by_cases hl:k<w.heap.size
  ·show (if _ then _ else _)=_;rw [if_pos hl];have e1:=e k (by omega);rw [e1] at hk ⊢;exact Classical.byContradiction fun hc=>hk (h9 k (fun q=>hc q.symm)).2
  ·exact if_neg hl
 have hsz:w1.heap.size<=w2.heap.size:=f.kp.size;have FF:Fr mine ρ w ((w2.setCell ⟨p,12,none⟩ (.slice none 0 0)).setCell ⟨p,13,none⟩ (.int .i64 0)):=by
  have g:=f.ext F.five_mine e;have g':Fr mine ρ w1 ((w2.setCell ⟨p,12,none⟩ (.slice none 0 0)).setCell ⟨p,13,none⟩ (.int .i64 0)):=⟨⟨g.kp.size,fun k hk hr=>g.kp.block k hk (fun hq=>by
   by_cases hd:ρ1 k=ρ k
   ·rw [hd] at hq;exact hr hq
   ·rw [(h9 k hd).2] at hq;unfold mine at hq;omega)⟩,g.os,g.tape,g.output⟩
  exact hf.trans g'
 refine ⟨⟨ρ3,fun k hk=>by rw [h3];exact if_pos hk,{ L with sv:= .slice none 0 0,sa:=0 },?_,?_,rfl,rfl⟩,FF⟩
 ·have B2:=B1.rho9 e3;exact ⟨B2.row,B2.ra,B2.rc,B2.rp,B2.rl⟩
 ·refine ((T.fr5 F).rho9 e3 (fun k hk=>?_) (SupI.nil_ _ _));have hsz2:=F.kp.size;rw [h3] at hk;by_cases hl:k<w.heap.size
  ·omega
  ·have hk':ρ2 k≠0:=by have hk2:(if k<w.heap.size then ρ k else ρ2 k)≠0:=hk;rw [if_neg hl] at hk2;exact hk2
   have:=T.lt k hk';omega
theorem jh9{ρ:Nat->Nat}{w:World}{p:Nat}{x:MS}{v:Value}{P:List ByteArray}(h:MQ ρ w p x)(hp:Pcs ρ w v P) :
  ∃ ρ1,(∀ k,ρ1 k≠ρ k->(ρ k=0∧k≠0)∧ρ1 k=9)∧MM ρ1 ((w.setCell ⟨p,12,none⟩ v).setCell ⟨p,13,none⟩ (.int .i64 0)) p { x with rest:=P.flatMap strN }∧Fr mine ρ w ((w.setCell ⟨p,12,none⟩ v).setCell ⟨p,13,none⟩ (.int .i64 0)):=by
 obtain ⟨L,B,T,_⟩:=h;obtain ⟨ρ1,k1,k2,k3,S⟩:=hp.sup T.lt;have B1:=(B.rho k1).supply v 0;have F:Fr (fun k=>1<=k∧k<=5) ρ1 w ((w.setCell ⟨p,12,none⟩ v).setCell ⟨p,13,none⟩ (.int .i64 0)):=(Fr.own w p 12 _ B1.rp).trans (Fr.own _ p 13 _ B1.rp);have F0:Fr (fun k=>1<=k∧k<=5) ρ w ((w.setCell ⟨p,12,none⟩ v).setCell ⟨p,13,none⟩ (.int .i64 0)):=(Fr.own w p 12 _ B.rp).trans (Fr.own _ p 13 _ B.rp);exact ⟨ρ1,k2,⟨{ L with sv:=v,sa:=0 },⟨B1.row,B1.ra,B1.rc,B1.rp,B1.rl⟩,((T.rho k1 k3).supply S).fr5 F⟩,F0.five_mine⟩
theorem MQ.cells{ρ:Nat->Nat}{w:World}{p:Nat}{x:MS}(h:MM ρ w p x):∃ a b,w.cell? ⟨p,12,none⟩=some a∧w.cell? ⟨p,13,none⟩=some b∧w.frozen? ⟨p,12,none⟩=false∧w.frozen? ⟨p,13,none⟩=false∧p<w.heap.size:=by
 obtain ⟨L,B,T⟩:=h;exact ⟨_,_,B.row.cell (i:=12) (by omega),B.row.cell (i:=13) (by omega),B.row.frozen 12,B.row.frozen 13,B.row.lt⟩
theorem mRun{ρ:Nat->Nat}{w:World}{p n:Nat}{x:MS}{v:Value}{P:List ByteArray}{r:MS×Nat}(h:MQ ρ w p x)(hp:Pcs ρ w v P)(hr:vgc n { x with rest:=P.flatMap strN } r)(hO:OrdP w)(hG:ρ 0=0) :
  Calls Tryz.prog 50 #[.pointer (some ⟨p,0,none⟩),v] w fun e w'=>e= .returned (.int .i64 r.2)∧jvh ρ w p { r.1 with rest:=[] } w':=by
 have HM:Hid (MQ ρ w p x∧Pcs ρ w v P∧vgc n { x with rest:=P.flatMap strN } r∧OrdP w∧ρ 0=0):=⟨h,hp,hr,hO,hG⟩
 obtain ⟨ad,cap,rfl,_⟩:=hp.at_;clear h hp hr hO hG;go_enter Tryz.func50,Tryz.ntmps50
 go_wp2_with fail
 refine (z6y (.slice ad P.length cap) w rfl ⟨_,_,_,rfl⟩).mono ?_;rintro e w1 ⟨rfl,b1⟩;have H1:Hid (Below w.heap.size w w1):=b1;obtain ⟨ca,cb,c12,c13,z12,z13,hpl⟩:=MQ.cells (HM.out.1.mm.below b1);clear b1;go_wp2_with fail
 obtain ⟨ρ1,hd,m1,f1⟩:=jh9 (HM.out.1.below H1.out) (HM.out.2.1.below H1.out);have H2:Hid (Left ρ1 ((w1.setCell ⟨p,12,none⟩ (.slice ad P.length cap)).setCell ⟨p,13,none⟩ (.int .i64 0)) p r ((w1.setCell ⟨p,12,none⟩ (.slice ad P.length cap)).setCell ⟨p,13,none⟩ (.int .i64 0)) n):=⟨_,ym0.refl m1,HM.out.2.2.1⟩
 have hf1:Fr mine ρ w ((w1.setCell ⟨p,12,none⟩ (.slice ad P.length cap)).setCell ⟨p,13,none⟩ (.int .i64 0)):=(Fr.below (ρ:=ρ) H1.out).trans f1;generalize ((w1.setCell ⟨p,12,none⟩ (.slice ad P.length cap)).setCell ⟨p,13,none⟩ (.int .i64 0))=w2 at *;have HO2:Hid (OrdP w2∧ρ1 0=0):=⟨HM.out.2.2.2.1.fr hf1 HM.out.2.2.2.2,Classical.byContradiction fun hc=>(hd _ (by rw [HM.out.2.2.2.2];exact hc)).1.2 rfl⟩
 have HD:Hid ((∀ k,ρ1 k≠ρ k->ρ k=0∧ρ1 k=9)∧Fr mine ρ w w2∧∀ k,ρ k≠0->k<w.heap.size):=⟨fun k hk=>⟨(hd k hk).1.1,(hd k hk).2⟩,hf1,by obtain ⟨L,B,T,_⟩:=HM.out.1;exact T.lt⟩
 clear hd m1 f1 hf1 c12 c13 z12 z13 hpl H1 HM;go_loopw [5] (fun s wr=>(s= .int .i64 0∧Hid (∃ k,Left ρ1 w2 p r wr k))∨(Hid (r.2≠0)∧s= .int .i64 r.2∧Hid (ym0 ρ1 w2 p r.1 wr))) (fun s wr=>z06 s (v4w ρ1 w2 p r wr))
 case atStart=>exact Or.inl ⟨rfl,⟨n,H2.out⟩⟩
 case round=>
  clear H2;rcases hrel with ⟨rfl,HL⟩ | ⟨HN,rfl,HA⟩
  ·obtain ⟨k,hk⟩:=HL.out;obtain ⟨⟨y,A,R⟩,_⟩:=vq1 hk;obtain ⟨ρ2,e2,m2⟩:=A.ex;have HY:Hid (MM ρ2 wr p y∧Ext w2.heap.size ρ1 ρ2∧Fr mine ρ1 w2 wr∧vgc (v4w ρ1 w2 p r wr) y r):=⟨m2,e2,A.fr,R⟩
   have HOr:Hid (OrdP wr∧ρ2 0=0):=⟨HO2.out.1.fr A.fr HO2.out.2,by rw [e2 _ HO2.out.1.lt];exact HO2.out.2⟩
   clear A R e2 m2 hk HL;go_wp2_with fail
   refine (xwj HY.out.1 HY.out.2.2.2.rest HOr.out.1 HOr.out.2).mono ?_;rintro e w3 ⟨rfl,A⟩;have HA3:Hid (ym0 ρ1 w2 p y.advance.1 w3):=ym0.next HY.out.2.1 HY.out.2.2.1 A;clear A;by_cases h0:y.advance.2=0
   ·have HR:Hid (∃ k,v4w ρ1 w2 p r wr=k+1∧vgc k y.advance.1 r):=by
     have R:=HY.out.2.2.2;generalize v4w ρ1 w2 p r wr=q at R;cases R with
     | stop _ h1 h2=>exact absurd h0 h2
     | go k _ _ h1 h2 h3=>exact ⟨k,rfl,h3⟩
    obtain ⟨k,hk,R⟩:=HR.out;have HL3:Hid (Left ρ1 w2 p r w3 k):=⟨_,HA3.out,R⟩
    rw [h0];clear R HR HA3;go_wp2_with fail
    go_roundw
    case rel=>exact Or.inl ⟨rfl,⟨k,HL3.out⟩⟩
    case measure=>
     have:=(vq1 HL3.out).2;show z06 (.int .i64 0) _<z06 (.int .i64 0) _;unfold z06;rw [if_pos (show intOf (.int .i64 0)=0 from rfl),if_pos (show intOf (.int .i64 0)=0 from rfl)];omega
   ·have HR:Hid (y.advance=r):=by
     have R:=HY.out.2.2.2;generalize v4w ρ1 w2 p r wr=q at R;cases R with
     | stop _ h1 h2=>exact rfl
     | go k _ _ h1 h2 h3=>exact absurd h2 h0
    rw [HR.out] at HA3 ⊢;have HN:Hid (r.2≠0):=by rw [← HR.out];exact h0
    clear h0 HR HY HOr;go_wp2_with fail
    go_roundw
    case rel=>exact Or.inr ⟨HN,rfl,HA3⟩
    case measure=>
     show z06 (.int .i64 r.2) _<z06 (.int .i64 0) _;unfold z06;rw [if_pos (show intOf (.int .i64 0)=0 from rfl),if_neg (show ¬ intOf (.int .i64 r.2)=0 by have:=HN.out;show ¬ ((r.2:Nat):Int)=0;omega)];omega
  ·have hne:¬ ((r.2:Nat):Int)=0:=by have:=HN.out;omega
   clear HN;generalize hR2:r.2=R2 at hne ⊢;have HR2:Hid (r.2=R2):=hR2;clear hR2;go_wp2_with fail
   refine (z6y (.slice none 0 0) wr rfl ⟨_,_,_,rfl⟩).mono ?_;rintro e w4 ⟨rfl,b4⟩;have HA4:Hid (ym0 ρ1 w2 p r.1 w4):=by
    obtain ⟨ρ2,e2,m2⟩:=HA.out.ex;exact ⟨⟨ρ2,e2,m2.below b4⟩,HA.out.fr.trans (Fr.below b4)⟩
   obtain ⟨ca,cb,c12,c13,z12,z13,hpl⟩:=(let ⟨_,_,m⟩:=HA4.out.ex;MQ.cells m)
   clear b4 HA;have HF:=xta HD.out.2.2 HD.out.1 HA4.out HD.out.2.1.kp.size HD.out.2.1;have HF2:Hid (jvh ρ w p { r.1 with rest:=[] } ((w4.setCell ⟨p,12,none⟩ (.slice none 0 0)).setCell ⟨p,13,none⟩ (.int .i64 0))):=HF;clear HF;go_wp2_with fail
   go_ret
   exact ⟨by rw [HR2.out];rfl,HF2.out⟩
end Go.Proofs.YtbcjmakpempkiaaGreatDoor
