import Derived.Test.YtbcjmakpempkiaaGreatDoorX18
set_option maxRecDepth 100000
set_option maxHeartbeats 8000000
set_option linter.all false
namespace Go.Proofs.YtbcjmakpempkiaaGreatDoor
variable {ρ:Nat->Nat} {w:World} {p:Nat} {x:MS}
open Go.Proofs.Tryz
open Go.RowKit
theorem MM.lL(h:MM ρ w p x)(n:Nat):MM ρ (w.setCell ⟨p,26,none⟩ (.int .i64 n)) p { x with nl:=n }/\Fr V5 ρ w (w.setCell ⟨p,26,none⟩ (.int .i64 n)):=by
 obtain ⟨L,B,T⟩:=h;exact (((show Bh ρ w p x x L w from ⟨B,T,Fr.refl _ _ _⟩).set (z:={ x with nl:=n }) 26 _ rfl ⟨rfl,rfl⟩).done rfl rfl rfl rfl ⟨rfl,rfl⟩)
theorem MM.lK(h:MM ρ w p x)(n:Nat):MM ρ (w.setCell ⟨p,27,none⟩ (.int .i64 n)) p { x with nd:=n }/\Fr V5 ρ w (w.setCell ⟨p,27,none⟩ (.int .i64 n)):=by
 obtain ⟨L,B,T⟩:=h;exact (((show Bh ρ w p x x L w from ⟨B,T,Fr.refl _ _ _⟩).set (z:={ x with nd:=n }) 27 _ rfl ⟨rfl,rfl⟩).done rfl rfl rfl rfl ⟨rfl,rfl⟩)
theorem MM.eA(h:MM ρ w p x)(n:Nat):MM ρ (w.setCell ⟨p,28,none⟩ (.int .i64 n)) p { x with told:=n }/\Fr V5 ρ w (w.setCell ⟨p,28,none⟩ (.int .i64 n)):=by
 obtain ⟨L,B,T⟩:=h;exact (((show Bh ρ w p x x L w from ⟨B,T,Fr.refl _ _ _⟩).set (z:={ x with told:=n }) 28 _ rfl ⟨rfl,rfl⟩).done rfl rfl rfl rfl ⟨rfl,rfl⟩)
structure Nw(ρ:Nat->Nat)(w:World)(p:Nat)(y:MS)(w':World):Prop where
 mm:MM ρ w' p y
 ok:Ok y
 Cq:y.count<=40
 hl:y.hl=[]
 fr:Fr V5 ρ w w'
theorem ZB{W:World}{y:MS}{R:MS×Nat}(h:MM ρ W p y)(hO:EG w)(hG:ρ 0=0)(he:(y.st=10/\R=y.mh/\Nw ρ w p y W)\/(y.st=11/\R=y.iI/\Nw ρ w p y W)\/(y.st=12/\R=y.iJ/\Nw ρ w p y W)\/(y.st=13/\Hid (∃ y,Lw ρ w p y R W))) :
  Calls prog 103 #[.pointer (some ⟨p,0,none⟩)] W fun v Z=>CJ ρ w p R v Z:=by
 have b5:=CL hO hG;have c7:=h.Bt.1;clear h hO hG;rcases he with ⟨X,hR,a4⟩ | ⟨X,hR,S⟩ | ⟨X,hR,T⟩ | ⟨X,F⟩
 all_goals
  rw [X] at c7;clear X
 all_goals try (have j:Hid _:=hR;clear hR)
 all_goals try (replace a4:Hid (Nw ρ w p y W):=a4)
 all_goals try (replace S:Hid (Nw ρ w p y W):=S)
 all_goals try (replace T:Hid (Nw ρ w p y W):=T)
 all_goals
  go_enter func103,ntmps103
  go_wp2_with fail
  clear c7
 all_goals try (
  have H:=a4;clear a4;have b2:=H.out.Cq;refine (GC 4 H.out.mm H.out.ok zO zO).mono ?_;rintro v w1 ⟨rfl,c,g2⟩;have R':Hid (R=if (MS.Ab 4 y).2=0 then (if 12<(MS.Ab 4 y).1.num 4 then ({ (MS.Ab 4 y).1.rd 4 with nl:=257+(MS.Ab 4 y).1.num 4 }:MS).refuse 10 else MS.iI { (MS.Ab 4 y).1.rd 4 with nl:=257+(MS.Ab 4 y).1.num 4,st:=11 }) else MS.Ab 4 y):=j.out;clear j;by_cases h0:¬ (MS.Ab 4 y).2=0
  ·rw [zA h0] at R';obtain ⟨t,D⟩:=qe ((MS.Ab 4 y).2);have j:=CL (By.of c (H.out.fr.trans g2).Ba) D.symm;rw [<- D] at h0 |-;have b1:=qn h0;clear c g2 D;go_wp2
   go_ret
   unfold CJ;rw [R'.out,j.out.2];exact ⟨rfl,j.out.1⟩
  replace h0:=xM.1 h0
  have s:=MS.Ci H.out.ok h0;have k2:=MS.EO H.out.ok h0;have k3:=MS.Ck (k:=4) H.out.ok;rw [h0];rw [zC h0] at R';obtain ⟨z,hz⟩:=qe ((MS.Ab 4 y).1);rw [<- hz] at c R' s k2 k3;have d:Hid (MM ρ w1 p z/\Ok z/\Fr V5 ρ w w1/\z.hl=[]):=⟨c,k3,H.out.fr.trans g2,by rw [k2];exact H.out.hl⟩
  clear c g2 hz k2 k3 h0 H;go_wp2_with fail
  refine (Gg 4 d.out.1 d.out.2.1 s.1 zO).mono ?_;rintro v w2 ⟨rfl,c,g2⟩;have hN:z.num 4<16:=yC _ zD;have E:=c.lL (257+z.num 4);have a0:=c.own.1;have z0:=c.bP 26;have k7:=c.Bt.1;have z7:=c.bP 7;obtain ⟨N,u⟩:=qe (z.num 4);rw [<- u] at R' hN E |-;have A:((257+N:Nat):Int)=257+(N:Int):=zO;have r:Hid (MM ρ (w2.setCell ⟨p,26,none⟩ (.int .i64 (257+N:Nat))) p { z.rd 4 with nl:=257+N }/\Ok { z.rd 4 with nl:=257+N }/\Fr V5 ρ w (w2.setCell ⟨p,26,none⟩ (.int .i64 (257+N:Nat)))):=⟨E.1,{ d.out.2.1.rd s.1 with },(d.out.2.2.1.trans g2).trans E.2⟩
  rw [A] at r;clear c g2 E u A;by_cases C:12<N
  ·rw [zC C] at R';have U:(269:Int)<257+N:=zO;go_wp2_with fail
   refine (Cd 10 r.out.1).mono ?_;rintro v w3 ⟨rfl,J,g4⟩;have P:Hid (By ρ w p (({ z.rd 4 with nl:=257+N }:MS).refuse 10).1 w3):=By.of J (r.out.2.2.trans g4).Ba;clear J g4;go_wp2
   go_ret
   unfold CJ;rw [R'.out];exact ⟨rfl,P.out⟩
  rw [zA C] at R';have U:¬ (269:Int)<257+N:=zO;have l:=r.out.1.st 11;obtain ⟨y,M⟩:=qe ({ z.rd 4 with nl:=257+N,st:=11 }:MS);have S:Hid (Nw ρ w p y ((w2.setCell ⟨p,26,none⟩ (.int .i64 (257+(N:Int)))).setCell ⟨p,7,none⟩ (.int .i64 11))):=by
   show Nw ρ w p y _;rw [M];exact ⟨l.1,r.out.2.1.st 11,by show z.count - 4<=40;omega,d.out.2.2.2,r.out.2.2.trans l.2⟩
  have j:Hid (R=MS.iI y):=by show R=_;rw [R'.out,<- M]
  clear l M R' r d;go_wp2_with fail
  clear a0 z0 k7 z7 s C U)
 all_goals try (
  have H:=S;clear S;have b2:=H.out.Cq;refine (GC 4 H.out.mm H.out.ok zO zO).mono ?_;rintro v w1 ⟨rfl,c,g2⟩;have R':Hid (R=if (MS.Ab 4 y).2=0 then MS.iJ { (MS.Ab 4 y).1.rd 4 with nd:=1+(MS.Ab 4 y).1.num 4,st:=12 } else MS.Ab 4 y):=j.out;clear j;by_cases h0:¬ (MS.Ab 4 y).2=0
  ·rw [zA h0] at R';obtain ⟨t,D⟩:=qe ((MS.Ab 4 y).2);have j:=CL (By.of c (H.out.fr.trans g2).Ba) D.symm;rw [<- D] at h0 |-;have b1:=qn h0;clear c g2 D;go_wp2
   go_ret
   unfold CJ;rw [R'.out,j.out.2];exact ⟨rfl,j.out.1⟩
  replace h0:=xM.1 h0
  have s:=MS.Ci H.out.ok h0;have k2:=MS.EO H.out.ok h0;have k3:=MS.Ck (k:=4) H.out.ok;rw [h0];rw [zC h0] at R';obtain ⟨z,hz⟩:=qe ((MS.Ab 4 y).1);rw [<- hz] at c R' s k2 k3;have d:Hid (MM ρ w1 p z/\Ok z/\Fr V5 ρ w w1/\z.hl=[]):=⟨c,k3,H.out.fr.trans g2,by rw [k2];exact H.out.hl⟩
  clear c g2 hz k2 k3 h0 H;go_wp2_with fail
  refine (Gg 4 d.out.1 d.out.2.1 s.1 zO).mono ?_;rintro v w2 ⟨rfl,c,g2⟩;have hN:z.num 4<16:=yC _ zD;have E:=c.lK (1+z.num 4);have a0:=c.own.2.1;have z0:=c.bP 27;have k7:=c.Bt.1;have z7:=c.bP 7;obtain ⟨N,u⟩:=qe (z.num 4);rw [<- u] at R' hN E |-;have A:((1+N:Nat):Int)=1+(N:Int):=zO;have r:Hid (MM ρ (w2.setCell ⟨p,27,none⟩ (.int .i64 (1+N:Nat))) p { z.rd 4 with nd:=1+N }/\Ok { z.rd 4 with nd:=1+N }/\Fr V5 ρ w (w2.setCell ⟨p,27,none⟩ (.int .i64 (1+N:Nat)))):=⟨E.1,{ d.out.2.1.rd s.1 with },(d.out.2.2.1.trans g2).trans E.2⟩
  rw [A] at r;clear c g2 E u A;have l:=r.out.1.st 12;obtain ⟨y,M⟩:=qe ({ z.rd 4 with nd:=1+N,st:=12 }:MS);have T:Hid (Nw ρ w p y ((w2.setCell ⟨p,27,none⟩ (.int .i64 (1+(N:Int)))).setCell ⟨p,7,none⟩ (.int .i64 12))):=by
   show Nw ρ w p y _;rw [M];exact ⟨l.1,r.out.2.1.st 12,by show z.count - 4<=40;omega,d.out.2.2.2,r.out.2.2.trans l.2⟩
  have j:Hid (R=MS.iJ y):=by show R=_;rw [R'.out,<- M]
  clear l M R' r d;go_wp2_with fail
  clear a0 z0 k7 z7 s)
 all_goals try (
  have H:=T;clear T;have b2:=H.out.Cq;refine (GC 4 H.out.mm H.out.ok zO zO).mono ?_;rintro v w1 ⟨rfl,c,g2⟩;have R':Hid (R=if (MS.Ab 4 y).2=0 then (if 11<(MS.Ab 4 y).1.num 4 then ({ (MS.Ab 4 y).1.rd 4 with told:=4+(MS.Ab 4 y).1.num 4 }:MS).refuse 10 else MS.lB { (MS.Ab 4 y).1.rd 4 with told:=4+(MS.Ab 4 y).1.num 4,st:=13 }) else MS.Ab 4 y):=j.out;clear j;by_cases h0:¬ (MS.Ab 4 y).2=0
  ·rw [zA h0] at R';obtain ⟨t,D⟩:=qe ((MS.Ab 4 y).2);have j:=CL (By.of c (H.out.fr.trans g2).Ba) D.symm;rw [<- D] at h0 |-;have b1:=qn h0;clear c g2 D;go_wp2
   go_ret
   unfold CJ;rw [R'.out,j.out.2];exact ⟨rfl,j.out.1⟩
  replace h0:=xM.1 h0
  have s:=MS.Ci H.out.ok h0;have k2:=MS.EO H.out.ok h0;have k3:=MS.Ck (k:=4) H.out.ok;rw [h0];rw [zC h0] at R';obtain ⟨z,hz⟩:=qe ((MS.Ab 4 y).1);rw [<- hz] at c R' s k2 k3;have d:Hid (MM ρ w1 p z/\Ok z/\Fr V5 ρ w w1/\z.hl=[]):=⟨c,k3,H.out.fr.trans g2,by rw [k2];exact H.out.hl⟩
  clear c g2 hz k2 k3 h0 H;go_wp2_with fail
  refine (Gg 4 d.out.1 d.out.2.1 s.1 zO).mono ?_;rintro v w2 ⟨rfl,c,g2⟩;have hN:z.num 4<16:=yC _ zD;have E:=c.eA (4+z.num 4);have a0:=c.own.2.2.1;have z0:=c.bP 28;have k7:=c.Bt.1;have z7:=c.bP 7;obtain ⟨N,u⟩:=qe (z.num 4);rw [<- u] at R' hN E |-;have A:((4+N:Nat):Int)=4+(N:Int):=zO;have r:Hid (MM ρ (w2.setCell ⟨p,28,none⟩ (.int .i64 (4+N:Nat))) p { z.rd 4 with told:=4+N }/\Ok { z.rd 4 with told:=4+N }/\Fr V5 ρ w (w2.setCell ⟨p,28,none⟩ (.int .i64 (4+N:Nat)))):=⟨E.1,{ d.out.2.1.rd s.1 with },(d.out.2.2.1.trans g2).trans E.2⟩
  rw [A] at r;clear c g2 E u A;by_cases C:11<N
  ·rw [zC C] at R';have U:(15:Int)<4+N:=zO;go_wp2_with fail
   refine (Cd 10 r.out.1).mono ?_;rintro v w3 ⟨rfl,J,g4⟩;have P:Hid (By ρ w p (({ z.rd 4 with told:=4+N }:MS).refuse 10).1 w3):=By.of J (r.out.2.2.trans g4).Ba;clear J g4;go_wp2
   go_ret
   unfold CJ;rw [R'.out];exact ⟨rfl,P.out⟩
  rw [zA C] at R';have U:¬ (15:Int)<4+N:=zO;have l:=r.out.1.st 13;obtain ⟨y,M⟩:=qe ({ z.rd 4 with told:=4+N,st:=13 }:MS);have F:Hid (Nw ρ w p y ((w2.setCell ⟨p,28,none⟩ (.int .i64 (4+(N:Int)))).setCell ⟨p,7,none⟩ (.int .i64 13))):=by
   show Nw ρ w p y _;rw [M];exact ⟨l.1,r.out.2.1.st 13,by show z.count - 4<=40;omega,d.out.2.2.2,r.out.2.2.trans l.2⟩
  have j:Hid (R=MS.lB y):=by show R=_;rw [R'.out,<- M]
  have H:=F;clear F;have F:Hid (∃ y,Lw ρ w p y R ((w2.setCell ⟨p,28,none⟩ (.int .i64 (4+(N:Int)))).setCell ⟨p,7,none⟩ (.int .i64 13))):=⟨y,⟨ρ,Ext.refl _ _,H.out.mm⟩,H.out.fr.Ba,H.out.ok,j.out.symm,H.out.Cq,by rw [M];show 4+N<=15;omega,by rw [H.out.hl];simp,by rw [H.out.hl];intro b hb;cases hb⟩
  clear H j;clear l M R' r d;go_wp2_with fail
  clear a0 z0 k7 z7 s C U)
 all_goals try (
  have H0:=F;clear F;go_loopw [] (fun wr=>Hid (∃ y,Lw ρ w p y R wr)) (fun wr=>15 - Yx wr p)
  case atStart=>exact H0
  case round=>
   clear H0;obtain ⟨y,Y⟩:=hrel.out;obtain ⟨ρ',ex,mm⟩:=Y.ex;obtain ⟨ad,cap,b7,_⟩:=mm.nY;have c5:=Vj b7;have c3:=mm.own.2.2.1;have d1:=Y.told;have d8:=Y.le;have b2:=Y.Cq;have o:=Ji Y mm ex;clear Y hrel mm ex;by_cases d0:y.hl.length<y.told
   ·obtain ⟨n,hn⟩:∃ n,y.told - y.hl.length=n+1:=⟨y.told - y.hl.length - 1,zO⟩
    have l:Hid (R=if (MS.Ab 3 y).2=0 then MS.iG n { (MS.Ab 3 y).1.rd 3 with hl:=(MS.Ab 3 y).1.hl++[((MS.Ab 3 y).1.num 3:Int)] } else MS.Ab 3 y):=by show R=_;rw [<- o.out.1.eq,MS.fU hn]
    have b8:(y.hl.length:Int)<y.told:=zO;go_wp2_with fail
    go_quiet (fail)
    go_wp2_with fail
    refine (GC 3 (o.out.2.1.drewN _) o.out.1.ok zO zO).mono ?_;rintro v w5 ⟨rfl,c,g2⟩;by_cases h0:(MS.Ab 3 y).2=0
    ·have s:=MS.Ci o.out.1.ok h0;have k2:=MS.EO o.out.1.ok h0;have k3:=MS.Ck (k:=3) o.out.1.ok;rw [h0];rw [zC h0] at l;obtain ⟨z,b9⟩:=qe ((MS.Ab 3 y).1);rw [<- b9] at c l s k2 k3;have Q:Hid (z.hl=y.hl):=by show z.hl=y.hl;rw [k2]
     have b0:Hid (z.told=y.told):=by show z.told=y.told;rw [k2]
     have d:=Ji c k3 ((o.out.1.fr.drewN _).ext g2.Ba o.out.2.2);clear c g2 b9 k2 k3 h0 b7 c3;have c6:z.num 3<8:=yC _ zD;obtain ⟨L5,B5,T5⟩:=d.out.1;have b6:Hid (∀ n,Calls prog 134 #[.pointer (some ⟨p,14,none⟩), .int .i64 (3:Nat)] (w5.drewN n) fun v Z=>v= .returned (.int .i64 (z.num 3))/\MB ρ' Z p (z.rd 3) L5/\MT ρ' Z (z.rd 3) L5/\Fr V5 ρ' (w5.drewN n) Z):=fun n=>kh 3 (B5.drewN n) (T5.drewN n) d.out.2.1 s.1 zO
     obtain ⟨b,hb⟩:=qe (z.num 3);rw [<- hb] at l b6 c6;clear hb;have c2:w5.cell? ⟨p,29,none⟩=some L5.hv:=B5.row.cell (i:=29) zO;have b4:L5.hv.ownBlock≠some p:=fun e=>by
      have a1:=T5.hl.2 p e;have a2:=B5.rp;omega
     obtain ⟨lv,a5⟩:=qe L5.hv;have a9:=hid a5;have c0:Hid (∀ Z,MT ρ' Z (z.rd 3) L5->Z.ownsRow 0 3 1 lv z.hl.length (Al z.hl)):=fun Z t=>by rw [a5];exact t.hl.1
     have d9:z.hl.length<=15:=by rw [Q.out];omega
     have c8:=s;rw [<- a5] at c2 b4;clear B5 T5 a5;obtain ⟨i3,c9,d2,d3,d4⟩:=yM Gf;go_wp2_with fail
     go_region_law
      ((first
       | (refine YM rfl 134 #[.pointer (some ⟨p,14,none⟩), .int .i64 (3:Nat)] zK (b6.out 1) ?_;rintro e w2 ⟨rfl,B2,T2,g2⟩;refine ⟨_,rfl,?_⟩;have a3:=Ji B2 T2 ((d.out.2.2.drewN 1).ext g2.Ba o.out.2.2);have c4:w2.cell? ⟨p,29,none⟩=some lv:=by { rw [a9.out];exact B2.row.cell (i:=29) zO };have y29:=B2.row.frozen 29;have b3:=c0.out w2 T2;have a8:=B2.row.lt;clear B2 T2 g2)
       | (refine xY _ (by rfl) _ _ _ (by rfl) 0 3 i3 _ 1 8 underlying69 c9 d2 d3 d4 rfl zO lv z.hl.length (Al z.hl) (by rfl) (b3.alloc _) ⟨w2.heap.size,0,none⟩ 1 1 [.int .i64 b] (by rfl) (by rfl) (yX w2 _ _) (by simp [Value.oneCell']) zO (by unfold maxLen;omega) zO (zH _) (w2.heap.size+1) zS ?_;intro J p3 w3 V f a6 a7;have d6:=Fh (a:=⟨p,29,none⟩) f a8 b4 c4;have d7:=Fk (a:=⟨p,29,none⟩) f a8 b4 y29)))
     all_goals
      have G:=cY (g:=J) (cap:=p3) (a:=(b:Int)) a3.out.1 a3.out.2.1 V (by rw [<- a9.out];exact f) (by rw [<- a9.out];exact a6) a7;have HN:Hid (∃ y,Lw ρ w p y R (w3.setCell ⟨p,29,none⟩ (.slice (some ⟨J,0,none⟩) (z.hl.length+1) p3))):=by
       refine ⟨{ z.rd 3 with hl:=z.hl++[(b:Int)] },⟨Hk ρ' J 6,o.out.2.2.trans G.2.1 a3.out.2.2.kp.size,G.1⟩,a3.out.2.2.ext G.2.2 o.out.2.2,{ d.out.2.1.rd c8.1 with },?_,?_,?_,?_,?_⟩
       ·have e:({ z.rd 3 with hl:=z.hl++[(b:Int)] }:MS).told - ({ z.rd 3 with hl:=z.hl++[(b:Int)] }:MS).hl.length=n:=by
         show z.told - (z.hl++[(b:Int)]).length=n;rw [b0.out,Q.out];simp;omega
        rw [e];exact l.out.symm
       ·show z.count - 3<=40;omega
       ·show z.told<=15;rw [b0.out];exact d1
       ·show (z.hl++[(b:Int)]).length<=z.told;rw [b0.out,Q.out];simp;omega
       ·intro q hq;have L:q∈z.hl++[(b:Int)]:=hq;rcases yW.1 L with L | L
        ·rw [Q.out] at L;exact o.out.1.hx q L
        ·simp at L;omega
      have eN:Yx (w3.setCell ⟨p,29,none⟩ (.slice (some ⟨J,0,none⟩) (z.hl.length+1) p3)) p=z.hl.length+1:=by
       obtain ⟨ad',d5,c',_⟩:=G.1.nY;exact (Vj c').trans (by show (z.hl++[(b:Int)]).length=_;simp)
      clear G V f a6 a7;go_wp2_with fail
      go_roundw
      case rel=>exact HN
      case measure=>rw [c5,eN,Q.out];omega
    ·rw [zA h0] at l;obtain ⟨t,D⟩:=qe ((MS.Ab 3 y).2);have j:Hid (By ρ w p (MS.Ab 3 y).1 w5/\(MS.Ab 3 y).2=t):=⟨⟨⟨ρ',o.out.2.2,c⟩,(o.out.1.fr.drewN _).ext g2.Ba o.out.2.2⟩,D.symm⟩
     rw [<- D] at h0 |-;have b1:=qn h0;clear c g2 D;go_wp2
     go_ret
     unfold CJ;rw [l.out,j.out.2];exact ⟨rfl,j.out.1⟩
   ·have b8:¬ (y.hl.length:Int)<y.told:=zO;have l:Hid (R=if sumOf gw (EF y.hl)=2048 then ({ y with hs:=EF y.hl,st:=14 },0) else y.refuse 10):=by show R=_;rw [<- o.out.1.eq,MS.fV d0];rfl
    have c1:Hid (∀ n,Calls prog 139 #[.pointer (some ⟨p,26,none⟩)] (wr.drewN n) fun v Z=>Yc ρ' (wr.drewN n) p y v Z):=fun n=>Tj (o.out.2.1.drewN n) (b5.out.1.fr (o.out.1.fr.drewN n) b5.out.2) o.out.1.hx zO
    go_wp2_with fail
    go_quiet (fail)
    go_wp2_with fail
    refine (c1.out _).mono ?_;rintro v w5 O;unfold Yc at O;by_cases hS:sumOf gw (EF y.hl)=2048
    ·rw [zC hS] at O l;obtain ⟨rfl,AF⟩:=O;have AW:=By.next o.out.2.2 (o.out.1.fr.drewN _) AF;obtain ⟨ρ'',I,B⟩:=AW.ex;have k7:=B.Bt.1;have z7:=B.Bt.2;have HA:Hid (By ρ w p { y with hs:=EF y.hl,st:=14 } (w5.setCell ⟨p,7,none⟩ (.int .i64 14))):=⟨⟨ρ'',I,(B.st 14).1⟩,AW.fr.ext (B.st 14).2.Ba I⟩
     clear AF AW I B;go_wp2
     go_ret
     unfold CJ;rw [l.out];exact ⟨rfl,HA.out⟩
    ·rw [zA hS] at O l;obtain ⟨rfl,AF⟩:=O;have AW:=By.next o.out.2.2 (o.out.1.fr.drewN _) AF;obtain ⟨ρ'',I,B⟩:=AW.ex;have HA:=Ji B I AW.fr;clear AF AW I B;go_wp2_with fail
     refine (Cd 10 HA.out.1).mono ?_;rintro v w6 ⟨rfl,J,g4⟩;have P:Hid (By ρ w p (y.refuse 10).1 w6):=⟨⟨ρ'',HA.out.2.1,J⟩,HA.out.2.2.ext g4.Ba HA.out.2.1⟩
     clear J g4;go_wp2
     go_ret
     unfold CJ;rw [l.out];exact ⟨rfl,P.out⟩)
theorem jz(h:MM ρ w p x)(ok:Ok x)(hc:x.count<=40)(b:EG w)(hG:ρ 0=0)(hl:x.hl=[])(a:x.st=10) :
  Calls prog 103 #[.pointer (some ⟨p,0,none⟩)] w fun v c=>CJ ρ w p x.mh v c:=ZB h b hG (Or.inl ⟨a,rfl,h,ok,hc,hl,Fr.refl _ _ _⟩)
theorem ke(h:MM ρ w p x)(ok:Ok x)(hc:x.count<=40)(b:EG w)(hG:ρ 0=0)(hl:x.hl=[])(a:x.st=11) :
  Calls prog 103 #[.pointer (some ⟨p,0,none⟩)] w fun v c=>CJ ρ w p x.iI v c:=ZB h b hG (Or.inr (Or.inl ⟨a,rfl,h,ok,hc,hl,Fr.refl _ _ _⟩))
theorem kf(h:MM ρ w p x)(ok:Ok x)(hc:x.count<=40)(b:EG w)(hG:ρ 0=0)(hl:x.hl=[])(a:x.st=12) :
  Calls prog 103 #[.pointer (some ⟨p,0,none⟩)] w fun v c=>CJ ρ w p x.iJ v c:=ZB h b hG (Or.inr (Or.inr (Or.inl ⟨a,rfl,h,ok,hc,hl,Fr.refl _ _ _⟩)))
theorem kg(h:MM ρ w p x)(ok:Ok x)(hc:x.count<=40)(d:EG w)(hG:ρ 0=0)(e:x.told<=15)(a:x.hl.length<=x.told)(hx:∀ b∈x.hl,0<=b/\b<8)(c:x.st=13) :
  Calls prog 103 #[.pointer (some ⟨p,0,none⟩)] w fun v f=>CJ ρ w p x.lB v f:=ZB h d hG (Or.inr (Or.inr (Or.inr (⟨c,x,⟨ρ,Ext.refl _ _,h⟩,Fr.refl _ _ _,ok,rfl,hc,e,a,hx⟩))))
end Go.Proofs.YtbcjmakpempkiaaGreatDoor
