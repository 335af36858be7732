import Derived.Test.YtbcjmakpempkiaaGreatDoorX28
set_option maxRecDepth 100000
set_option maxHeartbeats 8000000
set_option linter.all false
namespace Go.Proofs.YtbcjmakpempkiaaGreatDoor
open Go.RowKit
theorem z5n{ρ:Nat->Nat}{w:World}{p:Nat}{x:MS}(h:MM ρ w p x)(ok:Ok x)(hc:x.count<=40)(hO:OrdP w)(hG:ρ 0=0)(hl:x.hl=[])(hst:x.st=11) :
  Calls Tryz.prog 103 #[.pointer (some ⟨p,0,none⟩)] w fun v w'=>xxu ρ w p x.o11 v w':=by
 have H11:Hid (Nw ρ w p x w):=⟨h,ok,hc,hl,Fr.refl _ _ _⟩
 have HOG:Hid (OrdP w∧ρ 0=0):=⟨hO,hG⟩
 have c7:=h.cell7.1;rw [hst] at c7;clear h ok hst hc hO hG hl;go_enter Tryz.func103,Tryz.ntmps103
 go_wp2_with fail
 refine (zvo 4 H11.out.mm H11.out.ok (by omega) (by have:=H11.out.cnt;omega)).mono ?_;rintro v wa11 ⟨rfl,g1,g2⟩;have R':Hid (x.o11=if (MS.need 4 x).2=0 then MS.o12 { (MS.need 4 x).1.rd 4 with nd:=1+(MS.need 4 x).1.num 4,st:=12 } else MS.need 4 x):=rfl;by_cases h0:(MS.need 4 x).2=0
 ·have k1:=MS.need_cnt H11.out.ok h0;have k2:=MS.need_same H11.out.ok h0;have k3:=MS.need_ok (k:=4) H11.out.ok;have hcn:=H11.out.cnt;rw [h0];rw [if_pos h0] at R';obtain ⟨z,hz⟩:∃ z,z=(MS.need 4 x).1:=⟨_,rfl⟩
  rw [← hz] at g1 R' k1 k2 k3;have hzh:z.hl=[]:=by rw [k2];exact H11.out.hl
  have HZ:Hid (MM ρ wa11 p z∧Ok z∧Fr (fun k=>1<=k∧k<=5) ρ w wa11∧z.hl=[]):=⟨g1,k3,H11.out.fr.trans g2,hzh⟩
  clear g1 g2 hz k2 k3 h0 hzh;go_wp2_with fail
  refine (zw3 4 HZ.out.1 HZ.out.2.1 k1.1 (by omega)).mono ?_;rintro v wb11 ⟨rfl,g1,g2⟩;have hN:z.num 4<16:=Nat.mod_lt _ (by decide);have HQ:=g1.set_nd (1+z.num 4);have a27:=g1.own.2.1;have z27:=g1.frz 27;have k7:=g1.cell7.1;have z7:=g1.frz 7;obtain ⟨N,hNe⟩:∃ N,N=z.num 4:=⟨_,rfl⟩
  rw [← hNe] at R' hN HQ ⊢;have hbi:((1+N:Nat):Int)=1+(N:Int):=by omega
  have HU:Hid (MM ρ (wb11.setCell ⟨p,27,none⟩ (.int .i64 (1+N:Nat))) p { z.rd 4 with nd:=1+N }∧Ok { z.rd 4 with nd:=1+N }∧Fr (fun k=>1<=k∧k<=5) ρ w (wb11.setCell ⟨p,27,none⟩ (.int .i64 (1+N:Nat)))):=⟨HQ.1,{ HZ.out.2.1.rd k1.1 with },(HZ.out.2.2.1.trans g2).trans HQ.2⟩
  rw [hbi] at HU;clear g1 g2 HQ hNe hbi;have HS:=HU.out.1.st 12;obtain ⟨y12,hy⟩:∃ y:MS,y={ z.rd 4 with nd:=1+N,st:=12 }:=⟨_,rfl⟩
  have hWW:(wb11.setCell ⟨p,27,none⟩ (.int .i64 (1+(N:Int)))).setCell ⟨p,7,none⟩ (.int .i64 (12:Nat))=(wb11.setCell ⟨p,27,none⟩ (.int .i64 (1+(N:Int)))).setCell ⟨p,7,none⟩ (.int .i64 12):=rfl;have H12:Hid (Nw ρ w p y12 ((wb11.setCell ⟨p,27,none⟩ (.int .i64 (1+(N:Int)))).setCell ⟨p,7,none⟩ (.int .i64 12))):=by
   show Nw ρ w p y12 _;rw [hy];exact ⟨HS.1,HU.out.2.1.st 12,by show z.count - 4<=40;omega,HZ.out.2.2.2,HU.out.2.2.trans HS.2⟩
  have R12:Hid (x.o11=MS.o12 y12):=by show x.o11=_;rw [R'.out,← hy]
  clear HS hWW hy R' HU HZ;go_wp2_with fail
  clear a27 z27 k7 z7;refine (zvo 4 H12.out.mm H12.out.ok (by omega) (by have:=H12.out.cnt;omega)).mono ?_;rintro v wa12 ⟨rfl,g1,g2⟩;have R':Hid (x.o11=if (MS.need 4 y12).2=0 then (if 11<(MS.need 4 y12).1.num 4 then ({ (MS.need 4 y12).1.rd 4 with told:=4+(MS.need 4 y12).1.num 4 }:MS).refuse 10 else MS.o13 { (MS.need 4 y12).1.rd 4 with told:=4+(MS.need 4 y12).1.num 4,st:=13 }) else MS.need 4 y12):=R12.out;clear R12;by_cases h0:(MS.need 4 y12).2=0
  ·have k1:=MS.need_cnt H12.out.ok h0;have k2:=MS.need_same H12.out.ok h0;have k3:=MS.need_ok (k:=4) H12.out.ok;have hcn:=H12.out.cnt;rw [h0];rw [if_pos h0] at R';obtain ⟨z,hz⟩:∃ z,z=(MS.need 4 y12).1:=⟨_,rfl⟩
   rw [← hz] at g1 R' k1 k2 k3;have hzh:z.hl=[]:=by rw [k2];exact H12.out.hl
   have HZ:Hid (MM ρ wa12 p z∧Ok z∧Fr (fun k=>1<=k∧k<=5) ρ w wa12∧z.hl=[]):=⟨g1,k3,H12.out.fr.trans g2,hzh⟩
   clear g1 g2 hz k2 k3 h0 hzh;go_wp2_with fail
   refine (zw3 4 HZ.out.1 HZ.out.2.1 k1.1 (by omega)).mono ?_;rintro v wb12 ⟨rfl,g1,g2⟩;have hN:z.num 4<16:=Nat.mod_lt _ (by decide);have HQ:=g1.set_told (4+z.num 4);have a28:=g1.own.2.2.1;have z28:=g1.frz 28;have k7:=g1.cell7.1;have z7:=g1.frz 7;obtain ⟨N,hNe⟩:∃ N,N=z.num 4:=⟨_,rfl⟩
   rw [← hNe] at R' hN HQ ⊢;have hbi:((4+N:Nat):Int)=4+(N:Int):=by omega
   have HU:Hid (MM ρ (wb12.setCell ⟨p,28,none⟩ (.int .i64 (4+N:Nat))) p { z.rd 4 with told:=4+N }∧Ok { z.rd 4 with told:=4+N }∧Fr (fun k=>1<=k∧k<=5) ρ w (wb12.setCell ⟨p,28,none⟩ (.int .i64 (4+N:Nat)))):=⟨HQ.1,{ HZ.out.2.1.rd k1.1 with },(HZ.out.2.2.1.trans g2).trans HQ.2⟩
   rw [hbi] at HU;clear g1 g2 HQ hNe hbi;by_cases hgt:11<N
   ·rw [if_pos hgt] at R';have hgi:(15:Int)<4+N:=by omega
    go_wp2_with fail
    refine (kv8 10 HU.out.1).mono ?_;rintro v wr12 ⟨rfl,g3,g4⟩;have HR2:Hid (ym0 ρ w p (({ z.rd 4 with told:=4+N }:MS).refuse 10).1 wr12):=ym0.of g3 (HU.out.2.2.trans g4).five_mine;clear g3 g4;go_wp2_with fail
    go_ret
    unfold xxu;rw [R'.out];exact ⟨rfl,HR2.out⟩
   ·rw [if_neg hgt] at R';have hgi:¬ (15:Int)<4+N:=by omega
    have HS:=HU.out.1.st 13;obtain ⟨y13,hy⟩:∃ y:MS,y={ z.rd 4 with told:=4+N,st:=13 }:=⟨_,rfl⟩
    have hWW:(wb12.setCell ⟨p,28,none⟩ (.int .i64 (4+(N:Int)))).setCell ⟨p,7,none⟩ (.int .i64 (13:Nat))=(wb12.setCell ⟨p,28,none⟩ (.int .i64 (4+(N:Int)))).setCell ⟨p,7,none⟩ (.int .i64 13):=rfl;have H13:Hid (Nw ρ w p y13 ((wb12.setCell ⟨p,28,none⟩ (.int .i64 (4+(N:Int)))).setCell ⟨p,7,none⟩ (.int .i64 13))):=by
     show Nw ρ w p y13 _;rw [hy];exact ⟨HS.1,HU.out.2.1.st 13,by show z.count - 4<=40;omega,HZ.out.2.2.2,HU.out.2.2.trans HS.2⟩
    obtain ⟨R,hR⟩:∃ R,R=MS.hlL (y13.told - y13.hl.length) y13:=⟨_,rfl⟩
    have HF:Hid (x.o11=R):=by show x.o11=R;rw [hR,R'.out,← hy];rfl
    have H0:Hid (∃ y,Lw ρ w p y R ((wb12.setCell ⟨p,28,none⟩ (.int .i64 (4+(N:Int)))).setCell ⟨p,7,none⟩ (.int .i64 13))):=⟨y13,⟨ρ,Ext.refl _ _,H13.out.mm⟩,H13.out.fr.five_mine,H13.out.ok,hR.symm,H13.out.cnt,by rw [hy];show 4+N<=15;omega,by rw [H13.out.hl];simp,by rw [H13.out.hl];intro b hb;cases hb⟩
    clear HS hWW hy hR R' HU HZ H13;go_wp2_with fail
    clear hgt a28 z28 k7 z7;go_loopw [] (fun wr=>Hid (∃ y,Lw ρ w p y R wr)) (fun wr=>15 - xda wr p)
    case atStart=>exact H0
    case round=>
     clear H0;obtain ⟨y,Y⟩:=hrel.out;obtain ⟨ρ',ex,mm⟩:=Y.ex;obtain ⟨ad,cap,c29,_⟩:=mm.hlA;have e29:=x45 c29;have c28:=mm.own.2.2.1;have htl:=Y.told;have hle:=Y.le;have hcn:=Y.cnt;have HY:Hid (Lw ρ w p y R wr∧MM ρ' wr p y∧Ext w.heap.size ρ ρ'):=⟨Y,mm,ex⟩
     clear Y hrel mm ex;by_cases hlt:y.hl.length<y.told
     ·obtain ⟨n,hn⟩:∃ n,y.told - y.hl.length=n+1:=⟨y.told - y.hl.length - 1,by omega⟩
      have HS:Hid (R=if (MS.need 3 y).2=0 then MS.hlL n { (MS.need 3 y).1.rd 3 with hl:=(MS.need 3 y).1.hl++[((MS.need 3 y).1.num 3:Int)] } else MS.need 3 y):=by show R=_;rw [← HY.out.1.eq,MS.hl_succ hn]
      have hlti:(y.hl.length:Int)<y.told:=by omega
      go_wp2_with fail
      go_quiet (fail)
      go_wp2_with fail
      refine (zvo 3 (HY.out.2.1.drewN _) HY.out.1.ok (by omega) (by omega)).mono ?_;rintro v w5 ⟨rfl,g1,g2⟩;by_cases h0:(MS.need 3 y).2=0
      ·have k1:=MS.need_cnt HY.out.1.ok h0;have k2:=MS.need_same HY.out.1.ok h0;have k3:=MS.need_ok (k:=3) HY.out.1.ok;rw [h0];rw [if_pos h0] at HS;obtain ⟨z,hzz⟩:∃ z,z=(MS.need 3 y).1:=⟨_,rfl⟩
       rw [← hzz] at g1 HS k1 k2 k3;have HZH:Hid (z.hl=y.hl):=by show z.hl=y.hl;rw [k2]
       have HZT:Hid (z.told=y.told):=by show z.told=y.told;rw [k2]
       have HZ:Hid (MM ρ' w5 p z∧Ok z∧Fr mine ρ w w5):=⟨g1,k3,(HY.out.1.fr.drewN _).ext g2.five_mine HY.out.2.2⟩
       clear g1 g2 hzz k2 k3 h0 c29 c28;have hbl:z.num 3<8:=Nat.mod_lt _ (by decide);obtain ⟨L5,B5,T5⟩:=HZ.out.1;have HRD:Hid (∀ n,Calls Tryz.prog 134 #[.pointer (some ⟨p,14,none⟩), .int .i64 (3:Nat)] (w5.drewN n) fun v w'=>v= .returned (.int .i64 (z.num 3))∧MB ρ' w' p (z.rd 3) L5∧MT ρ' w' (z.rd 3) L5∧Fr (fun k=>1<=k∧k<=5) ρ' (w5.drewN n) w'):=fun n=>jh0 3 (B5.drewN n) (T5.drewN n) HZ.out.2.1 k1.1 (by omega)
       obtain ⟨b,hb⟩:∃ b,b=z.num 3:=⟨_,rfl⟩
       rw [← hb] at HS HRD hbl;clear hb;have a29:w5.cell? ⟨p,29,none⟩=some L5.hv:=B5.row.cell (i:=29) (by omega);have hpo:L5.hv.ownBlock≠some p:=fun e=>by
        have a1:=T5.hl.2 p e;have a2:=B5.rp;omega
       obtain ⟨lv,hlv⟩:∃ lv,lv=L5.hv:=⟨_,rfl⟩
       have HLV:Hid (lv=L5.hv):=hlv;have HHV:Hid (∀ w',MT ρ' w' (z.rd 3) L5->w'.ownsRow 0 3 1 lv z.hl.length (k2f z.hl)):=fun w' t=>by rw [hlv];exact t.hl.1
       have hzl:z.hl.length<=15:=by rw [HZH.out];omega
       have hcz:=k1;rw [← hlv] at a29 hpo;clear B5 T5 hlv;obtain ⟨i3,hi3,hy0,hy1,hy2⟩:=info_parts ve2;go_wp2_with fail
       go_region_law
        ((first
         | (refine xc4 rfl 134 #[.pointer (some ⟨p,14,none⟩), .int .i64 (3:Nat)] (by kernel_rfl) (HRD.out 1) ?_;rintro e w2 ⟨rfl,B2,T2,g2⟩;refine ⟨_,rfl,?_⟩;have HB2:Hid (MB ρ' w2 p (z.rd 3) L5∧MT ρ' w2 (z.rd 3) L5∧Fr mine ρ w w2):=⟨B2,T2,(HZ.out.2.2.drewN 1).ext g2.five_mine HY.out.2.2⟩;have d29:w2.cell? ⟨p,29,none⟩=some lv:=by { rw [HLV.out];exact B2.row.cell (i:=29) (by omega) };have y29:=B2.row.frozen 29;have hown2:=HHV.out w2 T2;have hpl2:=B2.row.lt;clear B2 T2 g2)
         | (refine step_append_lies _ (by rfl) _ _ _ (by rfl) 0 3 i3 _ 1 8 Tryz.underlying69 hi3 hy0 hy1 hy2 rfl (by omega) lv z.hl.length (k2f z.hl) (by rfl) (hown2.alloc _) ⟨w2.heap.size,0,none⟩ 1 1 [.int .i64 b] (by rfl) (by rfl) (cell_one_new w2 _ _) (by simp [Value.oneCell']) (by omega) (by unfold maxLen;omega) (by omega) (Nat.zero_le _) (w2.heap.size+1) (by simp) ?_;intro g3 p3 w3 hown3 hgrow3 hat3 hlt3;have d29':=x7a (a:=⟨p,29,none⟩) hgrow3 hpl2 hpo d29;have y29':=jk1 (a:=⟨p,29,none⟩) hgrow3 hpl2 hpo y29)))
       all_goals
        have G:=kp4 (g:=g3) (cap:=p3) (a:=(b:Int)) HB2.out.1 HB2.out.2.1 hown3 (by rw [← HLV.out];exact hgrow3) (by rw [← HLV.out];exact hat3) hlt3;have HN:Hid (∃ y,Lw ρ w p y R (w3.setCell ⟨p,29,none⟩ (.slice (some ⟨g3,0,none⟩) (z.hl.length+1) p3))):=by
         refine ⟨{ z.rd 3 with hl:=z.hl++[(b:Int)] },⟨give ρ' g3 6,HY.out.2.2.trans G.2.1 HB2.out.2.2.kp.size,G.1⟩,HB2.out.2.2.ext G.2.2 HY.out.2.2,{ HZ.out.2.1.rd hcz.1 with },?_,?_,?_,?_,?_⟩
         ·have e:({ z.rd 3 with hl:=z.hl++[(b:Int)] }:MS).told - ({ z.rd 3 with hl:=z.hl++[(b:Int)] }:MS).hl.length=n:=by
           show z.told - (z.hl++[(b:Int)]).length=n;rw [HZT.out,HZH.out];simp;omega
          rw [e];exact HS.out.symm
         ·show z.count - 3<=40;omega
         ·show z.told<=15;rw [HZT.out];exact htl
         ·show (z.hl++[(b:Int)]).length<=z.told;rw [HZT.out,HZH.out];simp;omega
         ·intro q hq;have hq':q∈z.hl++[(b:Int)]:=hq;rcases List.mem_append.1 hq' with hq' | hq'
          ·rw [HZH.out] at hq';exact HY.out.1.hx q hq'
          ·simp at hq';omega
        have eN:xda (w3.setCell ⟨p,29,none⟩ (.slice (some ⟨g3,0,none⟩) (z.hl.length+1) p3)) p=z.hl.length+1:=by
         obtain ⟨ad',cap',c',_⟩:=G.1.hlA;exact (x45 c').trans (by show (z.hl++[(b:Int)]).length=_;simp)
        clear G hown3 hgrow3 hat3 hlt3;go_wp2_with fail
        go_roundw
        case rel=>exact HN
        case measure=>rw [e29,eN,HZH.out];omega
      ·rw [if_neg h0] at HS;obtain ⟨t,ht⟩:∃ t,t=(MS.need 3 y).2:=⟨_,rfl⟩
       have HR:Hid (ym0 ρ w p (MS.need 3 y).1 w5∧(MS.need 3 y).2=t):=⟨⟨⟨ρ',HY.out.2.2,g1⟩,(HY.out.1.fr.drewN _).ext g2.five_mine HY.out.2.2⟩,ht.symm⟩
       rw [← ht] at h0 ⊢;have h0':((t:Int)==0)=false:=by simp;exact h0
       clear g1 g2 ht;go_wp2_with fail
       go_ret
       unfold xxu;rw [HF.out,HS.out,HR.out.2];exact ⟨rfl,HR.out.1⟩
     ·have hlti:¬ (y.hl.length:Int)<y.told:=by omega
      have HS:Hid (R=if jwa gw (hset y.hl)=2048 then ({ y with hs:=hset y.hl,st:=14 },0) else y.refuse 10):=by show R=_;rw [← HY.out.1.eq,MS.hl_zero hlt];rfl
      have HMH:Hid (∀ n,Calls Tryz.prog 139 #[.pointer (some ⟨p,26,none⟩)] (wr.drewN n) fun v w'=>kee ρ' (wr.drewN n) p y v w'):=fun n=>kpx (HY.out.2.1.drewN n) (HOG.out.1.fr (HY.out.1.fr.drewN n) HOG.out.2) HY.out.1.hx (by omega)
      go_wp2_with fail
      go_quiet (fail)
      go_wp2_with fail
      refine (HMH.out _).mono ?_;rintro v w5 HE5;unfold kee at HE5;by_cases hS:jwa gw (hset y.hl)=2048
      ·rw [if_pos hS] at HE5 HS;obtain ⟨rfl,AF⟩:=HE5;have AW:=ym0.next HY.out.2.2 (HY.out.1.fr.drewN _) AF;obtain ⟨ρ'',ex2,mm2⟩:=AW.ex;have k7:=mm2.cell7.1;have z7:=mm2.cell7.2;have HA:Hid (ym0 ρ w p { y with hs:=hset y.hl,st:=14 } (w5.setCell ⟨p,7,none⟩ (.int .i64 14))):=⟨⟨ρ'',ex2,(mm2.st 14).1⟩,AW.fr.ext (mm2.st 14).2.five_mine ex2⟩
       clear AF AW ex2 mm2;go_wp2_with fail
       go_ret
       unfold xxu;rw [HF.out,HS.out];exact ⟨rfl,HA.out⟩
      ·rw [if_neg hS] at HE5 HS;obtain ⟨rfl,AF⟩:=HE5;have AW:=ym0.next HY.out.2.2 (HY.out.1.fr.drewN _) AF;obtain ⟨ρ'',ex2,mm2⟩:=AW.ex;have HA:Hid (MM ρ'' w5 p y∧Ext w.heap.size ρ ρ''∧Fr mine ρ w w5):=⟨mm2,ex2,AW.fr⟩
       clear AF AW ex2 mm2;go_wp2_with fail
       refine (kv8 10 HA.out.1).mono ?_;rintro v w6 ⟨rfl,g3,g4⟩;have HR2:Hid (ym0 ρ w p (y.refuse 10).1 w6):=⟨⟨ρ'',HA.out.2.1,g3⟩,HA.out.2.2.ext g4.five_mine HA.out.2.1⟩
       clear g3 g4;go_wp2_with fail
       go_ret
       unfold xxu;rw [HF.out,HS.out];exact ⟨rfl,HR2.out⟩
  ·rw [if_neg h0] at R';obtain ⟨t,ht⟩:∃ t,t=(MS.need 4 y12).2:=⟨_,rfl⟩
   have HR:Hid (ym0 ρ w p (MS.need 4 y12).1 wa12∧(MS.need 4 y12).2=t):=⟨ym0.of g1 (H12.out.fr.trans g2).five_mine,ht.symm⟩
   rw [← ht] at h0 ⊢;have h0':((t:Int)==0)=false:=by simp;exact h0
   clear g1 g2 ht;go_wp2_with fail
   go_ret
   unfold xxu;rw [R'.out,HR.out.2];exact ⟨rfl,HR.out.1⟩
 ·rw [if_neg h0] at R';obtain ⟨t,ht⟩:∃ t,t=(MS.need 4 x).2:=⟨_,rfl⟩
  have HR:Hid (ym0 ρ w p (MS.need 4 x).1 wa11∧(MS.need 4 x).2=t):=⟨ym0.of g1 (H11.out.fr.trans g2).five_mine,ht.symm⟩
  rw [← ht] at h0 ⊢;have h0':((t:Int)==0)=false:=by simp;exact h0
  clear g1 g2 ht;go_wp2_with fail
  go_ret
  unfold xxu;rw [R'.out,HR.out.2];exact ⟨rfl,HR.out.1⟩
theorem knx{ρ:Nat->Nat}{w:World}{p:Nat}{x:MS}(h:MM ρ w p x)(ok:Ok x)(hc:x.count<=40)(hne:x.la≠[])(hlb:x.lb.length<=16)(hqc:∀ b∈x.qc,b<256)(hb:x.bits<=16∧x.least<=1000000∧1<=x.least)(hl:x.left<=65535)(hst:x.st=20) :
  Calls Tryz.prog 106 #[.pointer (some ⟨p,0,none⟩)] w fun v w'=>y0y ρ w p x.c20 v w':=by
 have H20:Hid (Cw ρ w p x w):=⟨h,ok,hc,hne,hlb,Fr.refl _ _ _⟩
 have Q20:=hqc;have c39:=h.cellI.2.2.1;have c40:=h.cellI.2.2.2.2.1;have B20:=hb;have L20:=hl;have R20:Hid (x.c20=MS.symThen (x.spanR x.least x.bits) fun y n=>if y.qc.length<n then y.refuse 11 else MS.c21 { y with dist:=n,st:=21 }):=rfl;have c7:=h.cell7.1;rw [hst] at c7;clear h ok hst hc hne hlb hqc;go_enter Tryz.func106,Tryz.ntmps106
 go_wp2_with fail
 have hbl:=B20;refine (xh4 x.least x.bits H20.out.mm H20.out.ok H20.out.cnt hbl.1 hbl.2.1).mono ?_;rintro v wa20 ⟨rfl,g1,g2⟩;have SF:=MS.spanR_facts (least:=x.least) H20.out.ok H20.out.cnt hbl.1;have R':Hid (x.c20=if (x.spanR x.least x.bits).2.1=0 then (if (x.spanR x.least x.bits).1.qc.length<(x.spanR x.least x.bits).2.2 then (x.spanR x.least x.bits).1.refuse 11 else MS.c21 { (x.spanR x.least x.bits).1 with dist:=(x.spanR x.least x.bits).2.2,st:=21 }) else ((x.spanR x.least x.bits).1,(x.spanR x.least x.bits).2.1)):=R20.out;clear R20;by_cases h0:(x.spanR x.least x.bits).2.1=0
 ·rw [if_pos h0] at R';obtain ⟨s1,s2,s3,s4⟩:=SF.2 h0;have so:=SF.1;have hD:(x.spanR x.least x.bits).2.2<=2000000∧1<=(x.spanR x.least x.bits).2.2:=by
   have:2^x.bits<=2^16:=Nat.pow_le_pow_right (by decide) hbl.1;have e:2^16=65536:=by decide
   have:=hbl.2.2;omega
  obtain ⟨z,t,D,hr⟩:∃ z t D,x.spanR x.least x.bits=(z,t,D):=⟨_,_,_,rfl⟩
  rw [hr] at g1 R' s1 s4 so hD h0 ⊢;have h0':t=0:=h0;subst h0';have hzl:z.left=x.left:=by have:z=_:=s4;rw [this]
  have hzq:z.qc=x.qc:=by have:z=_:=s4;rw [this]
  have HZ:Hid (MM ρ wa20 p z∧Ok z∧Fr (fun k=>1<=k∧k<=5) ρ w wa20):=⟨g1,so,H20.out.fr.trans g2⟩
  obtain ⟨cw,c17,HLEN0,_,_⟩:=g1.win;have HLEN:Hid (Calls Tryz.prog 57 #[.pointer (some ⟨cw,0,none⟩)] wa20 fun v w'=>v= .returned (.int .i64 z.qc.length)∧wa20=w'):=HLEN0;have c41:=g1.cellI.2.2.2.2.2.2.1;have z41:=g1.cellI.2.2.2.2.2.2.2;have hq256:z.qc.length<=256:=by obtain ⟨L,B,T⟩:=g1;exact B.rc'
  have HQB:Hid (∀ b∈z.qc,b<256):=by show ∀ b∈z.qc,b<256;rw [hzq];exact Q20
  have hleft:z.left<=65535:=by rw [hzl];exact L20
  clear g1 g2 hr s4 so SF HLEN0 h0 s1 s2 s3 hzl hzq;go_wp2_with fail
  refine HLEN.out.mono ?_;rintro v w' ⟨rfl,rfl⟩;obtain ⟨N,hN⟩:∃ N,N=z.qc.length:=⟨_,rfl⟩
  rw [← hN] at hq256 R' ⊢;have HN:Hid (N=z.qc.length):=hN;clear hN;by_cases hd:N<D
  ·rw [if_pos hd] at R';have hdi:(N:Int)<D:=by omega
   go_wp2_with fail
   refine (kv8 11 HZ.out.1).mono ?_;rintro v w4 ⟨rfl,g3,g4⟩;have HR2:Hid (MM ρ w4 p (z.refuse 11).1∧Fr (fun k=>1<=k∧k<=5) ρ w w4):=⟨g3,HZ.out.2.2.trans g4⟩
   clear g3 g4;go_wp2_with fail
   go_ret
   unfold y0y;rw [R'.out];exact ⟨rfl,HR2.out⟩
  ·rw [if_neg hd] at R';have hdi:¬ (N:Int)<D:=by omega
   have H1:=HZ.out.1.dist D;have H2:=H1.1.st 21;have k7:=HZ.out.1.cell7.1;have z7:=HZ.out.1.cell7.2;obtain ⟨R,hR⟩:∃ R,R=MS.c21 { z with dist:=D,st:=21 }:=⟨_,rfl⟩
   have H0:Hid (∃ y,Kw ρ w p y R ((wa20.setCell ⟨p,41,none⟩ (.int .i64 D)).setCell ⟨p,7,none⟩ (.int .i64 21))):=⟨{ z with dist:=D,st:=21 },H2.1,{ HZ.out.2.1 with },hR.symm,hleft,hD.2,by show D<=z.qc.length;rw [← HN.out];omega,HQB.out,(HZ.out.2.2.trans H1.2).trans H2.2⟩
   have HF:Hid (x.c20=R):=by show x.c20=R;rw [hR];exact R'.out
   clear H1 H2 hR R' HZ hd HLEN;go_wp2_with fail
   clear hdi;generalize decide (N<D)=dd;go_loopw [] (fun wr=>Hid (∃ y,Kw ρ w p y R wr)) (fun wr=>xq0 wr p 25)
   case atStart=>exact H0
   case round=>
    clear H0;obtain ⟨y,Y⟩:=hrel.out;have c25:=Y.mm.cell25.1;have e25:=xv1 c25;have hl:=Y.left;have HY:Hid (Kw ρ w p y R wr):=Y;by_cases hz:y.left=0
    ·have HZ:Hid (R=({ y with st:=17 },0)):=by show R=_;rw [← HY.out.eq,MS.copy_zero hz]
     rw [hz] at c25;have k7:=Y.mm.cell7.1;have z7:=Y.mm.cell7.2;have H17:Hid (MM ρ (wr.setCell ⟨p,7,none⟩ (.int .i64 17)) p { y with st:=17 }∧Fr (fun k=>1<=k∧k<=5) ρ wr (wr.setCell ⟨p,7,none⟩ (.int .i64 17))):=Y.mm.st 17;clear hz Y hrel;go_wp2_with fail
     go_ret
     unfold y0y;rw [HF.out,HZ.out];exact ⟨rfl,H17.out.1,HY.out.fr.trans H17.out.2⟩
    ·obtain ⟨n,hn⟩:∃ n,y.left=n+1:=⟨y.left - 1,by omega⟩
     have HS:Hid (R=if (y.put (y.qc.getD (y.qc.length - y.dist) 0)).2=0 then MS.copyL n { (y.put (y.qc.getD (y.qc.length - y.dist) 0)).1 with left:=n } else y.put (y.qc.getD (y.qc.length - y.dist) 0)):=by show R=_;rw [← HY.out.eq,MS.copy_succ hn]
     have hpos:(0:Int)<y.left:=by omega
     have hb:y.qc.getD (y.qc.length - y.dist) 0<256:=getD_lt Y.qb _;obtain ⟨cw,c17,_,HBK0,_⟩:=Y.mm.win;have HBK:Hid (∀ n,Calls Tryz.prog 150 #[.pointer (some ⟨cw,0,none⟩), .int .i64 y.dist] (wr.drewN n) fun v w'=>v= .returned (.int .u8 (y.qc.getD (y.qc.length - y.dist) 0:Nat))∧∃ m,w'=(wr.drewN n).drewN m):=fun n=>HBK0 n y.dist Y.d1 Y.d2
     have c41:=Y.mm.cellI.2.2.2.2.2.2.1;obtain ⟨b,hbE⟩:∃ b,b=y.qc.getD (y.qc.length - y.dist) 0:=⟨_,rfl⟩
     rw [← hbE] at HS hb HBK;clear hbE HBK0;have HPF:=MS.put_facts Y.ok b;have hq256:y.qc.length<=256:=by obtain ⟨L,B,T⟩:=Y.mm;exact B.rc'
     obtain ⟨P,hP⟩:∃ P,P=y.put b:=⟨_,rfl⟩
     have HPT:Hid (∀ wq,MM ρ wq p y->Calls Tryz.prog 137 #[.pointer (some ⟨p,0,none⟩), .int .u8 b] wq fun v w'=>y0y ρ wq p P v w'):=fun wq m=>by rw [hP];exact mPut b m HY.out.ok hb
     rw [← hP] at HS HPF;have HPF':Hid (Ok P.1∧(P.2=0->P.1=y.putted b)):=HPF;clear hP HPF hz Y hrel;by_cases h1:P.2=0
     ·have hPe:=HPF'.out.2 h1;rw [if_pos h1] at HS;have hPl:P.1.left=n+1:=by rw [hPe];exact hn
      have HPD:Hid (1<=P.1.dist∧P.1.dist<=P.1.qc.length∧∀ b∈P.1.qc,b<256):=by
       show _∧_∧_;rw [hPe];refine ⟨HY.out.d1,?_,vso HY.out.qb hb⟩;have:=xsr y.qc b hq256;have h3:=HY.out.d2;show y.dist<=(MS.pushed y.qc b).length;omega
      obtain ⟨Q,t,hQ⟩:∃ Q t,P=(Q,t):=⟨_,_,rfl⟩
      rw [hQ] at HS HPF' HPT hPl HPD h1;clear hQ hPe;have h1':t=0:=h1;subst h1';clear h1;go_wp2_with fail
      go_region_with (first
       | (go_at_call 150;refine (HBK.out 1).mono ?_;rintro e w2 ⟨rfl,m2,hw2⟩;have H2:Hid (MM ρ w2 p y∧Fr (fun k=>1<=k∧k<=5) ρ w w2):=by { show _∧_;rw [hw2];exact ⟨(HY.out.mm.drewN 1).drewN m2,(HY.out.fr.drewN 1).drewN m2⟩ };clear hw2)
       | (go_at_call 137;refine (HPT.out _ H2.out.1).mono ?_;rintro e w3 ⟨rfl,g1,g2⟩;have H3:Hid (MM ρ w3 p Q∧Fr (fun k=>1<=k∧k<=5) ρ w w3):=⟨g1,H2.out.2.trans g2⟩;clear g1 g2))
      all_goals
       have d25:w3.cell? ⟨p,25,none⟩=some (.int .i64 (n+1:Nat)):=by rw [← hPl];exact H3.out.1.cell25.1
       have z25:=H3.out.1.cell25.2;have HL:=H3.out.1.left n;have HN:Hid (∃ y,Kw ρ w p y R (w3.setCell ⟨p,25,none⟩ (.int .i64 n))):=⟨{ Q with left:=n },HL.1,{ HPF'.out.1 with },HS.out.symm,by show n<=65535;omega,HPD.out.1,HPD.out.2.1,HPD.out.2.2,H3.out.2.trans HL.2⟩
       have eN:xq0 (w3.setCell ⟨p,25,none⟩ (.int .i64 n)) p 25=n:=xv1 HL.1.cell25.1;have hn1:((n+1:Nat):Int) - 1=(n:Int):=by omega
       clear HL;go_wp2_with fail
       go_roundw
       case rel=>exact HN
       case measure=>rw [e25,eN];omega
     ·rw [if_neg h1] at HS;obtain ⟨Q,t,hQ⟩:∃ Q t,P=(Q,t):=⟨_,_,rfl⟩
      rw [hQ] at HS HPF' HPT h1;clear hQ;have h1':¬ t=0:=h1;have h0':((t:Int)==0)=false:=by simp;exact h1'
      clear h1;go_wp2_with fail
      go_region_with (first
       | (go_at_call 150;refine (HBK.out 1).mono ?_;rintro e w2 ⟨rfl,m2,hw2⟩;have H2:Hid (MM ρ w2 p y∧Fr (fun k=>1<=k∧k<=5) ρ w w2):=by { show _∧_;rw [hw2];exact ⟨(HY.out.mm.drewN 1).drewN m2,(HY.out.fr.drewN 1).drewN m2⟩ };clear hw2)
       | (go_at_call 137;refine (HPT.out _ H2.out.1).mono ?_;rintro e w3 ⟨rfl,g1,g2⟩;have H3:Hid (MM ρ w3 p Q∧Fr (fun k=>1<=k∧k<=5) ρ w w3):=⟨g1,H2.out.2.trans g2⟩;clear g1 g2))
      all_goals
       go_wp2_with fail
       go_ret
       unfold y0y;rw [HF.out,HS.out];exact ⟨rfl,H3.out⟩
 ·rw [if_neg h0] at R';obtain ⟨e,he⟩:∃ e,e=(x.spanR x.least x.bits).2.1:=⟨_,rfl⟩
  have HR:Hid (MM ρ wa20 p (x.spanR x.least x.bits).1∧Fr (fun k=>1<=k∧k<=5) ρ w wa20∧(x.spanR x.least x.bits).2.1=e):=⟨g1,H20.out.fr.trans g2,he.symm⟩
  rw [← he] at h0 ⊢;have h0':((e:Int)==0)=false:=by simp;exact h0
  clear g1 g2 he;go_wp2_with fail
  go_ret
  unfold y0y;rw [R'.out,HR.out.2.2];exact ⟨rfl,HR.out.1,HR.out.2.1⟩
theorem j5a{ρ:Nat->Nat}{w:World}{p:Nat}{x:MS}(h:MM ρ w p x)(ok:Ok x)(hc:x.count<=40)(hne:x.la≠[])(hlb:x.lb.length<=16)(hqc:∀ b∈x.qc,b<256)(hl:x.left<=65535)(hst:x.st=19) :
  Calls Tryz.prog 106 #[.pointer (some ⟨p,0,none⟩)] w fun v w'=>y0y ρ w p x.c19 v w':=by
 have H19:Hid (Cw ρ w p x w):=⟨h,ok,hc,hne,hlb,Fr.refl _ _ _⟩
 have Q19:=hqc;obtain ⟨gs,tl,td,c37,cg0,cg1,TL,TD,hgp⟩:=h.sets hne;have TDr:=TD.rng;have HTD:Hid (TabS ρ w 271 2 (fun i=>(y5c 1 i).toList) td x.lb):=TD;clear TL TD;have L19:=hl;have R19:Hid (x.c19=MS.symThen (x.sym x.lb) fun y k=>MS.c20 { y with least:=Tr.spanLeast 1 k,bits:=Tr.spanBits k,st:=20 }):=rfl;have c7:=h.cell7.1;rw [hst] at c7;clear h ok hst hc hne hlb hqc;go_enter Tryz.func106,Tryz.ntmps106
 go_wp2_with fail
 refine (kdd H19.out.mm H19.out.ok H19.out.cnt HTD.out).mono ?_;rintro v wa19 ⟨rfl,g1,g2⟩;have SF:=MS.sym_facts TDr H19.out.ok H19.out.cnt;have R':Hid (x.c19=if (x.sym x.lb).2.1=0 then MS.c20 { (x.sym x.lb).1 with least:=Tr.spanLeast 1 (x.sym x.lb).2.2,bits:=Tr.spanBits (x.sym x.lb).2.2,st:=20 } else ((x.sym x.lb).1,(x.sym x.lb).2.1)):=R19.out;clear R19;by_cases h0:(x.sym x.lb).2.1=0
 ·rw [if_pos h0] at R';rw [if_pos h0];obtain ⟨s1,s2,s3⟩:=SF.2 h0;have so:=SF.1;have hlb:=H19.out.lb;have sd:=k8m (k:=(x.sym x.lb).2.2) (by omega);obtain ⟨z,t,k,hr⟩:∃ z t k,x.sym x.lb=(z,t,k):=⟨_,_,_,rfl⟩
  rw [hr] at g1 R' s2 s3 so sd h0 ⊢;have h0':t=0:=h0;subst h0';have hza:z.la=x.la:=by have:z=_:=s3;rw [this]
  have hzb:z.lb=x.lb:=by have:z=_:=s3;rw [this]
  have hzl:z.left=x.left:=by have:z=_:=s3;rw [this]
  have hzq:z.qc=x.qc:=by have:z=_:=s3;rw [this]
  have b1:Below wa19.heap.size wa19 (wa19.alloc (.cells #[.int .i64 (Tr.spanLeast 1 k), .int .i64 (Tr.spanBits k)] 125)):=(Below.refl _ _).alloc (Nat.le_refl _) _;have HZ:Hid (MM ρ (wa19.alloc (.cells #[.int .i64 (Tr.spanLeast 1 k), .int .i64 (Tr.spanBits k)] 125)) p z∧Ok z∧Fr (fun k=>1<=k∧k<=5) ρ w (wa19.alloc (.cells #[.int .i64 (Tr.spanLeast 1 k), .int .i64 (Tr.spanBits k)] 125))):=⟨g1.below b1,so,(H19.out.fr.trans g2).trans (Fr.below b1)⟩
  have a39:=HZ.out.1.cellI.2.2.1;have z39:=HZ.out.1.cellI.2.2.2.1;have a40:=HZ.out.1.cellI.2.2.2.2.1;have z40:=HZ.out.1.cellI.2.2.2.2.2.1;have k7:=HZ.out.1.cell7.1;have z7:=HZ.out.1.cell7.2;have q0:(wa19.alloc (.cells #[.int .i64 (Tr.spanLeast 1 k), .int .i64 (Tr.spanBits k)] 125)).cell? ⟨wa19.heap.size,0,none⟩=some (.int .i64 (Tr.spanLeast 1 k)):=by simp
  have q1:(wa19.alloc (.cells #[.int .i64 (Tr.spanLeast 1 k), .int .i64 (Tr.spanBits k)] 125)).cell? ⟨wa19.heap.size,1,none⟩=some (.int .i64 (Tr.spanBits k)):=by simp
  have HA:=HZ.out.1.span (Tr.spanLeast 1 k) (Tr.spanBits k);have HB:=HA.1.st 20;obtain ⟨y20,hy20⟩:∃ y20:MS,y20={ z with least:=Tr.spanLeast 1 k,bits:=Tr.spanBits k,st:=20 }:=⟨_,rfl⟩
  obtain ⟨WW20,hW⟩:∃ W,W=(((wa19.alloc (.cells #[.int .i64 (Tr.spanLeast 1 k), .int .i64 (Tr.spanBits k)] 125)).setCell ⟨p,39,none⟩ (.int .i64 (Tr.spanLeast 1 k))).setCell ⟨p,40,none⟩ (.int .i64 (Tr.spanBits k))).setCell ⟨p,7,none⟩ (.int .i64 20):=⟨_,rfl⟩
  have H20:Hid (Cw ρ w p y20 WW20):=by
   show Cw ρ w p y20 WW20;rw [hW,hy20];exact ⟨HB.1,{ HZ.out.2.1 with },s2,by show z.la≠[];rw [hza];exact H19.out.ne,by show z.lb.length<=16;rw [hzb];exact H19.out.lb,(HZ.out.2.2.trans HA.2).trans HB.2⟩
  have B20:y20.bits<=16∧y20.least<=1000000∧1<=y20.least:=by rw [hy20];exact sd
  have Q20:∀ b∈y20.qc,b<256:=by rw [hy20];show ∀ b∈z.qc,b<256;rw [hzq];exact Q19
  have L20:y20.left<=65535:=by rw [hy20];show z.left<=65535;rw [hzl];exact L19
  have R20:Hid (x.c19=MS.c20 y20):=by show x.c19=_;rw [hy20];exact R'.out
  have HW20:Hid (WW20=(((wa19.alloc (.cells #[.int .i64 (Tr.spanLeast 1 k), .int .i64 (Tr.spanBits k)] 125)).setCell ⟨p,39,none⟩ (.int .i64 (Tr.spanLeast 1 k))).setCell ⟨p,40,none⟩ (.int .i64 (Tr.spanBits k))).setCell ⟨p,7,none⟩ (.int .i64 20)):=hW;have hE3:Tr.spanLeast 1 k=y20.least:=by rw [hy20]
  have hE4:Tr.spanBits k=y20.bits:=by rw [hy20]
  unfold y5c;clear g1 g2 hr s3 so SF h0 hza hzb hzl hzq HA HB hy20 hW b1 sd R' HZ;rw [hE3,hE4] at HW20 a39 z39 a40 z40 k7 z7 q0 q1 ⊢;clear hE3 hE4;go_wp2_with fail
  rw [← HW20.out];clear a39 z39 a40 z40 k7 z7 q0 q1 HW20;have hbl:=B20;refine (xh4 y20.least y20.bits H20.out.mm H20.out.ok H20.out.cnt hbl.1 hbl.2.1).mono ?_;rintro v wa20 ⟨rfl,g1,g2⟩;have SF:=MS.spanR_facts (least:=y20.least) H20.out.ok H20.out.cnt hbl.1;have R':Hid (x.c19=if (y20.spanR y20.least y20.bits).2.1=0 then (if (y20.spanR y20.least y20.bits).1.qc.length<(y20.spanR y20.least y20.bits).2.2 then (y20.spanR y20.least y20.bits).1.refuse 11 else MS.c21 { (y20.spanR y20.least y20.bits).1 with dist:=(y20.spanR y20.least y20.bits).2.2,st:=21 }) else ((y20.spanR y20.least y20.bits).1,(y20.spanR y20.least y20.bits).2.1)):=R20.out;clear R20;by_cases h0:(y20.spanR y20.least y20.bits).2.1=0
  ·rw [if_pos h0] at R';obtain ⟨s1,s2,s3,s4⟩:=SF.2 h0;have so:=SF.1;have hD:(y20.spanR y20.least y20.bits).2.2<=2000000∧1<=(y20.spanR y20.least y20.bits).2.2:=by
    have:2^y20.bits<=2^16:=Nat.pow_le_pow_right (by decide) hbl.1;have e:2^16=65536:=by decide
    have:=hbl.2.2;omega
   obtain ⟨z,t,D,hr⟩:∃ z t D,y20.spanR y20.least y20.bits=(z,t,D):=⟨_,_,_,rfl⟩
   rw [hr] at g1 R' s1 s4 so hD h0 ⊢;have h0':t=0:=h0;subst h0';have hzl:z.left=y20.left:=by have:z=_:=s4;rw [this]
   have hzq:z.qc=y20.qc:=by have:z=_:=s4;rw [this]
   have HZ:Hid (MM ρ wa20 p z∧Ok z∧Fr (fun k=>1<=k∧k<=5) ρ w wa20):=⟨g1,so,H20.out.fr.trans g2⟩
   obtain ⟨cw,c17,HLEN0,_,_⟩:=g1.win;have HLEN:Hid (Calls Tryz.prog 57 #[.pointer (some ⟨cw,0,none⟩)] wa20 fun v w'=>v= .returned (.int .i64 z.qc.length)∧wa20=w'):=HLEN0;have c41:=g1.cellI.2.2.2.2.2.2.1;have z41:=g1.cellI.2.2.2.2.2.2.2;have hq256:z.qc.length<=256:=by obtain ⟨L,B,T⟩:=g1;exact B.rc'
   have HQB:Hid (∀ b∈z.qc,b<256):=by show ∀ b∈z.qc,b<256;rw [hzq];exact Q20
   have hleft:z.left<=65535:=by rw [hzl];exact L20
   clear g1 g2 hr s4 so SF HLEN0 h0 s1 s2 s3 hzl hzq;go_wp2_with fail
   refine HLEN.out.mono ?_;rintro v w' ⟨rfl,rfl⟩;obtain ⟨N,hN⟩:∃ N,N=z.qc.length:=⟨_,rfl⟩
   rw [← hN] at hq256 R' ⊢;have HN:Hid (N=z.qc.length):=hN;clear hN;by_cases hd:N<D
   ·rw [if_pos hd] at R';have hdi:(N:Int)<D:=by omega
    go_wp2_with fail
    refine (kv8 11 HZ.out.1).mono ?_;rintro v w4 ⟨rfl,g3,g4⟩;have HR2:Hid (MM ρ w4 p (z.refuse 11).1∧Fr (fun k=>1<=k∧k<=5) ρ w w4):=⟨g3,HZ.out.2.2.trans g4⟩
    clear g3 g4;go_wp2_with fail
    go_ret
    unfold y0y;rw [R'.out];exact ⟨rfl,HR2.out⟩
   ·rw [if_neg hd] at R';have hdi:¬ (N:Int)<D:=by omega
    have H1:=HZ.out.1.dist D;have H2:=H1.1.st 21;have k7:=HZ.out.1.cell7.1;have z7:=HZ.out.1.cell7.2;obtain ⟨R,hR⟩:∃ R,R=MS.c21 { z with dist:=D,st:=21 }:=⟨_,rfl⟩
    have H0:Hid (∃ y,Kw ρ w p y R ((wa20.setCell ⟨p,41,none⟩ (.int .i64 D)).setCell ⟨p,7,none⟩ (.int .i64 21))):=⟨{ z with dist:=D,st:=21 },H2.1,{ HZ.out.2.1 with },hR.symm,hleft,hD.2,by show D<=z.qc.length;rw [← HN.out];omega,HQB.out,(HZ.out.2.2.trans H1.2).trans H2.2⟩
    have HF:Hid (x.c19=R):=by show x.c19=R;rw [hR];exact R'.out
    clear H1 H2 hR R' HZ hd HLEN;go_wp2_with fail
    clear hdi;generalize decide (N<D)=dd;go_loopw [] (fun wr=>Hid (∃ y,Kw ρ w p y R wr)) (fun wr=>xq0 wr p 25)
    case atStart=>exact H0
    case round=>
     clear H0;obtain ⟨y,Y⟩:=hrel.out;have c25:=Y.mm.cell25.1;have e25:=xv1 c25;have hl:=Y.left;have HY:Hid (Kw ρ w p y R wr):=Y;by_cases hz:y.left=0
     ·have HZ:Hid (R=({ y with st:=17 },0)):=by show R=_;rw [← HY.out.eq,MS.copy_zero hz]
      rw [hz] at c25;have k7:=Y.mm.cell7.1;have z7:=Y.mm.cell7.2;have H17:Hid (MM ρ (wr.setCell ⟨p,7,none⟩ (.int .i64 17)) p { y with st:=17 }∧Fr (fun k=>1<=k∧k<=5) ρ wr (wr.setCell ⟨p,7,none⟩ (.int .i64 17))):=Y.mm.st 17;clear hz Y hrel;go_wp2_with fail
      go_ret
      unfold y0y;rw [HF.out,HZ.out];exact ⟨rfl,H17.out.1,HY.out.fr.trans H17.out.2⟩
     ·obtain ⟨n,hn⟩:∃ n,y.left=n+1:=⟨y.left - 1,by omega⟩
      have HS:Hid (R=if (y.put (y.qc.getD (y.qc.length - y.dist) 0)).2=0 then MS.copyL n { (y.put (y.qc.getD (y.qc.length - y.dist) 0)).1 with left:=n } else y.put (y.qc.getD (y.qc.length - y.dist) 0)):=by show R=_;rw [← HY.out.eq,MS.copy_succ hn]
      have hpos:(0:Int)<y.left:=by omega
      have hb:y.qc.getD (y.qc.length - y.dist) 0<256:=getD_lt Y.qb _;obtain ⟨cw,c17,_,HBK0,_⟩:=Y.mm.win;have HBK:Hid (∀ n,Calls Tryz.prog 150 #[.pointer (some ⟨cw,0,none⟩), .int .i64 y.dist] (wr.drewN n) fun v w'=>v= .returned (.int .u8 (y.qc.getD (y.qc.length - y.dist) 0:Nat))∧∃ m,w'=(wr.drewN n).drewN m):=fun n=>HBK0 n y.dist Y.d1 Y.d2
      have c41:=Y.mm.cellI.2.2.2.2.2.2.1;obtain ⟨b,hbE⟩:∃ b,b=y.qc.getD (y.qc.length - y.dist) 0:=⟨_,rfl⟩
      rw [← hbE] at HS hb HBK;clear hbE HBK0;have HPF:=MS.put_facts Y.ok b;have hq256:y.qc.length<=256:=by obtain ⟨L,B,T⟩:=Y.mm;exact B.rc'
      obtain ⟨P,hP⟩:∃ P,P=y.put b:=⟨_,rfl⟩
      have HPT:Hid (∀ wq,MM ρ wq p y->Calls Tryz.prog 137 #[.pointer (some ⟨p,0,none⟩), .int .u8 b] wq fun v w'=>y0y ρ wq p P v w'):=fun wq m=>by rw [hP];exact mPut b m HY.out.ok hb
      rw [← hP] at HS HPF;have HPF':Hid (Ok P.1∧(P.2=0->P.1=y.putted b)):=HPF;clear hP HPF hz Y hrel;by_cases h1:P.2=0
      ·have hPe:=HPF'.out.2 h1;rw [if_pos h1] at HS;have hPl:P.1.left=n+1:=by rw [hPe];exact hn
       have HPD:Hid (1<=P.1.dist∧P.1.dist<=P.1.qc.length∧∀ b∈P.1.qc,b<256):=by
        show _∧_∧_;rw [hPe];refine ⟨HY.out.d1,?_,vso HY.out.qb hb⟩;have:=xsr y.qc b hq256;have h3:=HY.out.d2;show y.dist<=(MS.pushed y.qc b).length;omega
       obtain ⟨Q,t,hQ⟩:∃ Q t,P=(Q,t):=⟨_,_,rfl⟩
       rw [hQ] at HS HPF' HPT hPl HPD h1;clear hQ hPe;have h1':t=0:=h1;subst h1';clear h1;go_wp2_with fail
       go_region_with (first
        | (go_at_call 150;refine (HBK.out 1).mono ?_;rintro e w2 ⟨rfl,m2,hw2⟩;have H2:Hid (MM ρ w2 p y∧Fr (fun k=>1<=k∧k<=5) ρ w w2):=by { show _∧_;rw [hw2];exact ⟨(HY.out.mm.drewN 1).drewN m2,(HY.out.fr.drewN 1).drewN m2⟩ };clear hw2)
        | (go_at_call 137;refine (HPT.out _ H2.out.1).mono ?_;rintro e w3 ⟨rfl,g1,g2⟩;have H3:Hid (MM ρ w3 p Q∧Fr (fun k=>1<=k∧k<=5) ρ w w3):=⟨g1,H2.out.2.trans g2⟩;clear g1 g2))
       all_goals
        have d25:w3.cell? ⟨p,25,none⟩=some (.int .i64 (n+1:Nat)):=by rw [← hPl];exact H3.out.1.cell25.1
        have z25:=H3.out.1.cell25.2;have HL:=H3.out.1.left n;have HN:Hid (∃ y,Kw ρ w p y R (w3.setCell ⟨p,25,none⟩ (.int .i64 n))):=⟨{ Q with left:=n },HL.1,{ HPF'.out.1 with },HS.out.symm,by show n<=65535;omega,HPD.out.1,HPD.out.2.1,HPD.out.2.2,H3.out.2.trans HL.2⟩
        have eN:xq0 (w3.setCell ⟨p,25,none⟩ (.int .i64 n)) p 25=n:=xv1 HL.1.cell25.1;have hn1:((n+1:Nat):Int) - 1=(n:Int):=by omega
        clear HL;go_wp2_with fail
        go_roundw
        case rel=>exact HN
        case measure=>rw [e25,eN];omega
      ·rw [if_neg h1] at HS;obtain ⟨Q,t,hQ⟩:∃ Q t,P=(Q,t):=⟨_,_,rfl⟩
       rw [hQ] at HS HPF' HPT h1;clear hQ;have h1':¬ t=0:=h1;have h0':((t:Int)==0)=false:=by simp;exact h1'
       clear h1;go_wp2_with fail
       go_region_with (first
        | (go_at_call 150;refine (HBK.out 1).mono ?_;rintro e w2 ⟨rfl,m2,hw2⟩;have H2:Hid (MM ρ w2 p y∧Fr (fun k=>1<=k∧k<=5) ρ w w2):=by { show _∧_;rw [hw2];exact ⟨(HY.out.mm.drewN 1).drewN m2,(HY.out.fr.drewN 1).drewN m2⟩ };clear hw2)
        | (go_at_call 137;refine (HPT.out _ H2.out.1).mono ?_;rintro e w3 ⟨rfl,g1,g2⟩;have H3:Hid (MM ρ w3 p Q∧Fr (fun k=>1<=k∧k<=5) ρ w w3):=⟨g1,H2.out.2.trans g2⟩;clear g1 g2))
       all_goals
        go_wp2_with fail
        go_ret
        unfold y0y;rw [HF.out,HS.out];exact ⟨rfl,H3.out⟩
  ·rw [if_neg h0] at R';obtain ⟨e,he⟩:∃ e,e=(y20.spanR y20.least y20.bits).2.1:=⟨_,rfl⟩
   have HR:Hid (MM ρ wa20 p (y20.spanR y20.least y20.bits).1∧Fr (fun k=>1<=k∧k<=5) ρ w wa20∧(y20.spanR y20.least y20.bits).2.1=e):=⟨g1,H20.out.fr.trans g2,he.symm⟩
   rw [← he] at h0 ⊢;have h0':((e:Int)==0)=false:=by simp;exact h0
   clear g1 g2 he;go_wp2_with fail
   go_ret
   unfold y0y;rw [R'.out,HR.out.2.2];exact ⟨rfl,HR.out.1,HR.out.2.1⟩
 ·rw [if_neg h0] at R';rw [if_neg h0];obtain ⟨e,he⟩:∃ e,e=(x.sym x.lb).2.1:=⟨_,rfl⟩
  have b1:Below wa19.heap.size wa19 (wa19.alloc (.cells #[.int .i64 0, .int .i64 0] 125)):=(Below.refl _ _).alloc (Nat.le_refl _) _;have HR:Hid (MM ρ (wa19.alloc (.cells #[.int .i64 0, .int .i64 0] 125)) p (x.sym x.lb).1∧Fr (fun k=>1<=k∧k<=5) ρ w (wa19.alloc (.cells #[.int .i64 0, .int .i64 0] 125))∧(x.sym x.lb).2.1=e):=⟨g1.below b1,(H19.out.fr.trans g2).trans (Fr.below b1),he.symm⟩
  rw [← he] at h0 ⊢;have h0':((e:Int)==0)=false:=by simp;exact h0
  clear g1 g2 he b1;go_wp2_with fail
  go_ret
  unfold y0y;rw [R'.out,HR.out.2.2];exact ⟨rfl,HR.out.1,HR.out.2.1⟩
end Go.Proofs.YtbcjmakpempkiaaGreatDoor
