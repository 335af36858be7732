import Derived.Test.YtbcjmakpempkiaaGreatDoorX27
set_option maxRecDepth 100000
set_option maxHeartbeats 8000000
set_option linter.all false
namespace Go.Proofs.YtbcjmakpempkiaaGreatDoor
open Go.RowKit
theorem MM.cell24{ρ:Nat->Nat}{w:World}{p:Nat}{x:MS}(h:MM ρ w p x):w.cell? ⟨p,24,none⟩=some (.bool x.last)∧w.frozen? ⟨p,24,none⟩=false:=by
 obtain ⟨L,B,_⟩:=h;exact ⟨B.row.cell (i:=24) (by omega),B.row.frozen 24⟩
theorem MM.set_last{ρ:Nat->Nat}{w:World}{p:Nat}{x:MS}(h:MM ρ w p x)(b:Bool):MM ρ (w.setCell ⟨p,24,none⟩ (.bool b)) p { x with last:=b }∧Fr (fun k=>1<=k∧k<=5) ρ w (w.setCell ⟨p,24,none⟩ (.bool b)):=by
 obtain ⟨L,B,T⟩:=h;exact ⟨⟨L,B.set (y:={ x with last:=b }) 24 (.bool b) rfl ⟨rfl,rfl,rfl,rfl⟩ ⟨rfl,rfl⟩,(T.set B.rp 24 _).same rfl rfl rfl rfl ⟨rfl,rfl⟩⟩,Fr.own w p 24 _ B.rp⟩
theorem MM.facts4{ρ:Nat->Nat}{w:World}{p:Nat}{x:MS}(h:MM ρ w p x):w.cell? ⟨p,7,none⟩=some (.int .i64 x.st)∧w.frozen? ⟨p,7,none⟩=false∧p<w.heap.size:=⟨h.cell7.1,h.cell7.2,by obtain ⟨L,B,_⟩:=h;exact B.row.lt⟩
theorem Ok.last{x:MS}(h:Ok x)(b:Bool):Ok { x with last:=b }:={ h with }
theorem zob(q:MS)(B:Bool):({ q.rd 1 with last:=B }:MS).num 2=q.held / 2%4∧({ q.rd 1 with last:=B }:MS).rd 2={ q.rd 3 with last:=B }:=by
 refine ⟨rfl,?_⟩;have:=MS.rd_rd q 1 2;unfold MS.rd at this ⊢;injection this;simp_all
theorem kvf{ρ:Nat->Nat}{w:World}{p:Nat}{x:MS}(h:MM ρ w p x)(ok:Ok x)(hx:x.count<=32) :
  Calls Tryz.prog 101 #[.pointer (some ⟨p,0,none⟩)] w fun v w'=>xxu ρ w p x.b7 v w':=by
 have HM:Hid (MM ρ w p x∧Ok x):=⟨h,ok⟩
 have HE:Hid (x.b7=if (MS.need 3 x).2=0 then MS.kind (MS.need 3 x).1 else MS.need 3 x):=rfl;clear h ok;go_enter Tryz.func101,Tryz.ntmps101
 go_wp2_with fail
 refine (zvo 3 HM.out.1 HM.out.2 (by omega) (by omega)).mono ?_;rintro v w1 ⟨rfl,g1,g2⟩;by_cases h0:(MS.need 3 x).2=0
 ·have k1:=MS.need_cnt HM.out.2 h0;have k3:=MS.need_ok (k:=3) HM.out.2;rw [h0];rw [if_pos h0] at HE;obtain ⟨q,hq⟩:∃ q,q=(MS.need 3 x).1:=⟨_,rfl⟩
  rw [← hq] at g1 HE k1 k3;have HQ:Hid (MM ρ w1 p q∧Ok q∧Fr (fun k=>1<=k∧k<=5) ρ w w1):=⟨g1,k3,g2⟩
  clear g1 g2 hq k3 h0 HM;go_wp2_with fail
  refine (zw3 1 HQ.out.1 HQ.out.2.1 (by omega) (by omega)).mono ?_;rintro v w2 ⟨rfl,g1,g2⟩;obtain ⟨B,hB⟩:∃ B,B=(q.num 1==1):=⟨_,rfl⟩
  have hv:q.num 1=0∨q.num 1=1:=by have:q.num 1<2:=Nat.mod_lt _ (by decide);omega
  have c24:=g1.cell24.1;have z24:=g1.cell24.2;have HL:=g1.set_last B;have HK:Hid (x.b7=if q.held / 2%4=0 then MS.skipBits { q.rd 3 with last:=B,st:=8 }
   else if q.held / 2%4=1 then ({ q.rd 3 with last:=B,la:=Tr.fixedA,lb:=Tr.fixedB,st:=17 },0)
   else if q.held / 2%4=2 then ({ q.rd 3 with last:=B,st:=10 },0)
   else ({ q.rd 3 with last:=B }:MS).refuse 7):=by show x.b7=_;rw [HE.out,hB];rfl
  have HZ:Hid (MM ρ (w2.setCell ⟨p,24,none⟩ (.bool B)) p { q.rd 1 with last:=B }∧Ok { q.rd 1 with last:=B }∧Fr (fun k=>1<=k∧k<=5) ρ w (w2.setCell ⟨p,24,none⟩ (.bool B))):=⟨HL.1,(HQ.out.2.1.rd (k:=1) (by omega)).last B,(HQ.out.2.2.trans g2).trans HL.2⟩
  have hcz:({ q.rd 1 with last:=B }:MS).count=q.count - 1:=rfl;obtain ⟨r1,r2⟩:=zob q B;obtain ⟨z,hz⟩:∃ z:MS,z={ q.rd 1 with last:=B }:=⟨_,rfl⟩
  rw [← hz] at HZ r1 r2 hcz;have HOK:Hid (Ok ({ q.rd 3 with last:=B }:MS)):=(HQ.out.2.1.rd (k:=3) (by omega)).last B;have HR1:Hid (z.num 2=q.held / 2%4∧z.rd 2={ q.rd 3 with last:=B }):=⟨r1,r2⟩
  have hcu:({ q.rd 3 with last:=B }:MS).count=q.count - 3:=rfl;obtain ⟨u,hu⟩:∃ u:MS,u={ q.rd 3 with last:=B }:=⟨_,rfl⟩
  have HK2:Hid (x.b7=if z.num 2=0 then MS.skipBits { u with st:=8 }
   else if z.num 2=1 then ({ u with la:=Tr.fixedA,lb:=Tr.fixedB,st:=17 },0)
   else if z.num 2=2 then ({ u with st:=10 },0)
   else u.refuse 7):=by show x.b7=_;rw [HK.out,hu,r1]
  rw [← hu] at HR1 HOK hcu;clear hz g1 g2 HL HE HK r1 r2 hu;generalize hN:z.num 2=N at HR1 HK2;have HN:Hid (z.num 2=N):=hN;have hN4:N<4:=by rw [← hN];exact Nat.mod_lt _ (by decide)
  clear hN;rcases hv with e | e
  all_goals
   rw [e] at hB ⊢;obtain rfl:=hB;clear e;go_wp2_with fail
   refine (zw3 2 HZ.out.1 HZ.out.2.1 (by omega) (by omega)).mono ?_;rintro v w3 ⟨rfl,g1,g2⟩;rw [HN.out];rw [HR1.out.2] at g1;have HU:Hid (MM ρ w3 p u∧Fr (fun k=>1<=k∧k<=5) ρ w w3):=⟨g1,HZ.out.2.2.trans g2⟩
   obtain ⟨c7,z7,hpl⟩:=g1.facts4;clear g1 g2 HN HZ HQ HR1 c24 z24;obtain rfl | rfl | rfl | rfl:N=0∨N=1∨N=2∨N=3:=by omega
   ·have HX:Hid (x.b7=MS.skipBits { u with st:=8 }):=HK2.out;clear HK2;have HS:=HU.out.1.st 8;have HS2:Hid (MM ρ (w3.setCell ⟨p,7,none⟩ (.int .i64 8)) p { u with st:=8 }∧Fr (fun k=>1<=k∧k<=5) ρ w (w3.setCell ⟨p,7,none⟩ (.int .i64 8))):=⟨HS.1,HU.out.2.trans HS.2⟩
    clear HS;go_wp2_with fail
    refine (z45 HS2.out.1 (HOK.out.st 8) (by show u.count<=63;omega)).mono ?_;rintro v w4 ⟨rfl,g1,g2⟩;have HF:Hid (xxu ρ w p x.b7 (.returned (.int .i64 ({ u with st:=8 }:MS).skipBits.2)) w4):=by
     show xxu _ _ _ _ _ _;rw [HX.out];exact y0y.x ⟨rfl,g1,HS2.out.2.trans g2⟩
    clear g1 g2 HX HS2;generalize ({ u with st:=8 }:MS).skipBits.2=n at *;go_wp2_with fail
    go_ret
    exact HF.out
   ·have HX:Hid (x.b7=({ u with la:=Tr.fixedA,lb:=Tr.fixedB,st:=17 },0)):=HK2.out;clear HK2;go_wp2_with fail
    refine (z99 HU.out.1).mono ?_;rintro v w4 ⟨rfl,A⟩;obtain ⟨ρ',e1,m⟩:=A.ex;obtain ⟨c7,z7,hpl⟩:=m.facts4;have HF:Hid (xxu ρ w p x.b7 (.returned (.int .i64 0)) (w4.setCell ⟨p,7,none⟩ (.int .i64 17))):=by
     show xxu _ _ _ _ _ _;rw [HX.out];have s:=m.st 17;exact ⟨rfl,⟨ρ',fun k hk=>e1 k (Nat.lt_of_lt_of_le hk HU.out.2.kp.size),s.1⟩,(HU.out.2.five_mine.trans A.fr).ext s.2.five_mine (fun k hk=>e1 k (Nat.lt_of_lt_of_le hk HU.out.2.kp.size))⟩
    clear A m;go_wp2_with fail
    go_ret
    exact HF.out
   ·have HF:Hid (xxu ρ w p x.b7 (.returned (.int .i64 0)) (w3.setCell ⟨p,7,none⟩ (.int .i64 10))):=by
     show xxu _ _ _ _ _ _;rw [show x.b7=({ u with st:=10 },0) from HK2.out];have s:=HU.out.1.st 10;exact y0y.x ⟨rfl,s.1,HU.out.2.trans s.2⟩
    go_wp2_with fail
    go_ret
    exact HF.out
   ·have HX:Hid (x.b7=u.refuse 7):=HK2.out;clear HK2;go_wp2_with fail
    refine (kv8 7 HU.out.1).mono ?_;rintro v w4 ⟨rfl,g1,g2⟩;have HF:Hid (xxu ρ w p x.b7 (.returned (.int .i64 (u.refuse 7).2)) w4):=by
     show xxu _ _ _ _ _ _;rw [HX.out];exact y0y.x ⟨rfl,g1,HU.out.2.trans g2⟩
    clear g1 g2 HX;generalize (u.refuse 7).2=n at *;go_wp2_with fail
    go_ret
    exact HF.out
 ·have HF:Hid (xxu ρ w p x.b7 (.returned (.int .i64 (MS.need 3 x).2)) w1):=by
   show xxu _ _ _ _ _ _;rw [HE.out,if_neg h0];exact y0y.x ⟨rfl,g1,g2⟩
  clear g1 g2 HE;generalize (MS.need 3 x).2=n at *;have hn:¬ ((n:Int)=0):=by omega
  go_wp2_with fail
  go_ret
  exact HF.out
theorem MM.set_nl{ρ:Nat->Nat}{w:World}{p:Nat}{x:MS}(h:MM ρ w p x)(n:Nat):MM ρ (w.setCell ⟨p,26,none⟩ (.int .i64 n)) p { x with nl:=n }∧Fr (fun k=>1<=k∧k<=5) ρ w (w.setCell ⟨p,26,none⟩ (.int .i64 n)):=by
 obtain ⟨L,B,T⟩:=h;exact (((show Bh ρ w p x x L w from ⟨B,T,Fr.refl _ _ _⟩).set (z:={ x with nl:=n }) 26 _ rfl ⟨rfl,rfl⟩).done rfl rfl rfl rfl ⟨rfl,rfl⟩)
theorem MM.set_nd{ρ:Nat->Nat}{w:World}{p:Nat}{x:MS}(h:MM ρ w p x)(n:Nat):MM ρ (w.setCell ⟨p,27,none⟩ (.int .i64 n)) p { x with nd:=n }∧Fr (fun k=>1<=k∧k<=5) ρ w (w.setCell ⟨p,27,none⟩ (.int .i64 n)):=by
 obtain ⟨L,B,T⟩:=h;exact (((show Bh ρ w p x x L w from ⟨B,T,Fr.refl _ _ _⟩).set (z:={ x with nd:=n }) 27 _ rfl ⟨rfl,rfl⟩).done rfl rfl rfl rfl ⟨rfl,rfl⟩)
theorem MM.set_told{ρ:Nat->Nat}{w:World}{p:Nat}{x:MS}(h:MM ρ w p x)(n:Nat):MM ρ (w.setCell ⟨p,28,none⟩ (.int .i64 n)) p { x with told:=n }∧Fr (fun k=>1<=k∧k<=5) ρ w (w.setCell ⟨p,28,none⟩ (.int .i64 n)):=by
 obtain ⟨L,B,T⟩:=h;exact (((show Bh ρ w p x x L w from ⟨B,T,Fr.refl _ _ _⟩).set (z:={ x with told:=n }) 28 _ rfl ⟨rfl,rfl⟩).done rfl rfl rfl rfl ⟨rfl,rfl⟩)
structure Nw(ρ:Nat->Nat)(w:World)(p:Nat)(y:MS)(w':World):Prop where
 mm:MM ρ w' p y
 ok:Ok y
 cnt:y.count<=40
 hl:y.hl=[]
 fr:Fr (fun k=>1<=k∧k<=5) ρ w w'
theorem y4i{ρ:Nat->Nat}{w:World}{p:Nat}{x:MS}(h:MM ρ w p x)(ok:Ok x)(hc:x.count<=40)(hO:OrdP w)(hG:ρ 0=0)(hl:x.hl=[])(hst:x.st=12) :
  Calls Tryz.prog 103 #[.pointer (some ⟨p,0,none⟩)] w fun v w'=>xxu ρ w p x.o12 v w':=by
 have H12:Hid (Nw ρ w p x w):=⟨h,ok,hc,hl,Fr.refl _ _ _⟩
 have HOG:Hid (OrdP w∧ρ 0=0):=⟨hO,hG⟩
 have c7:=h.cell7.1;rw [hst] at c7;clear h ok hst hc hO hG hl;go_enter Tryz.func103,Tryz.ntmps103
 go_wp2_with fail
 refine (zvo 4 H12.out.mm H12.out.ok (by omega) (by have:=H12.out.cnt;omega)).mono ?_;rintro v wa12 ⟨rfl,g1,g2⟩;have R':Hid (x.o12=if (MS.need 4 x).2=0 then (if 11<(MS.need 4 x).1.num 4 then ({ (MS.need 4 x).1.rd 4 with told:=4+(MS.need 4 x).1.num 4 }:MS).refuse 10 else MS.o13 { (MS.need 4 x).1.rd 4 with told:=4+(MS.need 4 x).1.num 4,st:=13 }) else MS.need 4 x):=rfl;by_cases h0:(MS.need 4 x).2=0
 ·have k1:=MS.need_cnt H12.out.ok h0;have k2:=MS.need_same H12.out.ok h0;have k3:=MS.need_ok (k:=4) H12.out.ok;have hcn:=H12.out.cnt;rw [h0];rw [if_pos h0] at R';obtain ⟨z,hz⟩:∃ z,z=(MS.need 4 x).1:=⟨_,rfl⟩
  rw [← hz] at g1 R' k1 k2 k3;have hzh:z.hl=[]:=by rw [k2];exact H12.out.hl
  have HZ:Hid (MM ρ wa12 p z∧Ok z∧Fr (fun k=>1<=k∧k<=5) ρ w wa12∧z.hl=[]):=⟨g1,k3,H12.out.fr.trans g2,hzh⟩
  clear g1 g2 hz k2 k3 h0 hzh;go_wp2_with fail
  refine (zw3 4 HZ.out.1 HZ.out.2.1 k1.1 (by omega)).mono ?_;rintro v wb12 ⟨rfl,g1,g2⟩;have hN:z.num 4<16:=Nat.mod_lt _ (by decide);have HQ:=g1.set_told (4+z.num 4);have a28:=g1.own.2.2.1;have z28:=g1.frz 28;have k7:=g1.cell7.1;have z7:=g1.frz 7;obtain ⟨N,hNe⟩:∃ N,N=z.num 4:=⟨_,rfl⟩
  rw [← hNe] at R' hN HQ ⊢;have hbi:((4+N:Nat):Int)=4+(N:Int):=by omega
  have HU:Hid (MM ρ (wb12.setCell ⟨p,28,none⟩ (.int .i64 (4+N:Nat))) p { z.rd 4 with told:=4+N }∧Ok { z.rd 4 with told:=4+N }∧Fr (fun k=>1<=k∧k<=5) ρ w (wb12.setCell ⟨p,28,none⟩ (.int .i64 (4+N:Nat)))):=⟨HQ.1,{ HZ.out.2.1.rd k1.1 with },(HZ.out.2.2.1.trans g2).trans HQ.2⟩
  rw [hbi] at HU;clear g1 g2 HQ hNe hbi;by_cases hgt:11<N
  ·rw [if_pos hgt] at R';have hgi:(15:Int)<4+N:=by omega
   go_wp2_with fail
   refine (kv8 10 HU.out.1).mono ?_;rintro v wr12 ⟨rfl,g3,g4⟩;have HR2:Hid (ym0 ρ w p (({ z.rd 4 with told:=4+N }:MS).refuse 10).1 wr12):=ym0.of g3 (HU.out.2.2.trans g4).five_mine;clear g3 g4;go_wp2_with fail
   go_ret
   unfold xxu;rw [R'.out];exact ⟨rfl,HR2.out⟩
  ·rw [if_neg hgt] at R';have hgi:¬ (15:Int)<4+N:=by omega
   have HS:=HU.out.1.st 13;obtain ⟨y13,hy⟩:∃ y:MS,y={ z.rd 4 with told:=4+N,st:=13 }:=⟨_,rfl⟩
   have hWW:(wb12.setCell ⟨p,28,none⟩ (.int .i64 (4+(N:Int)))).setCell ⟨p,7,none⟩ (.int .i64 (13:Nat))=(wb12.setCell ⟨p,28,none⟩ (.int .i64 (4+(N:Int)))).setCell ⟨p,7,none⟩ (.int .i64 13):=rfl;have H13:Hid (Nw ρ w p y13 ((wb12.setCell ⟨p,28,none⟩ (.int .i64 (4+(N:Int)))).setCell ⟨p,7,none⟩ (.int .i64 13))):=by
    show Nw ρ w p y13 _;rw [hy];exact ⟨HS.1,HU.out.2.1.st 13,by show z.count - 4<=40;omega,HZ.out.2.2.2,HU.out.2.2.trans HS.2⟩
   obtain ⟨R,hR⟩:∃ R,R=MS.hlL (y13.told - y13.hl.length) y13:=⟨_,rfl⟩
   have HF:Hid (x.o12=R):=by show x.o12=R;rw [hR,R'.out,← hy];rfl
   have H0:Hid (∃ y,Lw ρ w p y R ((wb12.setCell ⟨p,28,none⟩ (.int .i64 (4+(N:Int)))).setCell ⟨p,7,none⟩ (.int .i64 13))):=⟨y13,⟨ρ,Ext.refl _ _,H13.out.mm⟩,H13.out.fr.five_mine,H13.out.ok,hR.symm,H13.out.cnt,by rw [hy];show 4+N<=15;omega,by rw [H13.out.hl];simp,by rw [H13.out.hl];intro b hb;cases hb⟩
   clear HS hWW hy hR R' HU HZ H13;go_wp2_with fail
   clear hgt a28 z28 k7 z7;go_loopw [] (fun wr=>Hid (∃ y,Lw ρ w p y R wr)) (fun wr=>15 - xda wr p)
   case atStart=>exact H0
   case round=>
    clear H0;obtain ⟨y,Y⟩:=hrel.out;obtain ⟨ρ',ex,mm⟩:=Y.ex;obtain ⟨ad,cap,c29,_⟩:=mm.hlA;have e29:=x45 c29;have c28:=mm.own.2.2.1;have htl:=Y.told;have hle:=Y.le;have hcn:=Y.cnt;have HY:Hid (Lw ρ w p y R wr∧MM ρ' wr p y∧Ext w.heap.size ρ ρ'):=⟨Y,mm,ex⟩
    clear Y hrel mm ex;by_cases hlt:y.hl.length<y.told
    ·obtain ⟨n,hn⟩:∃ n,y.told - y.hl.length=n+1:=⟨y.told - y.hl.length - 1,by omega⟩
     have HS:Hid (R=if (MS.need 3 y).2=0 then MS.hlL n { (MS.need 3 y).1.rd 3 with hl:=(MS.need 3 y).1.hl++[((MS.need 3 y).1.num 3:Int)] } else MS.need 3 y):=by show R=_;rw [← HY.out.1.eq,MS.hl_succ hn]
     have hlti:(y.hl.length:Int)<y.told:=by omega
     go_wp2_with fail
     go_quiet (fail)
     go_wp2_with fail
     refine (zvo 3 (HY.out.2.1.drewN _) HY.out.1.ok (by omega) (by omega)).mono ?_;rintro v w5 ⟨rfl,g1,g2⟩;by_cases h0:(MS.need 3 y).2=0
     ·have k1:=MS.need_cnt HY.out.1.ok h0;have k2:=MS.need_same HY.out.1.ok h0;have k3:=MS.need_ok (k:=3) HY.out.1.ok;rw [h0];rw [if_pos h0] at HS;obtain ⟨z,hzz⟩:∃ z,z=(MS.need 3 y).1:=⟨_,rfl⟩
      rw [← hzz] at g1 HS k1 k2 k3;have HZH:Hid (z.hl=y.hl):=by show z.hl=y.hl;rw [k2]
      have HZT:Hid (z.told=y.told):=by show z.told=y.told;rw [k2]
      have HZ:Hid (MM ρ' w5 p z∧Ok z∧Fr mine ρ w w5):=⟨g1,k3,(HY.out.1.fr.drewN _).ext g2.five_mine HY.out.2.2⟩
      clear g1 g2 hzz k2 k3 h0 c29 c28;have hbl:z.num 3<8:=Nat.mod_lt _ (by decide);obtain ⟨L5,B5,T5⟩:=HZ.out.1;have HRD:Hid (∀ n,Calls Tryz.prog 134 #[.pointer (some ⟨p,14,none⟩), .int .i64 (3:Nat)] (w5.drewN n) fun v w'=>v= .returned (.int .i64 (z.num 3))∧MB ρ' w' p (z.rd 3) L5∧MT ρ' w' (z.rd 3) L5∧Fr (fun k=>1<=k∧k<=5) ρ' (w5.drewN n) w'):=fun n=>jh0 3 (B5.drewN n) (T5.drewN n) HZ.out.2.1 k1.1 (by omega)
      obtain ⟨b,hb⟩:∃ b,b=z.num 3:=⟨_,rfl⟩
      rw [← hb] at HS HRD hbl;clear hb;have a29:w5.cell? ⟨p,29,none⟩=some L5.hv:=B5.row.cell (i:=29) (by omega);have hpo:L5.hv.ownBlock≠some p:=fun e=>by
       have a1:=T5.hl.2 p e;have a2:=B5.rp;omega
      obtain ⟨lv,hlv⟩:∃ lv,lv=L5.hv:=⟨_,rfl⟩
      have HLV:Hid (lv=L5.hv):=hlv;have HHV:Hid (∀ w',MT ρ' w' (z.rd 3) L5->w'.ownsRow 0 3 1 lv z.hl.length (k2f z.hl)):=fun w' t=>by rw [hlv];exact t.hl.1
      have hzl:z.hl.length<=15:=by rw [HZH.out];omega
      have hcz:=k1;rw [← hlv] at a29 hpo;clear B5 T5 hlv;obtain ⟨i3,hi3,hy0,hy1,hy2⟩:=info_parts ve2;go_wp2_with fail
      go_region_law
       ((first
        | (refine xc4 rfl 134 #[.pointer (some ⟨p,14,none⟩), .int .i64 (3:Nat)] (by kernel_rfl) (HRD.out 1) ?_;rintro e w2 ⟨rfl,B2,T2,g2⟩;refine ⟨_,rfl,?_⟩;have HB2:Hid (MB ρ' w2 p (z.rd 3) L5∧MT ρ' w2 (z.rd 3) L5∧Fr mine ρ w w2):=⟨B2,T2,(HZ.out.2.2.drewN 1).ext g2.five_mine HY.out.2.2⟩;have d29:w2.cell? ⟨p,29,none⟩=some lv:=by { rw [HLV.out];exact B2.row.cell (i:=29) (by omega) };have y29:=B2.row.frozen 29;have hown2:=HHV.out w2 T2;have hpl2:=B2.row.lt;clear B2 T2 g2)
        | (refine step_append_lies _ (by rfl) _ _ _ (by rfl) 0 3 i3 _ 1 8 Tryz.underlying69 hi3 hy0 hy1 hy2 rfl (by omega) lv z.hl.length (k2f z.hl) (by rfl) (hown2.alloc _) ⟨w2.heap.size,0,none⟩ 1 1 [.int .i64 b] (by rfl) (by rfl) (cell_one_new w2 _ _) (by simp [Value.oneCell']) (by omega) (by unfold maxLen;omega) (by omega) (Nat.zero_le _) (w2.heap.size+1) (by simp) ?_;intro g3 p3 w3 hown3 hgrow3 hat3 hlt3;have d29':=x7a (a:=⟨p,29,none⟩) hgrow3 hpl2 hpo d29;have y29':=jk1 (a:=⟨p,29,none⟩) hgrow3 hpl2 hpo y29)))
      all_goals
       have G:=kp4 (g:=g3) (cap:=p3) (a:=(b:Int)) HB2.out.1 HB2.out.2.1 hown3 (by rw [← HLV.out];exact hgrow3) (by rw [← HLV.out];exact hat3) hlt3;have HN:Hid (∃ y,Lw ρ w p y R (w3.setCell ⟨p,29,none⟩ (.slice (some ⟨g3,0,none⟩) (z.hl.length+1) p3))):=by
        refine ⟨{ z.rd 3 with hl:=z.hl++[(b:Int)] },⟨give ρ' g3 6,HY.out.2.2.trans G.2.1 HB2.out.2.2.kp.size,G.1⟩,HB2.out.2.2.ext G.2.2 HY.out.2.2,{ HZ.out.2.1.rd hcz.1 with },?_,?_,?_,?_,?_⟩
        ·have e:({ z.rd 3 with hl:=z.hl++[(b:Int)] }:MS).told - ({ z.rd 3 with hl:=z.hl++[(b:Int)] }:MS).hl.length=n:=by
          show z.told - (z.hl++[(b:Int)]).length=n;rw [HZT.out,HZH.out];simp;omega
         rw [e];exact HS.out.symm
        ·show z.count - 3<=40;omega
        ·show z.told<=15;rw [HZT.out];exact htl
        ·show (z.hl++[(b:Int)]).length<=z.told;rw [HZT.out,HZH.out];simp;omega
        ·intro q hq;have hq':q∈z.hl++[(b:Int)]:=hq;rcases List.mem_append.1 hq' with hq' | hq'
         ·rw [HZH.out] at hq';exact HY.out.1.hx q hq'
         ·simp at hq';omega
       have eN:xda (w3.setCell ⟨p,29,none⟩ (.slice (some ⟨g3,0,none⟩) (z.hl.length+1) p3)) p=z.hl.length+1:=by
        obtain ⟨ad',cap',c',_⟩:=G.1.hlA;exact (x45 c').trans (by show (z.hl++[(b:Int)]).length=_;simp)
       clear G hown3 hgrow3 hat3 hlt3;go_wp2_with fail
       go_roundw
       case rel=>exact HN
       case measure=>rw [e29,eN,HZH.out];omega
     ·rw [if_neg h0] at HS;obtain ⟨t,ht⟩:∃ t,t=(MS.need 3 y).2:=⟨_,rfl⟩
      have HR:Hid (ym0 ρ w p (MS.need 3 y).1 w5∧(MS.need 3 y).2=t):=⟨⟨⟨ρ',HY.out.2.2,g1⟩,(HY.out.1.fr.drewN _).ext g2.five_mine HY.out.2.2⟩,ht.symm⟩
      rw [← ht] at h0 ⊢;have h0':((t:Int)==0)=false:=by simp;exact h0
      clear g1 g2 ht;go_wp2_with fail
      go_ret
      unfold xxu;rw [HF.out,HS.out,HR.out.2];exact ⟨rfl,HR.out.1⟩
    ·have hlti:¬ (y.hl.length:Int)<y.told:=by omega
     have HS:Hid (R=if jwa gw (hset y.hl)=2048 then ({ y with hs:=hset y.hl,st:=14 },0) else y.refuse 10):=by show R=_;rw [← HY.out.1.eq,MS.hl_zero hlt];rfl
     have HMH:Hid (∀ n,Calls Tryz.prog 139 #[.pointer (some ⟨p,26,none⟩)] (wr.drewN n) fun v w'=>kee ρ' (wr.drewN n) p y v w'):=fun n=>kpx (HY.out.2.1.drewN n) (HOG.out.1.fr (HY.out.1.fr.drewN n) HOG.out.2) HY.out.1.hx (by omega)
     go_wp2_with fail
     go_quiet (fail)
     go_wp2_with fail
     refine (HMH.out _).mono ?_;rintro v w5 HE5;unfold kee at HE5;by_cases hS:jwa gw (hset y.hl)=2048
     ·rw [if_pos hS] at HE5 HS;obtain ⟨rfl,AF⟩:=HE5;have AW:=ym0.next HY.out.2.2 (HY.out.1.fr.drewN _) AF;obtain ⟨ρ'',ex2,mm2⟩:=AW.ex;have k7:=mm2.cell7.1;have z7:=mm2.cell7.2;have HA:Hid (ym0 ρ w p { y with hs:=hset y.hl,st:=14 } (w5.setCell ⟨p,7,none⟩ (.int .i64 14))):=⟨⟨ρ'',ex2,(mm2.st 14).1⟩,AW.fr.ext (mm2.st 14).2.five_mine ex2⟩
      clear AF AW ex2 mm2;go_wp2_with fail
      go_ret
      unfold xxu;rw [HF.out,HS.out];exact ⟨rfl,HA.out⟩
     ·rw [if_neg hS] at HE5 HS;obtain ⟨rfl,AF⟩:=HE5;have AW:=ym0.next HY.out.2.2 (HY.out.1.fr.drewN _) AF;obtain ⟨ρ'',ex2,mm2⟩:=AW.ex;have HA:Hid (MM ρ'' w5 p y∧Ext w.heap.size ρ ρ''∧Fr mine ρ w w5):=⟨mm2,ex2,AW.fr⟩
      clear AF AW ex2 mm2;go_wp2_with fail
      refine (kv8 10 HA.out.1).mono ?_;rintro v w6 ⟨rfl,g3,g4⟩;have HR2:Hid (ym0 ρ w p (y.refuse 10).1 w6):=⟨⟨ρ'',HA.out.2.1,g3⟩,HA.out.2.2.ext g4.five_mine HA.out.2.1⟩
      clear g3 g4;go_wp2_with fail
      go_ret
      unfold xxu;rw [HF.out,HS.out];exact ⟨rfl,HR2.out⟩
 ·rw [if_neg h0] at R';obtain ⟨t,ht⟩:∃ t,t=(MS.need 4 x).2:=⟨_,rfl⟩
  have HR:Hid (ym0 ρ w p (MS.need 4 x).1 wa12∧(MS.need 4 x).2=t):=⟨ym0.of g1 (H12.out.fr.trans g2).five_mine,ht.symm⟩
  rw [← ht] at h0 ⊢;have h0':((t:Int)==0)=false:=by simp;exact h0
  clear g1 g2 ht;go_wp2_with fail
  go_ret
  unfold xxu;rw [R'.out,HR.out.2];exact ⟨rfl,HR.out.1⟩
theorem v5j{ρ:Nat->Nat}{w:World}{p:Nat}{x:MS}(h:MM ρ w p x)(ok:Ok x)(hc:x.count<=40)(hO:OrdP w)(hG:ρ 0=0)(hl:x.hl=[])(hst:x.st=10) :
  Calls Tryz.prog 103 #[.pointer (some ⟨p,0,none⟩)] w fun v w'=>xxu ρ w p x.o10 v w':=by
 have H10:Hid (Nw ρ w p x w):=⟨h,ok,hc,hl,Fr.refl _ _ _⟩
 have HOG:Hid (OrdP w∧ρ 0=0):=⟨hO,hG⟩
 have c7:=h.cell7.1;rw [hst] at c7;clear h ok hst hc hO hG hl;go_enter Tryz.func103,Tryz.ntmps103
 go_wp2_with fail
 refine (zvo 4 H10.out.mm H10.out.ok (by omega) (by have:=H10.out.cnt;omega)).mono ?_;rintro v wa10 ⟨rfl,g1,g2⟩;have R':Hid (x.o10=if (MS.need 4 x).2=0 then (if 12<(MS.need 4 x).1.num 4 then ({ (MS.need 4 x).1.rd 4 with nl:=257+(MS.need 4 x).1.num 4 }:MS).refuse 10 else MS.o11 { (MS.need 4 x).1.rd 4 with nl:=257+(MS.need 4 x).1.num 4,st:=11 }) else MS.need 4 x):=rfl;by_cases h0:(MS.need 4 x).2=0
 ·have k1:=MS.need_cnt H10.out.ok h0;have k2:=MS.need_same H10.out.ok h0;have k3:=MS.need_ok (k:=4) H10.out.ok;have hcn:=H10.out.cnt;rw [h0];rw [if_pos h0] at R';obtain ⟨z,hz⟩:∃ z,z=(MS.need 4 x).1:=⟨_,rfl⟩
  rw [← hz] at g1 R' k1 k2 k3;have hzh:z.hl=[]:=by rw [k2];exact H10.out.hl
  have HZ:Hid (MM ρ wa10 p z∧Ok z∧Fr (fun k=>1<=k∧k<=5) ρ w wa10∧z.hl=[]):=⟨g1,k3,H10.out.fr.trans g2,hzh⟩
  clear g1 g2 hz k2 k3 h0 hzh;go_wp2_with fail
  refine (zw3 4 HZ.out.1 HZ.out.2.1 k1.1 (by omega)).mono ?_;rintro v wb10 ⟨rfl,g1,g2⟩;have hN:z.num 4<16:=Nat.mod_lt _ (by decide);have HQ:=g1.set_nl (257+z.num 4);have a26:=g1.own.1;have z26:=g1.frz 26;have k7:=g1.cell7.1;have z7:=g1.frz 7;obtain ⟨N,hNe⟩:∃ N,N=z.num 4:=⟨_,rfl⟩
  rw [← hNe] at R' hN HQ ⊢;have hbi:((257+N:Nat):Int)=257+(N:Int):=by omega
  have HU:Hid (MM ρ (wb10.setCell ⟨p,26,none⟩ (.int .i64 (257+N:Nat))) p { z.rd 4 with nl:=257+N }∧Ok { z.rd 4 with nl:=257+N }∧Fr (fun k=>1<=k∧k<=5) ρ w (wb10.setCell ⟨p,26,none⟩ (.int .i64 (257+N:Nat)))):=⟨HQ.1,{ HZ.out.2.1.rd k1.1 with },(HZ.out.2.2.1.trans g2).trans HQ.2⟩
  rw [hbi] at HU;clear g1 g2 HQ hNe hbi;by_cases hgt:12<N
  ·rw [if_pos hgt] at R';have hgi:(269:Int)<257+N:=by omega
   go_wp2_with fail
   refine (kv8 10 HU.out.1).mono ?_;rintro v wr10 ⟨rfl,g3,g4⟩;have HR2:Hid (ym0 ρ w p (({ z.rd 4 with nl:=257+N }:MS).refuse 10).1 wr10):=ym0.of g3 (HU.out.2.2.trans g4).five_mine;clear g3 g4;go_wp2_with fail
   go_ret
   unfold xxu;rw [R'.out];exact ⟨rfl,HR2.out⟩
  ·rw [if_neg hgt] at R';have hgi:¬ (269:Int)<257+N:=by omega
   have HS:=HU.out.1.st 11;obtain ⟨y11,hy⟩:∃ y:MS,y={ z.rd 4 with nl:=257+N,st:=11 }:=⟨_,rfl⟩
   have hWW:(wb10.setCell ⟨p,26,none⟩ (.int .i64 (257+(N:Int)))).setCell ⟨p,7,none⟩ (.int .i64 (11:Nat))=(wb10.setCell ⟨p,26,none⟩ (.int .i64 (257+(N:Int)))).setCell ⟨p,7,none⟩ (.int .i64 11):=rfl;have H11:Hid (Nw ρ w p y11 ((wb10.setCell ⟨p,26,none⟩ (.int .i64 (257+(N:Int)))).setCell ⟨p,7,none⟩ (.int .i64 11))):=by
    show Nw ρ w p y11 _;rw [hy];exact ⟨HS.1,HU.out.2.1.st 11,by show z.count - 4<=40;omega,HZ.out.2.2.2,HU.out.2.2.trans HS.2⟩
   have R11:Hid (x.o10=MS.o11 y11):=by show x.o10=_;rw [R'.out,← hy]
   clear HS hWW hy R' HU HZ;go_wp2_with fail
   clear hgt;clear a26 z26 k7 z7;refine (zvo 4 H11.out.mm H11.out.ok (by omega) (by have:=H11.out.cnt;omega)).mono ?_;rintro v wa11 ⟨rfl,g1,g2⟩;have R':Hid (x.o10=if (MS.need 4 y11).2=0 then MS.o12 { (MS.need 4 y11).1.rd 4 with nd:=1+(MS.need 4 y11).1.num 4,st:=12 } else MS.need 4 y11):=R11.out;clear R11;by_cases h0:(MS.need 4 y11).2=0
   ·have k1:=MS.need_cnt H11.out.ok h0;have k2:=MS.need_same H11.out.ok h0;have k3:=MS.need_ok (k:=4) H11.out.ok;have hcn:=H11.out.cnt;rw [h0];rw [if_pos h0] at R';obtain ⟨z,hz⟩:∃ z,z=(MS.need 4 y11).1:=⟨_,rfl⟩
    rw [← hz] at g1 R' k1 k2 k3;have hzh:z.hl=[]:=by rw [k2];exact H11.out.hl
    have HZ:Hid (MM ρ wa11 p z∧Ok z∧Fr (fun k=>1<=k∧k<=5) ρ w wa11∧z.hl=[]):=⟨g1,k3,H11.out.fr.trans g2,hzh⟩
    clear g1 g2 hz k2 k3 h0 hzh;go_wp2_with fail
    refine (zw3 4 HZ.out.1 HZ.out.2.1 k1.1 (by omega)).mono ?_;rintro v wb11 ⟨rfl,g1,g2⟩;have hN:z.num 4<16:=Nat.mod_lt _ (by decide);have HQ:=g1.set_nd (1+z.num 4);have a27:=g1.own.2.1;have z27:=g1.frz 27;have k7:=g1.cell7.1;have z7:=g1.frz 7;obtain ⟨N,hNe⟩:∃ N,N=z.num 4:=⟨_,rfl⟩
    rw [← hNe] at R' hN HQ ⊢;have hbi:((1+N:Nat):Int)=1+(N:Int):=by omega
    have HU:Hid (MM ρ (wb11.setCell ⟨p,27,none⟩ (.int .i64 (1+N:Nat))) p { z.rd 4 with nd:=1+N }∧Ok { z.rd 4 with nd:=1+N }∧Fr (fun k=>1<=k∧k<=5) ρ w (wb11.setCell ⟨p,27,none⟩ (.int .i64 (1+N:Nat)))):=⟨HQ.1,{ HZ.out.2.1.rd k1.1 with },(HZ.out.2.2.1.trans g2).trans HQ.2⟩
    rw [hbi] at HU;clear g1 g2 HQ hNe hbi;have HS:=HU.out.1.st 12;obtain ⟨y12,hy⟩:∃ y:MS,y={ z.rd 4 with nd:=1+N,st:=12 }:=⟨_,rfl⟩
    have hWW:(wb11.setCell ⟨p,27,none⟩ (.int .i64 (1+(N:Int)))).setCell ⟨p,7,none⟩ (.int .i64 (12:Nat))=(wb11.setCell ⟨p,27,none⟩ (.int .i64 (1+(N:Int)))).setCell ⟨p,7,none⟩ (.int .i64 12):=rfl;have H12:Hid (Nw ρ w p y12 ((wb11.setCell ⟨p,27,none⟩ (.int .i64 (1+(N:Int)))).setCell ⟨p,7,none⟩ (.int .i64 12))):=by
     show Nw ρ w p y12 _;rw [hy];exact ⟨HS.1,HU.out.2.1.st 12,by show z.count - 4<=40;omega,HZ.out.2.2.2,HU.out.2.2.trans HS.2⟩
    have R12:Hid (x.o10=MS.o12 y12):=by show x.o10=_;rw [R'.out,← hy]
    clear HS hWW hy R' HU HZ;go_wp2_with fail
    clear a27 z27 k7 z7;refine (zvo 4 H12.out.mm H12.out.ok (by omega) (by have:=H12.out.cnt;omega)).mono ?_;rintro v wa12 ⟨rfl,g1,g2⟩;have R':Hid (x.o10=if (MS.need 4 y12).2=0 then (if 11<(MS.need 4 y12).1.num 4 then ({ (MS.need 4 y12).1.rd 4 with told:=4+(MS.need 4 y12).1.num 4 }:MS).refuse 10 else MS.o13 { (MS.need 4 y12).1.rd 4 with told:=4+(MS.need 4 y12).1.num 4,st:=13 }) else MS.need 4 y12):=R12.out;clear R12;by_cases h0:(MS.need 4 y12).2=0
    ·have k1:=MS.need_cnt H12.out.ok h0;have k2:=MS.need_same H12.out.ok h0;have k3:=MS.need_ok (k:=4) H12.out.ok;have hcn:=H12.out.cnt;rw [h0];rw [if_pos h0] at R';obtain ⟨z,hz⟩:∃ z,z=(MS.need 4 y12).1:=⟨_,rfl⟩
     rw [← hz] at g1 R' k1 k2 k3;have hzh:z.hl=[]:=by rw [k2];exact H12.out.hl
     have HZ:Hid (MM ρ wa12 p z∧Ok z∧Fr (fun k=>1<=k∧k<=5) ρ w wa12∧z.hl=[]):=⟨g1,k3,H12.out.fr.trans g2,hzh⟩
     clear g1 g2 hz k2 k3 h0 hzh;go_wp2_with fail
     refine (zw3 4 HZ.out.1 HZ.out.2.1 k1.1 (by omega)).mono ?_;rintro v wb12 ⟨rfl,g1,g2⟩;have hN:z.num 4<16:=Nat.mod_lt _ (by decide);have HQ:=g1.set_told (4+z.num 4);have a28:=g1.own.2.2.1;have z28:=g1.frz 28;have k7:=g1.cell7.1;have z7:=g1.frz 7;obtain ⟨N,hNe⟩:∃ N,N=z.num 4:=⟨_,rfl⟩
     rw [← hNe] at R' hN HQ ⊢;have hbi:((4+N:Nat):Int)=4+(N:Int):=by omega
     have HU:Hid (MM ρ (wb12.setCell ⟨p,28,none⟩ (.int .i64 (4+N:Nat))) p { z.rd 4 with told:=4+N }∧Ok { z.rd 4 with told:=4+N }∧Fr (fun k=>1<=k∧k<=5) ρ w (wb12.setCell ⟨p,28,none⟩ (.int .i64 (4+N:Nat)))):=⟨HQ.1,{ HZ.out.2.1.rd k1.1 with },(HZ.out.2.2.1.trans g2).trans HQ.2⟩
     rw [hbi] at HU;clear g1 g2 HQ hNe hbi;by_cases hgt:11<N
     ·rw [if_pos hgt] at R';have hgi:(15:Int)<4+N:=by omega
      go_wp2_with fail
      refine (kv8 10 HU.out.1).mono ?_;rintro v wr12 ⟨rfl,g3,g4⟩;have HR2:Hid (ym0 ρ w p (({ z.rd 4 with told:=4+N }:MS).refuse 10).1 wr12):=ym0.of g3 (HU.out.2.2.trans g4).five_mine;clear g3 g4;go_wp2_with fail
      go_ret
      unfold xxu;rw [R'.out];exact ⟨rfl,HR2.out⟩
     ·rw [if_neg hgt] at R';have hgi:¬ (15:Int)<4+N:=by omega
      have HS:=HU.out.1.st 13;obtain ⟨y13,hy⟩:∃ y:MS,y={ z.rd 4 with told:=4+N,st:=13 }:=⟨_,rfl⟩
      have hWW:(wb12.setCell ⟨p,28,none⟩ (.int .i64 (4+(N:Int)))).setCell ⟨p,7,none⟩ (.int .i64 (13:Nat))=(wb12.setCell ⟨p,28,none⟩ (.int .i64 (4+(N:Int)))).setCell ⟨p,7,none⟩ (.int .i64 13):=rfl;have H13:Hid (Nw ρ w p y13 ((wb12.setCell ⟨p,28,none⟩ (.int .i64 (4+(N:Int)))).setCell ⟨p,7,none⟩ (.int .i64 13))):=by
       show Nw ρ w p y13 _;rw [hy];exact ⟨HS.1,HU.out.2.1.st 13,by show z.count - 4<=40;omega,HZ.out.2.2.2,HU.out.2.2.trans HS.2⟩
      obtain ⟨R,hR⟩:∃ R,R=MS.hlL (y13.told - y13.hl.length) y13:=⟨_,rfl⟩
      have HF:Hid (x.o10=R):=by show x.o10=R;rw [hR,R'.out,← hy];rfl
      have H0:Hid (∃ y,Lw ρ w p y R ((wb12.setCell ⟨p,28,none⟩ (.int .i64 (4+(N:Int)))).setCell ⟨p,7,none⟩ (.int .i64 13))):=⟨y13,⟨ρ,Ext.refl _ _,H13.out.mm⟩,H13.out.fr.five_mine,H13.out.ok,hR.symm,H13.out.cnt,by rw [hy];show 4+N<=15;omega,by rw [H13.out.hl];simp,by rw [H13.out.hl];intro b hb;cases hb⟩
      clear HS hWW hy hR R' HU HZ H13;go_wp2_with fail
      clear hgt a28 z28 k7 z7;go_loopw [] (fun wr=>Hid (∃ y,Lw ρ w p y R wr)) (fun wr=>15 - xda wr p)
      case atStart=>exact H0
      case round=>
       clear H0;obtain ⟨y,Y⟩:=hrel.out;obtain ⟨ρ',ex,mm⟩:=Y.ex;obtain ⟨ad,cap,c29,_⟩:=mm.hlA;have e29:=x45 c29;have c28:=mm.own.2.2.1;have htl:=Y.told;have hle:=Y.le;have hcn:=Y.cnt;have HY:Hid (Lw ρ w p y R wr∧MM ρ' wr p y∧Ext w.heap.size ρ ρ'):=⟨Y,mm,ex⟩
       clear Y hrel mm ex;by_cases hlt:y.hl.length<y.told
       ·obtain ⟨n,hn⟩:∃ n,y.told - y.hl.length=n+1:=⟨y.told - y.hl.length - 1,by omega⟩
        have HS:Hid (R=if (MS.need 3 y).2=0 then MS.hlL n { (MS.need 3 y).1.rd 3 with hl:=(MS.need 3 y).1.hl++[((MS.need 3 y).1.num 3:Int)] } else MS.need 3 y):=by show R=_;rw [← HY.out.1.eq,MS.hl_succ hn]
        have hlti:(y.hl.length:Int)<y.told:=by omega
        go_wp2_with fail
        go_quiet (fail)
        go_wp2_with fail
        refine (zvo 3 (HY.out.2.1.drewN _) HY.out.1.ok (by omega) (by omega)).mono ?_;rintro v w5 ⟨rfl,g1,g2⟩;by_cases h0:(MS.need 3 y).2=0
        ·have k1:=MS.need_cnt HY.out.1.ok h0;have k2:=MS.need_same HY.out.1.ok h0;have k3:=MS.need_ok (k:=3) HY.out.1.ok;rw [h0];rw [if_pos h0] at HS;obtain ⟨z,hzz⟩:∃ z,z=(MS.need 3 y).1:=⟨_,rfl⟩
         rw [← hzz] at g1 HS k1 k2 k3;have HZH:Hid (z.hl=y.hl):=by show z.hl=y.hl;rw [k2]
         have HZT:Hid (z.told=y.told):=by show z.told=y.told;rw [k2]
         have HZ:Hid (MM ρ' w5 p z∧Ok z∧Fr mine ρ w w5):=⟨g1,k3,(HY.out.1.fr.drewN _).ext g2.five_mine HY.out.2.2⟩
         clear g1 g2 hzz k2 k3 h0 c29 c28;have hbl:z.num 3<8:=Nat.mod_lt _ (by decide);obtain ⟨L5,B5,T5⟩:=HZ.out.1;have HRD:Hid (∀ n,Calls Tryz.prog 134 #[.pointer (some ⟨p,14,none⟩), .int .i64 (3:Nat)] (w5.drewN n) fun v w'=>v= .returned (.int .i64 (z.num 3))∧MB ρ' w' p (z.rd 3) L5∧MT ρ' w' (z.rd 3) L5∧Fr (fun k=>1<=k∧k<=5) ρ' (w5.drewN n) w'):=fun n=>jh0 3 (B5.drewN n) (T5.drewN n) HZ.out.2.1 k1.1 (by omega)
         obtain ⟨b,hb⟩:∃ b,b=z.num 3:=⟨_,rfl⟩
         rw [← hb] at HS HRD hbl;clear hb;have a29:w5.cell? ⟨p,29,none⟩=some L5.hv:=B5.row.cell (i:=29) (by omega);have hpo:L5.hv.ownBlock≠some p:=fun e=>by
          have a1:=T5.hl.2 p e;have a2:=B5.rp;omega
         obtain ⟨lv,hlv⟩:∃ lv,lv=L5.hv:=⟨_,rfl⟩
         have HLV:Hid (lv=L5.hv):=hlv;have HHV:Hid (∀ w',MT ρ' w' (z.rd 3) L5->w'.ownsRow 0 3 1 lv z.hl.length (k2f z.hl)):=fun w' t=>by rw [hlv];exact t.hl.1
         have hzl:z.hl.length<=15:=by rw [HZH.out];omega
         have hcz:=k1;rw [← hlv] at a29 hpo;clear B5 T5 hlv;obtain ⟨i3,hi3,hy0,hy1,hy2⟩:=info_parts ve2;go_wp2_with fail
         go_region_law
          ((first
           | (refine xc4 rfl 134 #[.pointer (some ⟨p,14,none⟩), .int .i64 (3:Nat)] (by kernel_rfl) (HRD.out 1) ?_;rintro e w2 ⟨rfl,B2,T2,g2⟩;refine ⟨_,rfl,?_⟩;have HB2:Hid (MB ρ' w2 p (z.rd 3) L5∧MT ρ' w2 (z.rd 3) L5∧Fr mine ρ w w2):=⟨B2,T2,(HZ.out.2.2.drewN 1).ext g2.five_mine HY.out.2.2⟩;have d29:w2.cell? ⟨p,29,none⟩=some lv:=by { rw [HLV.out];exact B2.row.cell (i:=29) (by omega) };have y29:=B2.row.frozen 29;have hown2:=HHV.out w2 T2;have hpl2:=B2.row.lt;clear B2 T2 g2)
           | (refine step_append_lies _ (by rfl) _ _ _ (by rfl) 0 3 i3 _ 1 8 Tryz.underlying69 hi3 hy0 hy1 hy2 rfl (by omega) lv z.hl.length (k2f z.hl) (by rfl) (hown2.alloc _) ⟨w2.heap.size,0,none⟩ 1 1 [.int .i64 b] (by rfl) (by rfl) (cell_one_new w2 _ _) (by simp [Value.oneCell']) (by omega) (by unfold maxLen;omega) (by omega) (Nat.zero_le _) (w2.heap.size+1) (by simp) ?_;intro g3 p3 w3 hown3 hgrow3 hat3 hlt3;have d29':=x7a (a:=⟨p,29,none⟩) hgrow3 hpl2 hpo d29;have y29':=jk1 (a:=⟨p,29,none⟩) hgrow3 hpl2 hpo y29)))
         all_goals
          have G:=kp4 (g:=g3) (cap:=p3) (a:=(b:Int)) HB2.out.1 HB2.out.2.1 hown3 (by rw [← HLV.out];exact hgrow3) (by rw [← HLV.out];exact hat3) hlt3;have HN:Hid (∃ y,Lw ρ w p y R (w3.setCell ⟨p,29,none⟩ (.slice (some ⟨g3,0,none⟩) (z.hl.length+1) p3))):=by
           refine ⟨{ z.rd 3 with hl:=z.hl++[(b:Int)] },⟨give ρ' g3 6,HY.out.2.2.trans G.2.1 HB2.out.2.2.kp.size,G.1⟩,HB2.out.2.2.ext G.2.2 HY.out.2.2,{ HZ.out.2.1.rd hcz.1 with },?_,?_,?_,?_,?_⟩
           ·have e:({ z.rd 3 with hl:=z.hl++[(b:Int)] }:MS).told - ({ z.rd 3 with hl:=z.hl++[(b:Int)] }:MS).hl.length=n:=by
             show z.told - (z.hl++[(b:Int)]).length=n;rw [HZT.out,HZH.out];simp;omega
            rw [e];exact HS.out.symm
           ·show z.count - 3<=40;omega
           ·show z.told<=15;rw [HZT.out];exact htl
           ·show (z.hl++[(b:Int)]).length<=z.told;rw [HZT.out,HZH.out];simp;omega
           ·intro q hq;have hq':q∈z.hl++[(b:Int)]:=hq;rcases List.mem_append.1 hq' with hq' | hq'
            ·rw [HZH.out] at hq';exact HY.out.1.hx q hq'
            ·simp at hq';omega
          have eN:xda (w3.setCell ⟨p,29,none⟩ (.slice (some ⟨g3,0,none⟩) (z.hl.length+1) p3)) p=z.hl.length+1:=by
           obtain ⟨ad',cap',c',_⟩:=G.1.hlA;exact (x45 c').trans (by show (z.hl++[(b:Int)]).length=_;simp)
          clear G hown3 hgrow3 hat3 hlt3;go_wp2_with fail
          go_roundw
          case rel=>exact HN
          case measure=>rw [e29,eN,HZH.out];omega
        ·rw [if_neg h0] at HS;obtain ⟨t,ht⟩:∃ t,t=(MS.need 3 y).2:=⟨_,rfl⟩
         have HR:Hid (ym0 ρ w p (MS.need 3 y).1 w5∧(MS.need 3 y).2=t):=⟨⟨⟨ρ',HY.out.2.2,g1⟩,(HY.out.1.fr.drewN _).ext g2.five_mine HY.out.2.2⟩,ht.symm⟩
         rw [← ht] at h0 ⊢;have h0':((t:Int)==0)=false:=by simp;exact h0
         clear g1 g2 ht;go_wp2_with fail
         go_ret
         unfold xxu;rw [HF.out,HS.out,HR.out.2];exact ⟨rfl,HR.out.1⟩
       ·have hlti:¬ (y.hl.length:Int)<y.told:=by omega
        have HS:Hid (R=if jwa gw (hset y.hl)=2048 then ({ y with hs:=hset y.hl,st:=14 },0) else y.refuse 10):=by show R=_;rw [← HY.out.1.eq,MS.hl_zero hlt];rfl
        have HMH:Hid (∀ n,Calls Tryz.prog 139 #[.pointer (some ⟨p,26,none⟩)] (wr.drewN n) fun v w'=>kee ρ' (wr.drewN n) p y v w'):=fun n=>kpx (HY.out.2.1.drewN n) (HOG.out.1.fr (HY.out.1.fr.drewN n) HOG.out.2) HY.out.1.hx (by omega)
        go_wp2_with fail
        go_quiet (fail)
        go_wp2_with fail
        refine (HMH.out _).mono ?_;rintro v w5 HE5;unfold kee at HE5;by_cases hS:jwa gw (hset y.hl)=2048
        ·rw [if_pos hS] at HE5 HS;obtain ⟨rfl,AF⟩:=HE5;have AW:=ym0.next HY.out.2.2 (HY.out.1.fr.drewN _) AF;obtain ⟨ρ'',ex2,mm2⟩:=AW.ex;have k7:=mm2.cell7.1;have z7:=mm2.cell7.2;have HA:Hid (ym0 ρ w p { y with hs:=hset y.hl,st:=14 } (w5.setCell ⟨p,7,none⟩ (.int .i64 14))):=⟨⟨ρ'',ex2,(mm2.st 14).1⟩,AW.fr.ext (mm2.st 14).2.five_mine ex2⟩
         clear AF AW ex2 mm2;go_wp2_with fail
         go_ret
         unfold xxu;rw [HF.out,HS.out];exact ⟨rfl,HA.out⟩
        ·rw [if_neg hS] at HE5 HS;obtain ⟨rfl,AF⟩:=HE5;have AW:=ym0.next HY.out.2.2 (HY.out.1.fr.drewN _) AF;obtain ⟨ρ'',ex2,mm2⟩:=AW.ex;have HA:Hid (MM ρ'' w5 p y∧Ext w.heap.size ρ ρ''∧Fr mine ρ w w5):=⟨mm2,ex2,AW.fr⟩
         clear AF AW ex2 mm2;go_wp2_with fail
         refine (kv8 10 HA.out.1).mono ?_;rintro v w6 ⟨rfl,g3,g4⟩;have HR2:Hid (ym0 ρ w p (y.refuse 10).1 w6):=⟨⟨ρ'',HA.out.2.1,g3⟩,HA.out.2.2.ext g4.five_mine HA.out.2.1⟩
         clear g3 g4;go_wp2_with fail
         go_ret
         unfold xxu;rw [HF.out,HS.out];exact ⟨rfl,HR2.out⟩
    ·rw [if_neg h0] at R';obtain ⟨t,ht⟩:∃ t,t=(MS.need 4 y12).2:=⟨_,rfl⟩
     have HR:Hid (ym0 ρ w p (MS.need 4 y12).1 wa12∧(MS.need 4 y12).2=t):=⟨ym0.of g1 (H12.out.fr.trans g2).five_mine,ht.symm⟩
     rw [← ht] at h0 ⊢;have h0':((t:Int)==0)=false:=by simp;exact h0
     clear g1 g2 ht;go_wp2_with fail
     go_ret
     unfold xxu;rw [R'.out,HR.out.2];exact ⟨rfl,HR.out.1⟩
   ·rw [if_neg h0] at R';obtain ⟨t,ht⟩:∃ t,t=(MS.need 4 y11).2:=⟨_,rfl⟩
    have HR:Hid (ym0 ρ w p (MS.need 4 y11).1 wa11∧(MS.need 4 y11).2=t):=⟨ym0.of g1 (H11.out.fr.trans g2).five_mine,ht.symm⟩
    rw [← ht] at h0 ⊢;have h0':((t:Int)==0)=false:=by simp;exact h0
    clear g1 g2 ht;go_wp2_with fail
    go_ret
    unfold xxu;rw [R'.out,HR.out.2];exact ⟨rfl,HR.out.1⟩
 ·rw [if_neg h0] at R';obtain ⟨t,ht⟩:∃ t,t=(MS.need 4 x).2:=⟨_,rfl⟩
  have HR:Hid (ym0 ρ w p (MS.need 4 x).1 wa10∧(MS.need 4 x).2=t):=⟨ym0.of g1 (H10.out.fr.trans g2).five_mine,ht.symm⟩
  rw [← ht] at h0 ⊢;have h0':((t:Int)==0)=false:=by simp;exact h0
  clear g1 g2 ht;go_wp2_with fail
  go_ret
  unfold xxu;rw [R'.out,HR.out.2];exact ⟨rfl,HR.out.1⟩
end Go.Proofs.YtbcjmakpempkiaaGreatDoor
