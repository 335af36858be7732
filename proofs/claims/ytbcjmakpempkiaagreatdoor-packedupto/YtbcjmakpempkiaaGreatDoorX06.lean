import Derived.Laws.BitsAllLaws
import Derived.Test.YtbcjmakpempkiaaGreatDoorX05
set_option maxRecDepth 100000
set_option maxHeartbeats 8000000
set_option linter.all false
namespace Go.Proofs.YtbcjmakpempkiaaGreatDoor
open Go.RowKit
theorem MS.need_done{k:Nat}{x:MS}(h:k<=x.count):MS.need k x=(x,0):=by
 unfold MS.need;cases x.rest with
 | nil=>unfold MS.needL;rw [if_pos h]
 | cons b l=>unfold MS.needL;rw [if_pos h]
theorem MS.take_nil{x:MS}(e:x.rest=[]):x.take=(x,1):=by unfold MS.take;rw [e];rfl
theorem MS.take_cons{x:MS}{b:Nat}{l:List Nat}(e:x.rest=b :: l):x.take=if x.sp<=x.tk+x.pu then x.refuse 16 else (x.fed b l,0):=by unfold MS.take;rw [e];rfl
theorem MS.need_nil{k:Nat}{x:MS}(h:¬ k<=x.count)(e:x.rest=[]):MS.need k x=(x,1):=by
 unfold MS.need;rw [e];show (if k<=x.count then _ else _)=_;rw [if_neg h]
theorem MS.need_cons{k:Nat}{x:MS}{b:Nat}{l:List Nat}(h:¬ k<=x.count)(e:x.rest=b :: l):MS.need k x=if x.sp<=x.tk+x.pu then x.refuse 16 else MS.need k (x.fed b l):=by
 unfold MS.need;rw [e];show (if k<=x.count then _ else _)=_;rw [if_neg h];rfl
theorem MS.need_take{k:Nat}{x:MS}(h:¬ k<=x.count):MS.need k x=if x.take.2=0 then MS.need k x.take.1 else x.take:=by
 cases e:x.rest with
 | nil=>rw [MS.take_nil e,MS.need_nil h e];rfl
 | cons b l=>
  rw [MS.take_cons e,MS.need_cons h e];by_cases hs:x.sp<=x.tk+x.pu
  ·rw [if_pos hs,if_pos hs];rfl
  ·rw [if_neg hs,if_neg hs];rfl
theorem Ok.take{x:MS}(h:Ok x)(h0:x.take.2=0):Ok x.take.1∧x.take.1.count=x.count+8:=by
 cases e:x.rest with
 | nil=>rw [MS.take_nil e] at h0;cases h0
 | cons b l=>
  rw [MS.take_cons e] at h0 ⊢;by_cases hs:x.sp<=x.tk+x.pu
  ·rw [if_pos hs] at h0;cases h0
  ·rw [if_neg hs];exact ⟨h.fed e hs,rfl⟩
def xq0(w:World)(p i:Nat):Nat:=match w.cell? ⟨p,i,none⟩ with | some (.int _ n)=>n.toNat | _=>0
theorem xv1{w:World}{p i:Nat}{k:IntKind}{n:Nat}(h:w.cell? ⟨p,i,none⟩=some (.int k n)):xq0 w p i=n:=by unfold xq0;rw [h];rfl
theorem MM.cell15{ρ:Nat->Nat}{w:World}{p:Nat}{x:MS}(h:MM ρ w p x):w.cell? ⟨p,15,none⟩=some (.int .i64 x.count):=by
 obtain ⟨L,B,T⟩:=h;exact B.row.cell (i:=15) (by omega)
theorem zvo{ρ:Nat->Nat}{w:World}{p:Nat}{x:MS}(k:Nat)(h:MM ρ w p x)(ok:Ok x)(hk:k<=56)(hx:x.count<=100) :
  Calls Tryz.prog 133 #[.pointer (some ⟨p,0,none⟩), .int .i64 k] w fun v w'=>y0y ρ w p (MS.need k x) v w':=by
 have H0:Hid (∃ y,MM ρ w p y∧Ok y∧MS.need k y=MS.need k x∧Fr (fun k=>1<=k∧k<=5) ρ w w∧y.count<=100):=⟨x,h,ok,rfl,Fr.refl _ _ _,hx⟩
 clear h ok hx;go_enter Tryz.func133,Tryz.ntmps133
 go_wp2_with fail
 go_loopw [] (fun wr=>Hid (∃ y,MM ρ wr p y∧Ok y∧MS.need k y=MS.need k x∧Fr (fun k=>1<=k∧k<=5) ρ w wr∧y.count<=100)) (fun wr=>k - xq0 wr p 15)
 case atStart=>exact H0
 case round=>
  clear H0;obtain ⟨y,h1,h2,h3,h4,hy⟩:=hrel.out;have c15:=h1.cell15;have e15:=xv1 c15;by_cases hlt:y.count<k
  ·have h5:MS.need k x=if y.take.2=0 then MS.need k y.take.1 else y.take:=by rw [← h3];exact MS.need_take (by omega)
   have HM:Hid (MM ρ wr p y∧Ok y∧Fr (fun k=>1<=k∧k<=5) ρ w wr):=⟨h1,h2,h4⟩
   have H5:Hid (MS.need k x=if y.take.2=0 then MS.need k y.take.1 else y.take):=h5;clear h1 h2 h3 h4 h5 hrel;go_wp2_with fail
   refine (x2n HM.out.1 HM.out.2.1 (by omega)).mono ?_;rintro v w1 ⟨rfl,g1,g2⟩;by_cases h0:y.take.2=0
   ·obtain ⟨o1,o2⟩:=HM.out.2.1.take h0;have HN:Hid (∃ y,MM ρ w1 p y∧Ok y∧MS.need k y=MS.need k x∧Fr (fun k=>1<=k∧k<=5) ρ w w1∧y.count<=100):=⟨y.take.1,g1,o1,by rw [H5.out,if_pos h0],HM.out.2.2.trans g2,by omega⟩
    have e2:=xv1 g1.cell15;rw [h0];clear g1 g2 o1;go_wp2_with fail
    go_roundw
    case rel=>exact HN
    case measure=>rw [e2,e15,o2];omega
   ·have HN:Hid (MM ρ w1 p (MS.need k x).1∧Fr (fun k=>1<=k∧k<=5) ρ w w1∧(MS.need k x).2=y.take.2):=by
     show _∧_∧_;rw [H5.out,if_neg h0];exact ⟨g1,HM.out.2.2.trans g2,rfl⟩
    obtain ⟨t,ht⟩:∃ t,t=y.take.2:=⟨_,rfl⟩
    rw [← ht] at HN h0 ⊢;have h0':((t:Int)==0)=false:=by simp;exact h0
    clear g1 g2 ht;go_wp2_with fail
    go_ret
    unfold y0y;rw [HN.out.2.2];exact ⟨rfl,HN.out.1,HN.out.2.1⟩
  ·have h5:MS.need k x=(y,0):=by rw [← h3];exact MS.need_done (by omega)
   have HM:Hid (MM ρ wr p y∧Fr (fun k=>1<=k∧k<=5) ρ w wr∧MS.need k x=(y,0)):=⟨h1,h4,h5⟩
   clear h1 h2 h3 h4 h5 hrel;go_wp2_with fail
   go_ret
   unfold y0y;rw [HM.out.2.2];exact ⟨rfl,HM.out.1,HM.out.2.1⟩
theorem MB.ra'{ρ:Nat->Nat}{w:World}{p:Nat}{x:MS}{L:Lo}(h:MB ρ w p x L):x.qa.length<=64:=by
 obtain ⟨o,f,k⟩:=h.ra;exact k.hq
theorem MB.rc'{ρ:Nat->Nat}{w:World}{p:Nat}{x:MS}{L:Lo}(h:MB ρ w p x L):x.qc.length<=256:=by
 obtain ⟨o,f,k⟩:=h.rc;exact k.hq
theorem vt9{ρ:Nat->Nat}{w:World}{p:Nat}{x:MS}{L:Lo}(b:Nat)(B:MB ρ w p x L)(hq:x.qa.length<64) :
  Calls Tryz.prog 167 #[.pointer (some ⟨L.a,0,none⟩), .int .u8 b] w fun v w'=>v= .returned (.tuple #[])∧MB ρ w' p { x with qa:=x.qa++[b] } L∧Fr (fun k=>1<=k∧k<=5) ρ w w':=by
 obtain ⟨o,f,k⟩:=B.ra;refine (yiw b k hq).mono ?_;rintro v w' ⟨rfl,⟨f',k'⟩,t⟩;exact ⟨rfl,B.ringA k' t,Fr.five t B.rl.1 B.rl.2.1 (by decide) (by decide)⟩
theorem v55{ρ:Nat->Nat}{w:World}{p:Nat}{x:MS}{L:Lo}(b:Nat)(B:MB ρ w p x L) :
  Calls Tryz.prog 167 #[.pointer (some ⟨L.c,0,none⟩), .int .u8 b] w fun v w'=>v= .returned (.tuple #[])∧MB ρ w' p { x with qc:=MS.pushed x.qc b } L∧Fr (fun k=>1<=k∧k<=5) ρ w w':=by
 obtain ⟨o,f,k⟩:=B.rc;by_cases hq:x.qc.length=256
 ·refine (vxn b k hq).mono ?_;rintro v w' ⟨rfl,⟨f',k'⟩,t⟩;have e:MS.pushed x.qc b=x.qc.tail++[b]:=if_pos hq;rw [e];exact ⟨rfl,B.ringC k' t,Fr.five t B.rl.2.2.1 B.rl.2.2.2 (by decide) (by decide)⟩
 ·refine (yiw b k (by have:=k.hq;omega)).mono ?_;rintro v w' ⟨rfl,⟨f',k'⟩,t⟩;have e:MS.pushed x.qc b=x.qc++[b]:=if_neg hq;rw [e];exact ⟨rfl,B.ringC k' t,Fr.five t B.rl.2.2.1 B.rl.2.2.2 (by decide) (by decide)⟩
theorem sumM{ρ:Nat->Nat}{w:World}{p:Nat}{x:MS}{L:Lo}(b:Nat)(B:MB ρ w p x L)(hs:x.sx<=65520∧x.sy<=65520)(hb:b<256) :
  Calls Tryz.prog 111 #[.pointer (some ⟨p,21,none⟩), .int .u8 b] w fun v w'=>v= .returned (.tuple #[])∧MB ρ w' p { x with sx:=(x.sx+b)%65521,sy:=(x.sy+(x.sx+b)%65521)%65521 } L∧Fr (fun k=>1<=k∧k<=5) ρ w w':=by
 have c1:w.cell? ⟨p,21,none⟩=some (.int .i64 x.sx):=B.row.cell (i:=21) (by omega);have c2:w.cell? ⟨p,21+1,none⟩=some (.int .i64 x.sy):=B.row.cell (i:=22) (by omega);refine (kd6 p 21 x.sx x.sy b w (by omega) (by omega) (by omega) c1 c2 (B.row.frozen 21) (B.row.frozen 22)).mono ?_;rintro v w' ⟨rfl,n,e⟩;have e1:((x.sx:Int)+b)%65521=(((x.sx+b)%65521:Nat):Int):=by omega
 have e2:((x.sy:Int)+(((x.sx+b)%65521:Nat):Int))%65521=(((x.sy+(x.sx+b)%65521)%65521:Nat):Int):=by omega
 rw [e1,e2] at e;rw [e];exact ⟨rfl,((B.drewN n).set (y:={ x with sx:=(x.sx+b)%65521 }) (M:=L) 21 _ rfl ⟨rfl,rfl,rfl,rfl⟩ ⟨rfl,rfl⟩).set 22 _ rfl ⟨rfl,rfl,rfl,rfl⟩ ⟨rfl,rfl⟩,(((Fr.refl _ _ _).drewN n).trans (Fr.own _ p 21 _ B.rp)).trans (Fr.own _ p 22 _ B.rp)⟩
theorem j6n(n:Nat):IntKind.u16.wrap ((n:Int)+1)=(((n+1)%65536:Nat):Int):=by
 simp [IntKind.wrap,IntKind.bits,IntKind.signed]
structure Bh(ρ:Nat->Nat)(w:World)(p:Nat)(y x:MS)(L:Lo)(w':World):Prop where
 mb:MB ρ w' p y L
 mt:MT ρ w' x L
 fr:Fr (fun k=>1<=k∧k<=5) ρ w w'
theorem Bh.next{ρ:Nat->Nat}{w w1 w2:World}{p:Nat}{y z x:MS}{L:Lo}(h:Bh ρ w p y x L w1)(B:MB ρ w2 p z L)(f:Fr (fun k=>1<=k∧k<=5) ρ w1 w2):Bh ρ w p z x L w2:=⟨B,h.mt.fr5 f,h.fr.trans f⟩
theorem Bh.set{ρ:Nat->Nat}{w w1:World}{p:Nat}{y z x:MS}{L:Lo}(h:Bh ρ w p y x L w1)(i:Nat)(v:Value)(e:(k7n y L).set i v=k7n z L)(hq:z.qa=y.qa∧z.qc=y.qc):Bh ρ w p z x L (w1.setCell ⟨p,i,none⟩ v):=h.next (h.mb.set i v e ⟨rfl,rfl,rfl,rfl⟩ hq) (Fr.own _ p i _ h.mb.rp)
theorem Bh.below{ρ:Nat->Nat}{w w1 w2:World}{p:Nat}{y x:MS}{L:Lo}(h:Bh ρ w p y x L w1)(b:Below w1.heap.size w1 w2):Bh ρ w p y x L w2:=h.next (h.mb.fr (Kp.of_below b)) (Fr.below b)
theorem Bh.drewN{ρ:Nat->Nat}{w w1:World}{p:Nat}{y x:MS}{L:Lo}(h:Bh ρ w p y x L w1)(n:Nat):Bh ρ w p y x L (w1.drewN n):=h.next (h.mb.drewN n) ((Fr.refl _ _ _).drewN n)
theorem Bh.done{ρ:Nat->Nat}{w w1:World}{p:Nat}{y x:MS}{L:Lo}(h:Bh ρ w p y x L w1)(h1:y.rest=x.rest)(h2:y.hl=x.hl)(h3:y.row=x.row)(h4:y.hs=x.hs)(h5:y.la=x.la∧y.lb=x.lb):MM ρ w1 p y∧Fr (fun k=>1<=k∧k<=5) ρ w w1:=⟨⟨L,h.mb,h.mt.same h1 h2 h3 h4 h5⟩,h.fr⟩
theorem mPut{ρ:Nat->Nat}{w:World}{p:Nat}{x:MS}(b:Nat)(h:MM ρ w p x)(ok:Ok x)(hb:b<256) :
  Calls Tryz.prog 137 #[.pointer (some ⟨p,0,none⟩), .int .u8 b] w fun v w'=>y0y ρ w p (x.put b) v w':=by
 obtain ⟨L,B,T⟩:=h;have hsum:x.tk+x.pu<=9223372036854775807:=by have:=ok.steps;have:=ok.sp;omega
 have hsp:=ok.sp;have hra:x.ra*x.tk+x.sl<=9223372036854775807:=by
  have h1:=ok.quo;have h2:x.ra*x.tk<=x.ra*x.sp:=Nat.mul_le_mul_left _ (by have:=ok.steps;omega);omega
 have hqa:=B.ra';have hsz:=ok.size;have HS:Hid (x.sx<=65520∧x.sy<=65520):=ok.sum;have HB0:Hid (Bh ρ w p x x L w):=⟨B,T,Fr.refl _ _ _⟩
 have c16:w.cell? ⟨p,16,none⟩=some (.pointer (some ⟨L.a,0,none⟩)):=B.row.cell (i:=16) (by omega);have HF:Hid (Calls Tryz.prog 165 #[.pointer (some ⟨L.a,0,none⟩)] w fun v w'=>v= .returned (.bool (decide (x.qa.length=64)))∧∃ n,w'=w.drewN n):=by
  obtain ⟨o,f,k⟩:=B.ra;exact zzm k
 have HAP:Hid (∀ w,Calls Tryz.prog 166 #[.agg (talV x.tk x.pu x.mb), .agg (cfgV x.fm x.ou x.ra x.sl x.me x.he x.sp)] w fun v w'=>v= .returned (.int .i64 x.putE)∧Below w.heap.size w w'):=fun w=>xxj x.fm x.ou x.ra x.sl x.me x.he x.sp x.tk x.pu x.mb w hsum hsp hra ok.ou
 clear B T hra;go_enter Tryz.func137,Tryz.ntmps137
 go_wp2_with fail
 refine HF.out.mono ?_;rintro v w1 ⟨rfl,n1,hw1⟩;have HB1:Hid (Bh ρ w p x x L w1):=by show Bh _ _ _ _ _ _ _;rw [hw1];exact HB0.out.drewN n1
 clear hw1 HF HB0 c16;by_cases hfull:x.qa.length=64
 ·rw [decide_eq_true hfull];have e:Hid (x.put b=(x,2)):=by show x.put b=_;unfold MS.put;rw [if_pos hfull]
  have HR:=HB1.out.done rfl rfl rfl rfl ⟨rfl,rfl⟩;have HRR:Hid (MM ρ w1 p x∧Fr (fun k=>1<=k∧k<=5) ρ w w1):=HR;clear HR;go_wp2_with fail
  go_ret
  unfold y0y;rw [e.out];exact ⟨rfl,HRR.out⟩
 ·rw [decide_eq_false hfull];have hroom:x.qa.length<64:=by omega
  have c9:w1.cell? ⟨p,9,none⟩=some (.int .i64 x.tk):=HB1.out.mb.row.cell (i:=9) (by omega);have c10:w1.cell? ⟨p,10,none⟩=some (.int .i64 x.pu):=HB1.out.mb.row.cell (i:=10) (by omega);have c11:w1.cell? ⟨p,11,none⟩=some (.int .i64 x.mb):=HB1.out.mb.row.cell (i:=11) (by omega);have a0:w1.cell? ⟨p,0,none⟩=some (.int .i64 x.fm):=HB1.out.mb.row.cell (i:=0) (by omega);have a1:w1.cell? ⟨p,1,none⟩=some (.int .i64 x.ou):=HB1.out.mb.row.cell (i:=1) (by omega);have a2:w1.cell? ⟨p,2,none⟩=some (.int .i64 x.ra):=HB1.out.mb.row.cell (i:=2) (by omega);have a3:w1.cell? ⟨p,3,none⟩=some (.int .i64 x.sl):=HB1.out.mb.row.cell (i:=3) (by omega);have a4:w1.cell? ⟨p,4,none⟩=some (.int .i64 x.me):=HB1.out.mb.row.cell (i:=4) (by omega);have a5:w1.cell? ⟨p,5,none⟩=some (.int .i64 x.he):=HB1.out.mb.row.cell (i:=5) (by omega);have a6:w1.cell? ⟨p,6,none⟩=some (.int .i64 x.sp):=HB1.out.mb.row.cell (i:=6) (by omega);have HE:Hid (x.put b=if x.putE≠0 then x.refuse x.putE else (x.putted b,0)):=by show x.put b=_;unfold MS.put;rw [if_neg hfull]
  have hpu0:x.putE=0->x.pu+1<=9223372036854775807:=fun h=>by
   unfold MS.putE at h;by_cases hq:x.sp<=x.tk+x.pu
   ·rw [if_pos hq] at h;cases h
   ·omega
  obtain ⟨E,hE⟩:∃ E,E=x.putE:=⟨_,rfl⟩
  rw [← hE] at hpu0;rw [← hE] at HAP HE;clear hE;by_cases h0:E=0
  ·subst h0;have hpu:=hpu0 rfl;clear hpu0;have HP:Hid (x.put b=(x.putted b,0)):=by show x.put b=_;rw [HE.out];rfl
   clear HE;go_wp2_with fail
   go_region_with (go_at_call 166;refine (HAP.out _).mono ?_;rintro e w2 ⟨rfl,hb2⟩)
   all_goals
    have HB2:Hid (Bh ρ w p x x L w2):=(HB1.out.drewN 1).below hb2;clear hb2;have k10:w2.cell? ⟨p,10,none⟩=some (.int .i64 x.pu):=HB2.out.mb.row.cell (i:=10) (by omega);have z10:=HB2.out.mb.row.frozen 10;have k16:w2.cell? ⟨p,16,none⟩=some (.pointer (some ⟨L.a,0,none⟩)):=HB2.out.mb.row.cell (i:=16) (by omega);have HB3:Hid (Bh ρ w p { x with pu:=x.pu+1 } x L (w2.setCell ⟨p,10,none⟩ (.int .i64 (x.pu+1:Nat)))):=HB2.out.set 10 _ rfl ⟨rfl,rfl⟩;have e1:((x.pu+1:Nat):Int)=(x.pu:Int)+1:=by omega
    rw [e1] at HB3;go_wp2_with fail
    refine (vt9 b HB3.out.mb hroom).mono ?_;rintro v w4 ⟨rfl,B4,f4⟩;have HB4:Hid (Bh ρ w p { x with pu:=x.pu+1,qa:=x.qa++[b] } x L w4):=HB3.out.next B4 f4;clear B4 f4 HB3 HB2;have k17:w4.cell? ⟨p,17,none⟩=some (.pointer (some ⟨L.c,0,none⟩)):=HB4.out.mb.row.cell (i:=17) (by omega);go_wp2_with fail
    refine (v55 b HB4.out.mb).mono ?_;rintro v w5 ⟨rfl,B5,f5⟩;have HB5:Hid (Bh ρ w p { x with pu:=x.pu+1,qa:=x.qa++[b],qc:=MS.pushed x.qc b } x L w5):=HB4.out.next B5 f5;clear B5 f5 HB4;go_wp2_with fail
    refine (sumM b HB5.out.mb HS.out hb).mono ?_;rintro v w6 ⟨rfl,B6,f6⟩;have HB6:Hid (Bh ρ w p { x with pu:=x.pu+1,qa:=x.qa++[b],qc:=MS.pushed x.qc b,sx:=(x.sx+b)%65521,sy:=(x.sy+(x.sx+b)%65521)%65521 } x L w6):=HB5.out.next B6 f6;clear B6 f6 HB5;have k23:w6.cell? ⟨p,23,none⟩=some (.int .u16 x.size):=HB6.out.mb.row.cell (i:=23) (by omega);have z23:=HB6.out.mb.row.frozen 23;have HB7:Hid (Bh ρ w p (x.putted b) x L (w6.setCell ⟨p,23,none⟩ (.int .u16 ((x.size+1)%65536:Nat)))):=HB6.out.set 23 _ rfl ⟨rfl,rfl⟩;go_wp2_with fail
    go_ret
    unfold y0y;rw [HP.out,j6n];exact ⟨rfl,HB7.out.done rfl rfl rfl rfl ⟨rfl,rfl⟩⟩
  ·have HP:Hid (x.put b=x.refuse E):=by show x.put b=_;rw [HE.out,if_pos h0]
   have h0':((E:Int)==0)=false:=by simp;exact h0
   clear HE;go_wp2_with fail
   go_region_with (go_at_call 166;refine (HAP.out _).mono ?_;rintro e w2 ⟨rfl,hb2⟩)
   all_goals
    have HB2:Hid (Bh ρ w p x x L w2):=(HB1.out.drewN 1).below hb2;clear hb2;go_wp2_with fail
    refine (kv8 E (HB2.out.done rfl rfl rfl rfl ⟨rfl,rfl⟩).1).mono ?_;rintro v w3 ⟨rfl,h3,f3⟩;have HR:Hid (MM ρ w3 p (x.refuse E).1∧Fr (fun k=>1<=k∧k<=5) ρ w w3):=⟨h3,HB2.out.fr.trans f3⟩
    clear h3 f3;go_wp2_with fail
    go_ret
    unfold y0y;rw [HP.out];exact ⟨rfl,HR.out⟩
theorem MS.need_facts{k:Nat}:∀ (l:List Nat) {x:MS},x.rest=l->Ok x->Ok (MS.need k x).1∧((MS.need k x).2=0->k<=(MS.need k x).1.count∧((MS.need k x).1.count<=x.count∨(MS.need k x).1.count<k+8)∧(MS.need k x).1={ x with held:=(MS.need k x).1.held,count:=(MS.need k x).1.count,tk:=(MS.need k x).1.tk,rest:=(MS.need k x).1.rest }∧8*(MS.need k x).1.rest.length+(MS.need k x).1.count=8*x.rest.length+x.count)
 | [],x,e,ok=>by
  by_cases h:k<=x.count
  ·rw [MS.need_done h];exact ⟨ok,fun _=>⟨h,Or.inl (Nat.le_refl _),rfl,rfl⟩⟩
  ·rw [MS.need_nil h e];exact ⟨ok,fun h0=>by cases h0⟩
 | b :: l,x,e,ok=>by
  by_cases h:k<=x.count
  ·rw [MS.need_done h];exact ⟨ok,fun _=>⟨h,Or.inl (Nat.le_refl _),rfl,rfl⟩⟩
  ·rw [MS.need_cons h e];by_cases hs:x.sp<=x.tk+x.pu
   ·rw [if_pos hs];exact ⟨ok.refuse 16,fun h0=>by cases h0⟩
   ·rw [if_neg hs];obtain ⟨a,c⟩:=MS.need_facts (k:=k) l (x:=x.fed b l) rfl (ok.fed e hs);refine ⟨a,fun h0=>?_⟩;obtain ⟨c1,c2,c3,c4⟩:=c h0;refine ⟨c1,?_,?_,?_⟩
    ·rcases c2 with c2 | c2
     ·right
      have:(x.fed b l).count=x.count+8:=rfl;omega
     ·exact Or.inr c2
    ·rw [c3];rfl
    ·rw [c4,e];show 8*l.length+(x.count+8)=8*(b :: l).length+x.count;simp;omega
theorem MS.need_ok{k:Nat}{x:MS}(h:Ok x):Ok (MS.need k x).1:=(MS.need_facts (k:=k) x.rest rfl h).1
theorem MS.need_cnt{k:Nat}{x:MS}(h:Ok x)(h0:(MS.need k x).2=0):k<=(MS.need k x).1.count∧((MS.need k x).1.count<=x.count∨(MS.need k x).1.count<k+8):=⟨((MS.need_facts (k:=k) x.rest rfl h).2 h0).1,((MS.need_facts (k:=k) x.rest rfl h).2 h0).2.1⟩
theorem MS.need_same{k:Nat}{x:MS}(h:Ok x)(h0:(MS.need k x).2=0):(MS.need k x).1={ x with held:=(MS.need k x).1.held,count:=(MS.need k x).1.count,tk:=(MS.need k x).1.tk,rest:=(MS.need k x).1.rest }:=((MS.need_facts (k:=k) x.rest rfl h).2 h0).2.2.1
theorem MS.need_bits{k:Nat}{x:MS}(h:Ok x)(h0:(MS.need k x).2=0):8*(MS.need k x).1.rest.length+(MS.need k x).1.count=8*x.rest.length+x.count:=((MS.need_facts (k:=k) x.rest rfl h).2 h0).2.2.2
theorem zw3{ρ:Nat->Nat}{w:World}{p:Nat}{x:MS}(k:Nat)(h:MM ρ w p x)(ok:Ok x)(hk:k<=x.count)(hc:x.count<=63) :
  Calls Tryz.prog 134 #[.pointer (some ⟨p,14,none⟩), .int .i64 k] w fun v w'=>v= .returned (.int .i64 (x.num k))∧MM ρ w' p (x.rd k)∧Fr (fun k=>1<=k∧k<=5) ρ w w':=by
 obtain ⟨L,B,T⟩:=h;have c1:w.cell? ⟨p,14,none⟩=some (.int .u64 x.held):=B.row.cell (i:=14) (by omega);have c2:w.cell? ⟨p,14+1,none⟩=some (.int .i64 x.count):=B.row.cell (i:=15) (by omega);refine (zto p 14 x.held x.count k w hk hc ok.held c1 c2 (B.row.frozen 14) (B.row.frozen 15)).mono ?_;rintro v w' ⟨rfl,n,e⟩;refine ⟨rfl,?_⟩;have R:Bh ρ w p x x L w:=⟨B,T,Fr.refl _ _ _⟩
 rw [e];exact (((R.drewN n).set (z:={ x with held:=x.held / 2^k }) 14 _ rfl ⟨rfl,rfl⟩).set (z:=x.rd k) 15 _ rfl ⟨rfl,rfl⟩).done rfl rfl rfl rfl ⟨rfl,rfl⟩
def v5b(T:IntKind)(ρ:Nat->Nat)(w:World)(p:Nat)(r:MS×Nat×Nat)(e:Ending)(w':World):Prop:=e= .returned (.tuple #[.int T r.2.2, .int .i64 r.2.1])∧MM ρ w' p r.1∧Fr (fun k=>1<=k∧k<=5) ρ w w'
theorem kvg{ρ:Nat->Nat}{w:World}{p:Nat}{x:MS}(h:MM ρ w p x)(ok:Ok x)(hx:x.count<=8) :
  Calls Tryz.prog 160 #[.pointer (some ⟨p,0,none⟩)] w fun v w'=>v5b .u8 ρ w p x.takeHead v w':=by
 have HM:Hid (MM ρ w p x∧Ok x):=⟨h,ok⟩
 have HE:Hid (x.takeHead=if (MS.need 8 x).2≠0 then ((MS.need 8 x).1,(MS.need 8 x).2,0) else if (MS.need 8 x).1.head=(MS.need 8 x).1.he then (((MS.need 8 x).1.refuse 5).1,3,0) else ((MS.need 8 x).1.headRead,0,(MS.need 8 x).1.num 8)):=rfl;clear h ok;go_enter Tryz.func160,Tryz.ntmps160
 go_wp2_with fail
 refine (zvo 8 HM.out.1 HM.out.2 (by omega) (by omega)).mono ?_;rintro v w1 ⟨rfl,g1,g2⟩;by_cases h0:(MS.need 8 x).2=0
 ·have k1:=MS.need_cnt HM.out.2 h0;have k2:=MS.need_same HM.out.2 h0;have k3:=MS.need_ok (k:=8) HM.out.2;rw [h0];rw [if_neg (by rw [h0];simp)] at HE;obtain ⟨y,hy⟩:∃ y,y=(MS.need 8 x).1:=⟨_,rfl⟩
  rw [← hy] at g1 HE k1 k2 k3;have HY:Hid (MM ρ w1 p y∧Ok y∧Fr (fun k=>1<=k∧k<=5) ρ w w1):=⟨g1,k3,g2⟩
  have hu:=k3.hsum;have hh:=k3.hd;obtain ⟨L,B,T⟩:=g1;have c19:w1.cell? ⟨p,19,none⟩=some (.int .i64 y.head):=B.row.cell (i:=19) (by omega);have c5:w1.cell? ⟨p,5,none⟩=some (.int .i64 y.he):=B.row.cell (i:=5) (by omega);clear B T g2 hy k2 k3 h0;by_cases hq:y.head=y.he
  ·rw [if_pos hq] at HE;have hqd:((y.head:Int)==(y.he:Int))=true:=by simp [hq]
   clear hq;go_wp2_with fail
   go_quiet (fail)
   go_wp2_with fail
   refine (kv8 5 (HY.out.1.drewN _)).mono ?_;rintro v w2 ⟨rfl,g3,g4⟩;have HR:Hid (MM ρ w2 p (y.refuse 5).1∧Fr (fun k=>1<=k∧k<=5) ρ w w2):=⟨g3,(HY.out.2.2.drewN _).trans g4⟩
   clear g3 g4;go_wp2_with fail
   go_ret2
   unfold v5b;rw [HE.out];exact ⟨rfl,HR.out⟩
  ·rw [if_neg hq] at HE;have hqd:((y.head:Int)==(y.he:Int))=false:=by simp;omega
   have hh1:y.head+1<=9223372036854775807:=by omega
   clear hq;go_wp2_with fail
   go_quiet (fail)
   go_wp2_with fail
   refine (zw3 8 (HY.out.1.drewN _) HY.out.2.1 k1.1 (by omega)).mono ?_;rintro v w2 ⟨rfl,g3,g4⟩;have hn:y.num 8<256:=Nat.mod_lt _ (by decide);have hni:((y.num 8:Nat):Int)%256=((y.num 8:Nat):Int):=by omega
   obtain ⟨L,B,T⟩:=g3;have HB:Hid (Bh ρ w p (y.rd 8) (y.rd 8) L w2):=⟨B,T,(HY.out.2.2.drewN _).trans g4⟩
   have d19:w2.cell? ⟨p,19,none⟩=some (.int .i64 y.head):=B.row.cell (i:=19) (by omega);have d20:w2.cell? ⟨p,20,none⟩=some (.int .u8 y.hsum):=B.row.cell (i:=20) (by omega);have z19:=B.row.frozen 19;have z20:=B.row.frozen 20;have HB2:Hid (Bh ρ w p y.headRead (y.rd 8) L ((w2.setCell ⟨p,19,none⟩ (.int .i64 (y.head+1:Nat))).setCell ⟨p,20,none⟩ (.int .u8 ((y.hsum+y.num 8)%256:Nat)))):=(HB.out.set (z:={ y.rd 8 with head:=y.head+1 }) 19 _ rfl ⟨rfl,rfl⟩).set 20 _ rfl ⟨rfl,rfl⟩;have e1:((y.head+1:Nat):Int)=(y.head:Int)+1:=by omega
   rw [e1] at HB2;clear B T g4;obtain ⟨b,hb⟩:∃ b,b=y.num 8:=⟨_,rfl⟩
   rw [← hb] at hn hni HE HB2 ⊢;clear hb;go_wp2_with fail
   go_ret2
   unfold v5b;rw [HE.out];have e2:((y.hsum:Int)+b)%256=(((y.hsum+b)%256:Nat):Int):=by omega
   first
    | exact ⟨rfl,HB2.out.done rfl rfl rfl rfl ⟨rfl,rfl⟩⟩
    | (rw [e2];exact ⟨rfl,HB2.out.done rfl rfl rfl rfl ⟨rfl,rfl⟩⟩)
    | (rw [IntKind.wrap_u8,e2];exact ⟨rfl,HB2.out.done rfl rfl rfl rfl ⟨rfl,rfl⟩⟩)
 ·obtain ⟨t,ht⟩:∃ t,t=(MS.need 8 x).2:=⟨_,rfl⟩
  rw [if_pos h0] at HE;have HR:Hid (MM ρ w1 p (MS.need 8 x).1∧Fr (fun k=>1<=k∧k<=5) ρ w w1):=⟨g1,g2⟩
  rw [← ht] at h0 HE ⊢;have h0':((t:Int)==0)=false:=by simp;exact h0
  clear g1 g2 ht;go_wp2_with fail
  go_ret2
  unfold v5b;rw [HE.out];exact ⟨rfl,HR.out⟩
theorem Ok.headRead{y:MS}(h:Ok y)(h8:8<=y.count)(hq:y.head≠y.he):Ok y.headRead:=
 { h.rd h8 with hd:=⟨by have:=h.hd.1;show y.head+1<=y.he;omega,h.hd.2⟩,hsum:=Nat.mod_lt _ (by decide) }
theorem MS.takeHead_facts{x:MS}(ok:Ok x)(hx:x.count<=8):Ok x.takeHead.1∧(x.takeHead.2.1=0->x.takeHead.1.count<8∧x.takeHead.2.2<256∧x.takeHead.1.more<x.more∧x.takeHead.1={ x with held:=x.takeHead.1.held,count:=x.takeHead.1.count,tk:=x.takeHead.1.tk,rest:=x.takeHead.1.rest,head:=x.takeHead.1.head,hsum:=x.takeHead.1.hsum }):=by
 have k3:=MS.need_ok (k:=8) ok;unfold MS.takeHead;by_cases h0:(MS.need 8 x).2=0
 ·have k1:=MS.need_cnt ok h0;have k2:=MS.need_same ok h0;have k4:=MS.need_bits ok h0;rw [if_neg (by rw [h0];simp)];by_cases hq:(MS.need 8 x).1.head=(MS.need 8 x).1.he
  ·rw [if_pos hq];exact ⟨k3.refuse 5,fun h=>by cases h⟩
  ·rw [if_neg hq];refine ⟨k3.headRead k1.1 hq,fun _=>⟨?_,Nat.mod_lt _ (by decide),?_,?_⟩⟩
   ·show (MS.need 8 x).1.count - 8<8;omega
   ·show (MS.need 8 x).1.rest.length+((MS.need 8 x).1.count - 8) / 8<x.rest.length+x.count / 8;omega
   ·show ({ (MS.need 8 x).1.rd 8 with head:=_,hsum:=_ }:MS)=_;generalize MS.need 8 x=r at *;rw [k2];rfl
 ·rw [if_pos h0];exact ⟨k3,fun h=>absurd h h0⟩
theorem jn3{ρ:Nat->Nat}{w:World}{p:Nat}{x:MS}(want:Nat)(h:MM ρ w p x)(ok:Ok x)(hx:x.count<=8)(hw:want<256) :
  Calls Tryz.prog 159 #[.pointer (some ⟨p,0,none⟩), .int .u8 want] w fun v w'=>y0y ρ w p (MS.passByte want x) v w':=by
 have HM:Hid (MM ρ w p x∧Ok x):=⟨h,ok⟩
 have HE:Hid (MS.passByte want x=if x.takeHead.2.1=0 then (if x.takeHead.2.2=want then (x.takeHead.1,0) else x.takeHead.1.refuse 4) else (x.takeHead.1,x.takeHead.2.1)):=rfl;clear h ok;go_enter Tryz.func159,Tryz.ntmps159
 go_wp2_with fail
 refine (kvg HM.out.1 HM.out.2 hx).mono ?_;rintro v w1 ⟨rfl,g1,g2⟩;have k1:=(MS.takeHead_facts HM.out.2 hx).2;obtain ⟨y,t,b,hr⟩:∃ y t b,x.takeHead=(y,t,b):=⟨_,_,_,rfl⟩
 rw [hr] at g1 HE k1 ⊢;have HR:Hid (MM ρ w1 p y∧Fr (fun k=>1<=k∧k<=5) ρ w w1):=⟨g1,g2⟩
 clear g1 g2 hr;by_cases h0:t=0
 ·have hb:b<256:=(k1 h0).2.1;subst h0;rw [if_pos rfl] at HE;by_cases hbw:b=want
  ·rw [if_pos hbw] at HE;have hd:((b:Int)==(want:Int))=true:=by simp [hbw]
   clear hbw k1;go_wp2_with fail
   go_ret
   unfold y0y;rw [HE.out];exact ⟨rfl,HR.out⟩
  ·rw [if_neg hbw] at HE;have hd:((b:Int)==(want:Int))=false:=by simp;omega
   clear hbw k1;go_wp2_with fail
   refine (kv8 4 HR.out.1).mono ?_;rintro v w2 ⟨rfl,g3,g4⟩;have HR2:Hid (MM ρ w2 p (y.refuse 4).1∧Fr (fun k=>1<=k∧k<=5) ρ w w2):=⟨g3,HR.out.2.trans g4⟩
   clear g3 g4;go_wp2_with fail
   go_ret
   unfold y0y;rw [HE.out];exact ⟨rfl,HR2.out⟩
 ·rw [if_neg h0] at HE;have h0':((t:Int)==0)=false:=by simp;exact h0
  clear k1;go_wp2_with fail
  go_ret
  unfold y0y;rw [HE.out];exact ⟨rfl,HR.out⟩
theorem zmn{ρ:Nat->Nat}{w:World}{p:Nat}{x:MS}(want:Nat)(h:MM ρ w p x)(ok:Ok x)(hx:x.count<=8∨x.fm=0)(hw:want<256) :
  Calls Tryz.prog 129 #[.pointer (some ⟨p,0,none⟩), .int .u8 want] w fun v w'=>y0y ρ w p (MS.passFixed want x) v w':=by
 have HM:Hid (MM ρ w p x∧Ok x):=⟨h,ok⟩
 have c0:w.cell? ⟨p,0,none⟩=some (.int .i64 x.fm):=by obtain ⟨L,B,T⟩:=h;exact B.row.cell (i:=0) (by omega)
 have HE:Hid (MS.passFixed want x=if x.fm=0 then (x,0) else MS.passByte want x):=rfl;clear h ok;go_enter Tryz.func129,Tryz.ntmps129
 by_cases h0:x.fm=0
 ·rw [if_pos h0] at HE;have hd:((x.fm:Int)==0)=true:=by simp [h0]
  clear h0 hx;go_wp2_with fail
  go_ret
  unfold y0y;rw [HE.out];exact ⟨rfl,HM.out.1,Fr.refl _ _ _⟩
 ·rw [if_neg h0] at HE;have hd:((x.fm:Int)==0)=false:=by simp;exact h0
  have hx8:x.count<=8:=by omega
  clear h0 hx;go_wp2_with fail
  refine (jn3 want HM.out.1 HM.out.2 hx8 hw).mono ?_;rintro v w1 ⟨rfl,g1,g2⟩;have HR:Hid (MM ρ w1 p (MS.passByte want x).1∧Fr (fun k=>1<=k∧k<=5) ρ w w1):=⟨g1,g2⟩
  clear g1 g2;go_wp2_with fail
  go_ret
  unfold y0y;rw [HE.out];exact ⟨rfl,HR.out⟩
theorem xdp{ρ:Nat->Nat}{w:World}{p:Nat}{x:MS}(h:MM ρ w p x)(ok:Ok x)(hx:x.count<=8∨x.fm=0) :
  Calls Tryz.prog 130 #[.pointer (some ⟨p,0,none⟩)] w fun v w'=>y0y ρ w p x.passMarks v w':=by
 have HM:Hid (MM ρ w p x∧Ok x):=⟨h,ok⟩
 have c0:w.cell? ⟨p,0,none⟩=some (.int .i64 x.fm):=by obtain ⟨L,B,T⟩:=h;exact B.row.cell (i:=0) (by omega)
 have HE:Hid (x.passMarks=if x.fm=2 then (if x.takeHead.2.1=0 then (if 7<x.takeHead.2.2 then x.takeHead.1.refuse 4 else ({ x.takeHead.1 with marks:=x.takeHead.2.2 },0)) else (x.takeHead.1,x.takeHead.2.1)) else (x,0)):=rfl;clear h ok;go_enter Tryz.func130,Tryz.ntmps130
 by_cases h2:x.fm=2
 ·rw [if_pos h2] at HE;have hd:((x.fm:Int)==2)=true:=by simp;omega
  have hx8:x.count<=8:=by omega
  clear h2 hx;go_wp2_with fail
  refine (kvg HM.out.1 HM.out.2 hx8).mono ?_;rintro v w1 ⟨rfl,g1,g2⟩;have k1:=(MS.takeHead_facts HM.out.2 hx8).2;obtain ⟨y,t,b,hr⟩:∃ y t b,x.takeHead=(y,t,b):=⟨_,_,_,rfl⟩
  rw [hr] at g1 HE k1 ⊢;have HR:Hid (MM ρ w1 p y∧Fr (fun k=>1<=k∧k<=5) ρ w w1):=⟨g1,g2⟩
  clear g2 hr;by_cases h0:t=0
  ·have hb:b<256:=(k1 h0).2.1;subst h0;rw [if_pos rfl] at HE;by_cases hbw:7<b
   ·rw [if_pos hbw] at HE;have hbi:(7:Int)<b:=by omega
    clear k1 g1;go_wp2_with fail
    refine (kv8 4 HR.out.1).mono ?_;rintro v w2 ⟨rfl,g3,g4⟩;have HR2:Hid (MM ρ w2 p (y.refuse 4).1∧Fr (fun k=>1<=k∧k<=5) ρ w w2):=⟨g3,HR.out.2.trans g4⟩
    clear g3 g4;go_wp2_with fail
    go_ret
    unfold y0y;rw [HE.out];exact ⟨rfl,HR2.out⟩
   ·rw [if_neg hbw] at HE;have hbi:¬ (7:Int)<b:=by omega
    obtain ⟨L,B,T⟩:=g1;have c18:w1.cell? ⟨p,18,none⟩=some (.int .u8 y.marks):=B.row.cell (i:=18) (by omega);have z18:=B.row.frozen 18;have HB:Hid (Bh ρ w p { y with marks:=b } y L (w1.setCell ⟨p,18,none⟩ (.int .u8 b))):=(show Bh ρ w p y y L w1 from ⟨B,T,HR.out.2⟩).set 18 _ rfl ⟨rfl,rfl⟩;clear k1 B T;go_wp2_with fail
    go_ret
    unfold y0y;rw [HE.out];exact ⟨rfl,HB.out.done rfl rfl rfl rfl ⟨rfl,rfl⟩⟩
  ·rw [if_neg h0] at HE;have h0':((t:Int)==0)=false:=by simp;exact h0
   clear k1 g1;go_wp2_with fail
   go_ret
   unfold y0y;rw [HE.out];exact ⟨rfl,HR.out⟩
 ·rw [if_neg h2] at HE;have hd:((x.fm:Int)==2)=false:=by simp;omega
  clear h2 hx;go_wp2_with fail
  go_ret
  unfold y0y;rw [HE.out];exact ⟨rfl,HM.out.1,Fr.refl _ _ _⟩
theorem MS.need_tk{k:Nat}:∀ (l:List Nat) {x:MS},x.rest=l->(MS.need k x).1.rest.length+(MS.need k x).1.tk=x.rest.length+x.tk
 | [],x,e=>by
  by_cases h:k<=x.count
  ·rw [MS.need_done h]
  ·rw [MS.need_nil h e]
 | b :: l,x,e=>by
  by_cases h:k<=x.count
  ·rw [MS.need_done h]
  ·rw [MS.need_cons h e];by_cases hs:x.sp<=x.tk+x.pu
   ·rw [if_pos hs];rfl
   ·rw [if_neg hs,MS.need_tk (k:=k) l (x:=x.fed b l) rfl,e];show l.length+(x.tk+1)=(b :: l).length+x.tk;simp;omega
theorem MS.takeHead_tk(x:MS):x.takeHead.1.rest.length+x.takeHead.1.tk=x.rest.length+x.tk:=by
 have:=MS.need_tk (k:=8) x.rest (x:=x) rfl;unfold MS.takeHead;split
 ·exact this
 ·split
  ·exact this
  ·exact this
theorem ym5(m i:Nat)(hm:m<256)(hi:i<8):bits .and .u8 (m:Int) ((2^i:Nat):Int)=((m / 2^i%2*2^i:Nat):Int):=by
 have h1:m<2^8:=hm;have h2:2^i<2^8:=Nat.pow_lt_pow_right (by decide) hi;rw [(bits_nat .u8 8 (by decide) wraps_u8 m (2^i) h1 h2).1,nat_bit]
theorem x3t(m i:Nat)(hm:m<256)(hi:i<8):(bits .and .u8 (m:Int) ((2^i:Nat):Int)==0)=decide (m / 2^i%2=0):=by
 rw [ym5 m i hm hi];have hp:=Nat.two_pow_pos i;by_cases h:m / 2^i%2=0
 ·rw [h,decide_eq_true rfl];simp
 ·have h1:m / 2^i%2=1:=by omega
  rw [h1];simp;have hpi:(0:Int)<2^i:=Int.pow_pos (by decide);omega
theorem MM.cell9{ρ:Nat->Nat}{w:World}{p:Nat}{x:MS}(h:MM ρ w p x):w.cell? ⟨p,9,none⟩=some (.int .i64 x.tk):=by
 obtain ⟨L,B,T⟩:=h;exact B.row.cell (i:=9) (by omega)
theorem zvv{ρ:Nat->Nat}{w:World}{p:Nat}{x:MS}(i:Nat)(h:MM ρ w p x)(ok:Ok x)(hx:x.count<=8∨x.marks=0)(hi:i<8) :
  Calls Tryz.prog 131 #[.pointer (some ⟨p,0,none⟩), .int .u8 (2^i:Nat)] w fun v w'=>y0y ρ w p (MS.passText (2^i) x) v w':=by
 have HM:Hid (MM ρ w p x∧Ok x):=⟨h,ok⟩
 have c18:w.cell? ⟨p,18,none⟩=some (.int .u8 x.marks):=by obtain ⟨L,B,T⟩:=h;exact B.row.cell (i:=18) (by omega)
 have HE:Hid (MS.passText (2^i) x=if x.marks / 2^i%2=0 then (x,0) else MS.textL (x.more+1) x):=rfl;have hz:=x3t x.marks i ok.marks hi;clear h ok;obtain ⟨m,hm⟩:∃ m,m=2^i:=⟨_,rfl⟩
 rw [← hm] at HE hz ⊢;clear hm;go_enter Tryz.func131,Tryz.ntmps131
 by_cases h0:x.marks / m%2=0
 ·rw [if_pos h0] at HE;rw [decide_eq_true h0] at hz;clear h0 hx;go_wp2_with fail
  go_ret
  unfold y0y;rw [HE.out];exact ⟨rfl,HM.out.1,Fr.refl _ _ _⟩
 ·rw [if_neg h0] at HE;rw [decide_eq_false h0] at hz;have hx8:x.count<=8:=by
   rcases hx with hx | hx
   ·exact hx
   ·rw [hx] at h0;simp at h0
  have H0:Hid (∃ y f,MM ρ w p y∧Ok y∧y.count<=8∧MS.textL f y=MS.textL (x.more+1) x∧y.more<f∧y.rest.length+y.tk=x.rest.length+x.tk∧Fr (fun k=>1<=k∧k<=5) ρ w w):=⟨x,x.more+1,HM.out.1,HM.out.2,hx8,rfl,by omega,rfl,Fr.refl _ _ _⟩
  clear h0 hx HM;obtain ⟨C,hC⟩:∃ C,C=x.rest.length+x.tk:=⟨_,rfl⟩
  rw [← hC] at H0;clear hC;go_wp2_with fail
  go_loopw [] (fun wr=>Hid (∃ y f,MM ρ wr p y∧Ok y∧y.count<=8∧MS.textL f y=MS.textL (x.more+1) x∧y.more<f∧y.rest.length+y.tk=C∧Fr (fun k=>1<=k∧k<=5) ρ w wr)) (fun wr=>C - xq0 wr p 9+xq0 wr p 15 / 8)
  case atStart=>exact H0
  case round=>
   clear H0 c18;obtain ⟨y,f,g1,g2,g3,g4,g5,g6,g7⟩:=hrel.out;have e9:=xv1 g1.cell9;have e15:=xv1 g1.cell15;obtain ⟨f,rfl⟩:∃ n,f=n+1:=⟨f - 1,by omega⟩
   have HL:Hid (MS.textL (x.more+1) x=if y.takeHead.2.1≠0∨y.takeHead.2.2=0 then (y.takeHead.1,y.takeHead.2.1) else MS.textL f y.takeHead.1):=g4.symm;have HY:Hid (MM ρ wr p y∧Ok y∧Fr (fun k=>1<=k∧k<=5) ρ w wr):=⟨g1,g2,g7⟩
   clear g1 g2 g4 g7 hrel;go_wp2_with fail
   refine (kvg HY.out.1 HY.out.2.1 g3).mono ?_;rintro v w1 ⟨rfl,a1,a2⟩;obtain ⟨o1,k1⟩:=MS.takeHead_facts HY.out.2.1 g3;have k2:=MS.takeHead_tk y;obtain ⟨z,t,b,hr⟩:∃ z t b,y.takeHead=(z,t,b):=⟨_,_,_,rfl⟩
   rw [hr] at a1 HL k1 k2 o1 ⊢;have HR:Hid (MM ρ w1 p z∧Ok z∧Fr (fun k=>1<=k∧k<=5) ρ w w1):=⟨a1,o1,HY.out.2.2.trans a2⟩
   have n9:=xv1 a1.cell9;have n15:=xv1 a1.cell15;clear a1 a2 o1 hr;by_cases h0:t=0
   ·obtain ⟨q1,q2,q3,_⟩:=k1 h0;subst h0;by_cases hb:b=0
    ·have hd:((b:Int)==0)=true:=by simp [hb]
     rw [if_pos (Or.inr hb)] at HL;clear hb;go_wp2_with fail
     go_ret
     unfold y0y;rw [HE.out,HL.out];exact ⟨rfl,HR.out.1,HR.out.2.2⟩
    ·have hd:((b:Int)==0)=false:=by simp;exact hb
     rw [if_neg (by simp [hb])] at HL;have HN:Hid (∃ y f,MM ρ w1 p y∧Ok y∧y.count<=8∧MS.textL f y=MS.textL (x.more+1) x∧y.more<f∧y.rest.length+y.tk=C∧Fr (fun k=>1<=k∧k<=5) ρ w w1):=⟨z,f,HR.out.1,HR.out.2.1,by show z.count<=8;have:z.count<8:=q1;omega,HL.out.symm,by have:z.more<y.more:=q3;omega,k2.trans g6,HR.out.2.2⟩
     clear hb;go_wp2_with fail
     go_roundw
     case rel=>exact HN
     case measure=>
      rw [e9,e15,n9,n15];have q4:z.rest.length+z.count / 8<y.rest.length+y.count / 8:=q3;have q5:z.rest.length+z.tk=y.rest.length+y.tk:=k2;show C - z.tk+z.count / 8<C - y.tk+y.count / 8;omega
   ·have hd:((t:Int)==0)=false:=by simp;exact h0
    rw [if_pos (Or.inl h0)] at HL;clear k1;go_wp2_with fail
    go_ret
    unfold y0y;rw [HE.out,HL.out];exact ⟨rfl,HR.out.1,HR.out.2.2⟩
theorem xj1{ρ:Nat->Nat}{w:World}{p:Nat}{x:MS}(h:MM ρ w p x)(ok:Ok x)(hx:x.count<=8∨x.marks=0) :
  Calls Tryz.prog 132 #[.pointer (some ⟨p,0,none⟩)] w fun v w'=>y0y ρ w p x.passCheck v w':=by
 have HM:Hid (MM ρ w p x∧Ok x):=⟨h,ok⟩
 have c18:w.cell? ⟨p,18,none⟩=some (.int .u8 x.marks):=by obtain ⟨L,B,T⟩:=h;exact B.row.cell (i:=18) (by omega)
 have c20:w.cell? ⟨p,20,none⟩=some (.int .u8 x.hsum):=by obtain ⟨L,B,T⟩:=h;exact B.row.cell (i:=20) (by omega)
 have HE:Hid (x.passCheck=if x.marks / 4%2=0 then (x,0) else MS.passByte x.hsum x):=rfl;have hz:(bits .and .u8 (x.marks:Int) 4==0)=decide (x.marks / 4%2=0):=x3t x.marks 2 ok.marks (by decide);have hs:=ok.hsum;clear h ok;go_enter Tryz.func132,Tryz.ntmps132
 by_cases h0:x.marks / 4%2=0
 ·rw [if_pos h0] at HE;rw [decide_eq_true h0] at hz;clear h0 hx;go_wp2_with fail
  go_ret
  unfold y0y;rw [HE.out];exact ⟨rfl,HM.out.1,Fr.refl _ _ _⟩
 ·rw [if_neg h0] at HE;rw [decide_eq_false h0] at hz;have hx8:x.count<=8:=by
   rcases hx with hx | hx
   ·exact hx
   ·rw [hx] at h0;simp at h0
  clear h0 hx;go_wp2_with fail
  refine (jn3 x.hsum HM.out.1 HM.out.2 hx8 hs).mono ?_;rintro v w1 ⟨rfl,g1,g2⟩;have HR:Hid (MM ρ w1 p (MS.passByte x.hsum x).1∧Fr (fun k=>1<=k∧k<=5) ρ w w1):=⟨g1,g2⟩
  clear g1 g2;go_wp2_with fail
  go_ret
  unfold y0y;rw [HE.out];exact ⟨rfl,HR.out⟩
theorem zgi(fm:Nat)(w:World) :
  Calls Tryz.prog 127 #[.int .i64 fm] w fun v w'=>v= .returned (.tuple #[.int .u8 (MS.first fm), .int .u8 (MS.second fm)])∧w=w':=by
 by_cases h:fm=1
 ·have hd:((fm:Int)==1)=true:=by simp;omega
  have HF:Hid (MS.first fm=115∧MS.second fm=1):=by unfold MS.first MS.second;exact ⟨if_pos h,if_pos h⟩
  clear h;go_enter Tryz.func127,Tryz.ntmps127
  go_wp2_with fail
  go_ret2
  rw [HF.out.1,HF.out.2];exact ⟨rfl,rfl⟩
 ·have hd:((fm:Int)==1)=false:=by simp;omega
  have HF:Hid (MS.first fm=76∧MS.second fm=2):=by unfold MS.first MS.second;exact ⟨if_neg h,if_neg h⟩
  clear h;go_enter Tryz.func127,Tryz.ntmps127
  go_wp2_with fail
  go_ret2
  rw [HF.out.1,HF.out.2];exact ⟨rfl,rfl⟩
theorem MB.member{ρ:Nat->Nat}{w:World}{p:Nat}{y:MS}{L:Lo}(h:MB ρ w p y L):MB ρ ((((((w.setCell ⟨p,18,none⟩ (.int .u8 0)).setCell ⟨p,19,none⟩ (.int .i64 0)).setCell ⟨p,20,none⟩ (.int .u8 0)).setCell ⟨p,21,none⟩ (.int .i64 1)).setCell ⟨p,22,none⟩ (.int .i64 0)).setCell ⟨p,23,none⟩ (.int .u16 0)) p { y with marks:=0,head:=0,hsum:=0,sx:=1,sy:=0,size:=0 } L:=
 (((((h.set (y:={ y with marks:=0 }) (M:=L) 18 _ rfl ⟨rfl,rfl,rfl,rfl⟩ ⟨rfl,rfl⟩).set (y:={ y with marks:=0,head:=0 }) (M:=L) 19 _ rfl ⟨rfl,rfl,rfl,rfl⟩ ⟨rfl,rfl⟩).set (y:={ y with marks:=0,head:=0,hsum:=0 }) (M:=L) 20 _ rfl ⟨rfl,rfl,rfl,rfl⟩ ⟨rfl,rfl⟩).set (y:={ y with marks:=0,head:=0,hsum:=0,sx:=1 }) (M:=L) 21 _ rfl ⟨rfl,rfl,rfl,rfl⟩ ⟨rfl,rfl⟩).set (y:={ y with marks:=0,head:=0,hsum:=0,sx:=1,sy:=0 }) (M:=L) 22 _ rfl ⟨rfl,rfl,rfl,rfl⟩ ⟨rfl,rfl⟩).set 23 _ rfl ⟨rfl,rfl,rfl,rfl⟩ ⟨rfl,rfl⟩
theorem Fr.member{ρ:Nat->Nat}{w:World}{p:Nat}(h:ρ p=1)(a b c d e f:Value):Fr (fun k=>1<=k∧k<=5) ρ w ((((((w.setCell ⟨p,18,none⟩ a).setCell ⟨p,19,none⟩ b).setCell ⟨p,20,none⟩ c).setCell ⟨p,21,none⟩ d).setCell ⟨p,22,none⟩ e).setCell ⟨p,23,none⟩ f):=
 (((((Fr.own _ p 18 _ h).trans (Fr.own _ p 19 _ h)).trans (Fr.own _ p 20 _ h)).trans (Fr.own _ p 21 _ h)).trans (Fr.own _ p 22 _ h)).trans (Fr.own _ p 23 _ h)
theorem vq9{ρ:Nat->Nat}{w:World}{p:Nat}{x:MS}(h:MM ρ w p x)(ok:Ok x)(hx:x.count<=8) :
  Calls Tryz.prog 128 #[.pointer (some ⟨p,0,none⟩)] w fun v w'=>y0y ρ w p x.beginMember v w':=by
 have HM:Hid (MM ρ w p x∧Ok x):=⟨h,ok⟩
 have HE:Hid (x.beginMember=if (MS.need 8 x).2=0 then (if (MS.need 8 x).1.mb=(MS.need 8 x).1.me then (MS.need 8 x).1.refuse 6 else ({ (MS.need 8 x).1 with mb:=(MS.need 8 x).1.mb+1,marks:=0,head:=0,hsum:=0,sx:=1,sy:=0,size:=0,qc:=[] },0)) else MS.need 8 x):=rfl;clear h ok;go_enter Tryz.func128,Tryz.ntmps128
 go_wp2_with fail
 refine (zvo 8 HM.out.1 HM.out.2 (by omega) (by omega)).mono ?_;rintro v w1 ⟨rfl,g1,g2⟩;by_cases h0:(MS.need 8 x).2=0
 ·have k3:=MS.need_ok (k:=8) HM.out.2;rw [h0];rw [if_pos h0] at HE;obtain ⟨y,hy⟩:∃ y,y=(MS.need 8 x).1:=⟨_,rfl⟩
  rw [← hy] at g1 HE k3;have HY:Hid (MM ρ w1 p y∧Ok y∧Fr (fun k=>1<=k∧k<=5) ρ w w1):=⟨g1,k3,g2⟩
  have hmb:=k3.mbs;obtain ⟨L,B,T⟩:=g1;have c11:w1.cell? ⟨p,11,none⟩=some (.int .i64 y.mb):=B.row.cell (i:=11) (by omega);have c4:w1.cell? ⟨p,4,none⟩=some (.int .i64 y.me):=B.row.cell (i:=4) (by omega);have z11:=B.row.frozen 11;have HB:Hid (Bh ρ w p y y L w1):=⟨B,T,g2⟩
  clear B T g2 hy k3 h0;by_cases hq:y.mb=y.me
  ·rw [if_pos hq] at HE;have hqd:((y.mb:Int)==(y.me:Int))=true:=by simp [hq]
   clear hq;go_wp2_with fail
   go_quiet (fail)
   go_wp2_with fail
   refine (kv8 6 (HY.out.1.drewN _)).mono ?_;rintro v w2 ⟨rfl,g3,g4⟩;have HR:Hid (MM ρ w2 p (y.refuse 6).1∧Fr (fun k=>1<=k∧k<=5) ρ w w2):=⟨g3,(HY.out.2.2.drewN _).trans g4⟩
   clear g3 g4;go_wp2_with fail
   go_ret
   unfold y0y;rw [HE.out];exact ⟨rfl,HR.out⟩
  ·rw [if_neg hq] at HE;have hqd:((y.mb:Int)==(y.me:Int))=false:=by simp;omega
   have hm1:y.mb+1<=9223372036854775807:=by omega
   clear hq;go_wp2_with fail
   go_quiet (fail)
   go_wp2_with fail
   have HB2:Hid (Bh ρ w p { y with mb:=y.mb+1 } y L ((w1.drewN nq).setCell ⟨p,11,none⟩ (.int .i64 (y.mb+1:Nat)))):=(HB.out.drewN nq).set 11 _ rfl ⟨rfl,rfl⟩;have e1:((y.mb+1:Nat):Int)=(y.mb:Int)+1:=by omega
   rw [e1] at HB2;refine (kmk _).mono ?_;rintro v w3 ⟨rfl,b3⟩;have HB3:Hid (Bh ρ w p { y with mb:=y.mb+1 } y L w3):=HB2.out.below b3;clear b3 HB2;have d18:w3.cell? ⟨p,18,none⟩=some (.int .u8 y.marks):=HB3.out.mb.row.cell (i:=18) (by omega);have d19:w3.cell? ⟨p,19,none⟩=some (.int .i64 y.head):=HB3.out.mb.row.cell (i:=19) (by omega);have d20:w3.cell? ⟨p,20,none⟩=some (.int .u8 y.hsum):=HB3.out.mb.row.cell (i:=20) (by omega);have d21:w3.cell? ⟨p,21,none⟩=some (.int .i64 y.sx):=HB3.out.mb.row.cell (i:=21) (by omega);have d22:w3.cell? ⟨p,22,none⟩=some (.int .i64 y.sy):=HB3.out.mb.row.cell (i:=22) (by omega);have d23:w3.cell? ⟨p,23,none⟩=some (.int .u16 y.size):=HB3.out.mb.row.cell (i:=23) (by omega);have d17:w3.cell? ⟨p,17,none⟩=some (.pointer (some ⟨L.c,0,none⟩)):=HB3.out.mb.row.cell (i:=17) (by omega);have z18:=HB3.out.mb.row.frozen 18;have z19:=HB3.out.mb.row.frozen 19;have z20:=HB3.out.mb.row.frozen 20;have z21:=HB3.out.mb.row.frozen 21;have z22:=HB3.out.mb.row.frozen 22;have z23:=HB3.out.mb.row.frozen 23;have HB4:Hid (Bh ρ w p { y with mb:=y.mb+1,marks:=0,head:=0,hsum:=0,sx:=1,sy:=0,size:=0 } y L ((((((w3.setCell ⟨p,18,none⟩ (.int .u8 0)).setCell ⟨p,19,none⟩ (.int .i64 0)).setCell ⟨p,20,none⟩ (.int .u8 0)).setCell ⟨p,21,none⟩ (.int .i64 1)).setCell ⟨p,22,none⟩ (.int .i64 0)).setCell ⟨p,23,none⟩ (.int .u16 0))):=HB3.out.next HB3.out.mb.member (Fr.member HB3.out.mb.rp _ _ _ _ _ _);go_wp2_with fail
   obtain ⟨o,f,k⟩:=HB4.out.mb.rc;refine (ve5 k).mono ?_;rintro v w5 ⟨rfl,r5,t5⟩;have HB5:Hid (Bh ρ w p { y with mb:=y.mb+1,marks:=0,head:=0,hsum:=0,sx:=1,sy:=0,size:=0,qc:=[] } y L w5):=HB4.out.next (HB4.out.mb.ringC r5 t5) (Fr.five t5 HB4.out.mb.rl.2.2.1 HB4.out.mb.rl.2.2.2 (by decide) (by decide));clear r5 t5 k;go_wp2_with fail
   go_ret
   unfold y0y;rw [HE.out];exact ⟨rfl,HB5.out.done rfl rfl rfl rfl ⟨rfl,rfl⟩⟩
 ·rw [if_neg h0] at HE;obtain ⟨t,ht⟩:∃ t,t=(MS.need 8 x).2:=⟨_,rfl⟩
  have HR:Hid (MM ρ w1 p (MS.need 8 x).1∧Fr (fun k=>1<=k∧k<=5) ρ w w1∧(MS.need 8 x).2=t):=⟨g1,g2,ht.symm⟩
  rw [← ht] at h0 ⊢;have h0':((t:Int)==0)=false:=by simp;exact h0
  clear g1 g2 ht;go_wp2_with fail
  go_ret
  unfold y0y;rw [HE.out,HR.out.2.2];exact ⟨rfl,HR.out.1,HR.out.2.1⟩
structure Hc(x:MS):Prop where
 ok:Ok x
 cnt:x.count=0∨x.count=8
theorem Hc.le{x:MS}(h:Hc x):x.count<=8:=by rcases h.cnt with h | h <;> omega
theorem Hc.need{x:MS}(h:Hc x)(h0:(MS.need 8 x).2=0):Hc (MS.need 8 x).1∧(MS.need 8 x).1.count=8:=by
 have k1:=MS.need_cnt h.ok h0;have k2:=MS.need_bits h.ok h0;have:=h.cnt;have e:(MS.need 8 x).1.count=8:=by omega
 exact ⟨⟨MS.need_ok h.ok,Or.inr e⟩,e⟩
theorem Hc.takeHead{x:MS}(h:Hc x)(h0:x.takeHead.2.1=0):Hc x.takeHead.1∧x.takeHead.1.fm=x.fm∧x.takeHead.1.count=0:=by
 obtain ⟨o,k⟩:=MS.takeHead_facts h.ok h.le;obtain ⟨_,_,_,k4⟩:=k h0;have hf:x.takeHead.1.fm=x.fm:=by rw [k4]
 have hn:(MS.need 8 x).2=0:=by
  apply Classical.byContradiction;intro hn;unfold MS.takeHead at h0;rw [if_pos hn] at h0;exact hn h0
 have hc:x.takeHead.1.count=0:=by
  have e:=(h.need hn).2;unfold MS.takeHead at h0 ⊢;rw [if_neg (by rw [hn];simp)] at h0 ⊢;by_cases hq:(MS.need 8 x).1.head=(MS.need 8 x).1.he
  ·rw [if_pos hq] at h0;cases h0
  ·rw [if_neg hq];show (MS.need 8 x).1.count - 8=0;omega
 exact ⟨⟨o,Or.inl hc⟩,hf,hc⟩
theorem Hc.passByte{x:MS}(h:Hc x){want:Nat}(h0:(MS.passByte want x).2=0):Hc (MS.passByte want x).1∧(MS.passByte want x).1.fm=x.fm:=by
 have e:MS.passByte want x=if x.takeHead.2.1=0 then (if x.takeHead.2.2=want then (x.takeHead.1,0) else x.takeHead.1.refuse 4) else (x.takeHead.1,x.takeHead.2.1):=rfl;rw [e] at h0 ⊢;by_cases ht:x.takeHead.2.1=0
 ·rw [if_pos ht] at h0 ⊢;by_cases hw:x.takeHead.2.2=want
  ·rw [if_pos hw];exact ⟨(h.takeHead ht).1,(h.takeHead ht).2.1⟩
  ·rw [if_neg hw] at h0;cases h0
 ·rw [if_neg ht] at h0;exact absurd h0 ht
theorem Hc.passFixed{x:MS}(h:Hc x){want:Nat}(h0:(MS.passFixed want x).2=0):Hc (MS.passFixed want x).1∧(MS.passFixed want x).1.fm=x.fm:=by
 unfold MS.passFixed at *;by_cases hf:x.fm=0
 ·rw [if_pos hf];exact ⟨h,rfl⟩
 ·rw [if_neg hf] at h0 ⊢;exact h.passByte h0
theorem Hc.passMarks{x:MS}(h:Hc x)(h0:x.passMarks.2=0):Hc x.passMarks.1∧x.passMarks.1.fm=x.fm:=by
 have e:x.passMarks=if x.fm=2 then (if x.takeHead.2.1=0 then (if 7<x.takeHead.2.2 then x.takeHead.1.refuse 4 else ({ x.takeHead.1 with marks:=x.takeHead.2.2 },0)) else (x.takeHead.1,x.takeHead.2.1)) else (x,0):=rfl;rw [e] at h0 ⊢;by_cases hf:x.fm=2
 ·rw [if_pos hf] at h0 ⊢;by_cases ht:x.takeHead.2.1=0
  ·rw [if_pos ht] at h0 ⊢;by_cases hw:7<x.takeHead.2.2
   ·rw [if_pos hw] at h0;cases h0
   ·rw [if_neg hw];exact ⟨⟨{ (h.takeHead ht).1.ok with marks:=by show x.takeHead.2.2<256;omega },(h.takeHead ht).1.cnt⟩,(h.takeHead ht).2.1⟩
  ·rw [if_neg ht] at h0;exact absurd h0 ht
 ·rw [if_neg hf];exact ⟨h,rfl⟩
theorem Hc.textL:∀ (f:Nat) {x:MS},Hc x->(MS.textL f x).2=0->Hc (MS.textL f x).1∧(MS.textL f x).1.fm=x.fm
 | 0,x,h,h0=>by cases h0
 | f+1,x,h,h0=>by
  unfold MS.textL at h0 ⊢;by_cases hq:x.takeHead.2.1≠0∨x.takeHead.2.2=0
  ·rw [if_pos hq] at h0 ⊢;exact ⟨(h.takeHead h0).1,(h.takeHead h0).2.1⟩
  ·rw [if_neg hq] at h0 ⊢;have ht:x.takeHead.2.1=0:=Classical.byContradiction fun hn=>hq (Or.inl hn)
   obtain ⟨a,b⟩:=Hc.textL f (h.takeHead ht).1 h0;exact ⟨a,b.trans (h.takeHead ht).2.1⟩
theorem Hc.passText{x:MS}(h:Hc x){m:Nat}(h0:(MS.passText m x).2=0):Hc (MS.passText m x).1∧(MS.passText m x).1.fm=x.fm:=by
 unfold MS.passText at *;by_cases hq:x.marks / m%2=0
 ·rw [if_pos hq];exact ⟨h,rfl⟩
 ·rw [if_neg hq] at h0 ⊢;exact Hc.textL _ h h0
theorem Hc.passCheck{x:MS}(h:Hc x)(h0:x.passCheck.2=0):Hc x.passCheck.1∧x.passCheck.1.fm=x.fm:=by
 unfold MS.passCheck at *;by_cases hq:x.marks / 4%2=0
 ·rw [if_pos hq];exact ⟨h,rfl⟩
 ·rw [if_neg hq] at h0 ⊢;exact h.passByte h0
theorem Hc.beginMember{x:MS}(h:Hc x)(h0:x.beginMember.2=0):Hc x.beginMember.1∧x.beginMember.1.fm=x.fm:=by
 have e:x.beginMember=if (MS.need 8 x).2=0 then (if (MS.need 8 x).1.mb=(MS.need 8 x).1.me then (MS.need 8 x).1.refuse 6 else ({ (MS.need 8 x).1 with mb:=(MS.need 8 x).1.mb+1,marks:=0,head:=0,hsum:=0,sx:=1,sy:=0,size:=0,qc:=[] },0)) else MS.need 8 x:=rfl;rw [e] at h0 ⊢;by_cases hn:(MS.need 8 x).2=0
 ·rw [if_pos hn] at h0 ⊢;by_cases hq:(MS.need 8 x).1.mb=(MS.need 8 x).1.me
  ·rw [if_pos hq] at h0;cases h0
  ·rw [if_neg hq];have k:=(h.need hn).1;have hf:(MS.need 8 x).1.fm=x.fm:=by rw [MS.need_same h.ok hn]
   exact ⟨⟨{ k.ok with mbs:=⟨by have:=k.ok.mbs.1;show (MS.need 8 x).1.mb+1<=(MS.need 8 x).1.me;omega,k.ok.mbs.2⟩,hd:=⟨Nat.zero_le _,k.ok.hd.2⟩,hsum:=by show 0<256;omega,size:=by show 0<65536;omega,marks:=by show 0<256;omega,sum:=⟨by show 1<=65520;omega,Nat.zero_le _⟩ },k.cnt⟩,hf⟩
 ·rw [if_neg hn] at h0;exact absurd h0 hn
theorem Ok.st{x:MS}(h:Ok x)(n:Nat):Ok { x with st:=n }:={ h with }
theorem MM.st{ρ:Nat->Nat}{w:World}{p:Nat}{x:MS}(h:MM ρ w p x)(n:Nat):MM ρ (w.setCell ⟨p,7,none⟩ (.int .i64 n)) p { x with st:=n }∧Fr (fun k=>1<=k∧k<=5) ρ w (w.setCell ⟨p,7,none⟩ (.int .i64 n)):=by
 obtain ⟨L,B,T⟩:=h;exact (((show Bh ρ w p x x L w from ⟨B,T,Fr.refl _ _ _⟩).set (z:={ x with st:=n }) 7 _ rfl ⟨rfl,rfl⟩).done rfl rfl rfl rfl ⟨rfl,rfl⟩)
theorem MM.cell7{ρ:Nat->Nat}{w:World}{p:Nat}{x:MS}(h:MM ρ w p x):w.cell? ⟨p,7,none⟩=some (.int .i64 x.st)∧w.frozen? ⟨p,7,none⟩=false:=by
 obtain ⟨L,B,T⟩:=h;exact ⟨B.row.cell (i:=7) (by omega),B.row.frozen 7⟩
theorem MM.cell0{ρ:Nat->Nat}{w:World}{p:Nat}{x:MS}(h:MM ρ w p x):w.cell? ⟨p,0,none⟩=some (.int .i64 x.fm):=by
 obtain ⟨L,B,T⟩:=h;exact B.row.cell (i:=0) (by omega)
structure Hw(ρ:Nat->Nat)(w:World)(p:Nat)(x y:MS)(w':World):Prop where
 mm:MM ρ w' p y
 hc:Hc y
 fm:y.fm=x.fm
 fr:Fr (fun k=>1<=k∧k<=5) ρ w w'
theorem Hw.next{ρ:Nat->Nat}{w w1 w2:World}{p:Nat}{x y:MS}{r:MS×Nat}(h:Hw ρ w p x y w1)(m:MM ρ w2 p r.1)(f:Fr (fun k=>1<=k∧k<=5) ρ w1 w2)(k:Hc r.1∧r.1.fm=y.fm)(n:Nat):Hw ρ w p x { r.1 with st:=n } (w2.setCell ⟨p,7,none⟩ (.int .i64 n)):=⟨(m.st n).1,⟨k.1.ok.st n,k.1.cnt⟩,k.2.trans h.fm,(h.fr.trans f).trans (m.st n).2⟩
theorem zvt(fm:Nat):MS.first fm<256:=by unfold MS.first;split <;> omega
theorem kph(fm:Nat):MS.second fm<256:=by unfold MS.second;split <;> omega
theorem vkj{ρ:Nat->Nat}{w:World}{p:Nat}{x:MS}(h:MM ρ w p x)(hc:Hc x)(hst:x.st=6) :
  Calls Tryz.prog 100 #[.pointer (some ⟨p,0,none⟩)] w fun v w'=>y0y ρ w p (MS.h6 x) v w':=by
 have H6:Hid (Hw ρ w p x x w):=⟨h,hc,rfl,Fr.refl _ _ _⟩
 have c0:=h.cell0;have c7:=h.cell7.1;rw [hst] at c7;clear h hc hst;go_enter Tryz.func100,Tryz.ntmps100
 go_wp2_with fail
 refine (zgi x.fm w).mono ?_;rintro v w' ⟨rfl,rfl⟩;obtain ⟨b1,hb1⟩:∃ b,b=MS.first x.fm:=⟨_,rfl⟩
 obtain ⟨b2,hb2⟩:∃ b,b=MS.second x.fm:=⟨_,rfl⟩
 rw [← hb1,← hb2];have HB1:Hid (b1=MS.first x.fm):=hb1;have HB2:Hid (b2=MS.second x.fm):=hb2;clear hb1 hb2;go_wp2_with fail
 refine (xj1 H6.out.mm H6.out.hc.ok (Or.inl H6.out.hc.le)).mono ?_;rintro v w7 ⟨rfl,g1,g2⟩;have R6':Hid (MS.h6 x=if (x.passCheck).2=0 then ({ (x.passCheck).1 with st:=7 },0) else x.passCheck):=by
  show MS.h6 x=_;rfl
 by_cases h6:(x.passCheck).2=0
 ·rw [if_pos h6] at R6';have H7:Hid (Hw ρ w p x { (x.passCheck).1 with st:=7 } (w7.setCell ⟨p,7,none⟩ (.int .i64 (7:Nat)))):=H6.out.next g1 g2 (H6.out.hc.passCheck h6) 7;have k7:=g1.cell7;have k70:=k7.1;have k71:=k7.2;rw [h6];clear g1 g2 k7;go_wp2_with fail
  go_ret
  unfold y0y;rw [R6'.out];exact ⟨rfl,H7.out.mm,H7.out.fr⟩
 ·rw [if_neg h6] at R6';have HR:Hid (MM ρ w7 p (x.passCheck).1∧Fr (fun k=>1<=k∧k<=5) ρ w w7):=⟨g1,H6.out.fr.trans g2⟩
  obtain ⟨t,ht⟩:∃ t,t=(x.passCheck).2:=⟨_,rfl⟩
  have HT:Hid ((x.passCheck).2=t):=ht.symm;rw [← ht] at h6 ⊢;have h0':((t:Int)==0)=false:=by simp;exact h6
  clear g1 g2 ht;go_wp2_with fail
  go_ret
  unfold y0y;rw [R6'.out,HT.out];exact ⟨rfl,HR.out⟩
theorem jqj{ρ:Nat->Nat}{w:World}{p:Nat}{x:MS}(h:MM ρ w p x)(hc:Hc x)(hst:x.st=5) :
  Calls Tryz.prog 100 #[.pointer (some ⟨p,0,none⟩)] w fun v w'=>y0y ρ w p (MS.h5 x) v w':=by
 have H5:Hid (Hw ρ w p x x w):=⟨h,hc,rfl,Fr.refl _ _ _⟩
 have c0:=h.cell0;have c7:=h.cell7.1;rw [hst] at c7;clear h hc hst;go_enter Tryz.func100,Tryz.ntmps100
 go_wp2_with fail
 refine (zgi x.fm w).mono ?_;rintro v w' ⟨rfl,rfl⟩;obtain ⟨b1,hb1⟩:∃ b,b=MS.first x.fm:=⟨_,rfl⟩
 obtain ⟨b2,hb2⟩:∃ b,b=MS.second x.fm:=⟨_,rfl⟩
 rw [← hb1,← hb2];have HB1:Hid (b1=MS.first x.fm):=hb1;have HB2:Hid (b2=MS.second x.fm):=hb2;clear hb1 hb2;go_wp2_with fail
 refine (zvv 1 H5.out.mm H5.out.hc.ok (Or.inl H5.out.hc.le) (by omega)).mono ?_;rintro v w6 ⟨rfl,g1,g2⟩;have R5':Hid (MS.h5 x=if (MS.passText 2 x).2=0 then MS.h6 { (MS.passText 2 x).1 with st:=6 } else MS.passText 2 x):=by
  show MS.h5 x=_;rfl
 by_cases h5:(MS.passText 2 x).2=0
 ·rw [if_pos h5] at R5';have H6:Hid (Hw ρ w p x { (MS.passText 2 x).1 with st:=6 } (w6.setCell ⟨p,7,none⟩ (.int .i64 (6:Nat)))):=H5.out.next g1 g2 (H5.out.hc.passText h5) 6;have k7:=g1.cell7;have k70:=k7.1;have k71:=k7.2;rw [h5];clear g1 g2 k7;obtain ⟨y6,hy⟩:∃ y:MS,y={ (MS.passText 2 x).1 with st:=6 }:=⟨_,rfl⟩
  rw [← hy] at H6 R5';have R6:Hid (MS.h5 x=MS.h6 y6):=R5'.out;clear hy R5' H5;go_wp2_with fail
  refine (xj1 H6.out.mm H6.out.hc.ok (Or.inl H6.out.hc.le)).mono ?_;rintro v w7 ⟨rfl,g1,g2⟩;have R6':Hid (MS.h5 x=if (y6.passCheck).2=0 then ({ (y6.passCheck).1 with st:=7 },0) else y6.passCheck):=by
   show MS.h5 x=_;rw [R6.out];rfl
  clear R6;by_cases h6:(y6.passCheck).2=0
  ·rw [if_pos h6] at R6';have H7:Hid (Hw ρ w p x { (y6.passCheck).1 with st:=7 } (w7.setCell ⟨p,7,none⟩ (.int .i64 (7:Nat)))):=H6.out.next g1 g2 (H6.out.hc.passCheck h6) 7;have k7:=g1.cell7;have k70:=k7.1;have k71:=k7.2;rw [h6];clear g1 g2 k7;go_wp2_with fail
   go_ret
   unfold y0y;rw [R6'.out];exact ⟨rfl,H7.out.mm,H7.out.fr⟩
  ·rw [if_neg h6] at R6';have HR:Hid (MM ρ w7 p (y6.passCheck).1∧Fr (fun k=>1<=k∧k<=5) ρ w w7):=⟨g1,H6.out.fr.trans g2⟩
   obtain ⟨t,ht⟩:∃ t,t=(y6.passCheck).2:=⟨_,rfl⟩
   have HT:Hid ((y6.passCheck).2=t):=ht.symm;rw [← ht] at h6 ⊢;have h0':((t:Int)==0)=false:=by simp;exact h6
   clear g1 g2 ht;go_wp2_with fail
   go_ret
   unfold y0y;rw [R6'.out,HT.out];exact ⟨rfl,HR.out⟩
 ·rw [if_neg h5] at R5';have HR:Hid (MM ρ w6 p (MS.passText 2 x).1∧Fr (fun k=>1<=k∧k<=5) ρ w w6):=⟨g1,H5.out.fr.trans g2⟩
  obtain ⟨t,ht⟩:∃ t,t=(MS.passText 2 x).2:=⟨_,rfl⟩
  have HT:Hid ((MS.passText 2 x).2=t):=ht.symm;rw [← ht] at h5 ⊢;have h0':((t:Int)==0)=false:=by simp;exact h5
  clear g1 g2 ht;go_wp2_with fail
  go_ret
  unfold y0y;rw [R5'.out,HT.out];exact ⟨rfl,HR.out⟩
theorem zqf{ρ:Nat->Nat}{w:World}{p:Nat}{x:MS}(h:MM ρ w p x)(hc:Hc x)(hst:x.st=4) :
  Calls Tryz.prog 100 #[.pointer (some ⟨p,0,none⟩)] w fun v w'=>y0y ρ w p (MS.h4 x) v w':=by
 have H4:Hid (Hw ρ w p x x w):=⟨h,hc,rfl,Fr.refl _ _ _⟩
 have c0:=h.cell0;have c7:=h.cell7.1;rw [hst] at c7;clear h hc hst;go_enter Tryz.func100,Tryz.ntmps100
 go_wp2_with fail
 refine (zgi x.fm w).mono ?_;rintro v w' ⟨rfl,rfl⟩;obtain ⟨b1,hb1⟩:∃ b,b=MS.first x.fm:=⟨_,rfl⟩
 obtain ⟨b2,hb2⟩:∃ b,b=MS.second x.fm:=⟨_,rfl⟩
 rw [← hb1,← hb2];have HB1:Hid (b1=MS.first x.fm):=hb1;have HB2:Hid (b2=MS.second x.fm):=hb2;clear hb1 hb2;go_wp2_with fail
 refine (zvv 0 H4.out.mm H4.out.hc.ok (Or.inl H4.out.hc.le) (by omega)).mono ?_;rintro v w5 ⟨rfl,g1,g2⟩;have R4':Hid (MS.h4 x=if (MS.passText 1 x).2=0 then MS.h5 { (MS.passText 1 x).1 with st:=5 } else MS.passText 1 x):=by
  show MS.h4 x=_;rfl
 by_cases h4:(MS.passText 1 x).2=0
 ·rw [if_pos h4] at R4';have H5:Hid (Hw ρ w p x { (MS.passText 1 x).1 with st:=5 } (w5.setCell ⟨p,7,none⟩ (.int .i64 (5:Nat)))):=H4.out.next g1 g2 (H4.out.hc.passText h4) 5;have k7:=g1.cell7;have k70:=k7.1;have k71:=k7.2;rw [h4];clear g1 g2 k7;obtain ⟨y5,hy⟩:∃ y:MS,y={ (MS.passText 1 x).1 with st:=5 }:=⟨_,rfl⟩
  rw [← hy] at H5 R4';have R5:Hid (MS.h4 x=MS.h5 y5):=R4'.out;clear hy R4' H4;go_wp2_with fail
  refine (zvv 1 H5.out.mm H5.out.hc.ok (Or.inl H5.out.hc.le) (by omega)).mono ?_;rintro v w6 ⟨rfl,g1,g2⟩;have R5':Hid (MS.h4 x=if (MS.passText 2 y5).2=0 then MS.h6 { (MS.passText 2 y5).1 with st:=6 } else MS.passText 2 y5):=by
   show MS.h4 x=_;rw [R5.out];rfl
  clear R5;by_cases h5:(MS.passText 2 y5).2=0
  ·rw [if_pos h5] at R5';have H6:Hid (Hw ρ w p x { (MS.passText 2 y5).1 with st:=6 } (w6.setCell ⟨p,7,none⟩ (.int .i64 (6:Nat)))):=H5.out.next g1 g2 (H5.out.hc.passText h5) 6;have k7:=g1.cell7;have k70:=k7.1;have k71:=k7.2;rw [h5];clear g1 g2 k7;obtain ⟨y6,hy⟩:∃ y:MS,y={ (MS.passText 2 y5).1 with st:=6 }:=⟨_,rfl⟩
   rw [← hy] at H6 R5';have R6:Hid (MS.h4 x=MS.h6 y6):=R5'.out;clear hy R5' H5;go_wp2_with fail
   refine (xj1 H6.out.mm H6.out.hc.ok (Or.inl H6.out.hc.le)).mono ?_;rintro v w7 ⟨rfl,g1,g2⟩;have R6':Hid (MS.h4 x=if (y6.passCheck).2=0 then ({ (y6.passCheck).1 with st:=7 },0) else y6.passCheck):=by
    show MS.h4 x=_;rw [R6.out];rfl
   clear R6;by_cases h6:(y6.passCheck).2=0
   ·rw [if_pos h6] at R6';have H7:Hid (Hw ρ w p x { (y6.passCheck).1 with st:=7 } (w7.setCell ⟨p,7,none⟩ (.int .i64 (7:Nat)))):=H6.out.next g1 g2 (H6.out.hc.passCheck h6) 7;have k7:=g1.cell7;have k70:=k7.1;have k71:=k7.2;rw [h6];clear g1 g2 k7;go_wp2_with fail
    go_ret
    unfold y0y;rw [R6'.out];exact ⟨rfl,H7.out.mm,H7.out.fr⟩
   ·rw [if_neg h6] at R6';have HR:Hid (MM ρ w7 p (y6.passCheck).1∧Fr (fun k=>1<=k∧k<=5) ρ w w7):=⟨g1,H6.out.fr.trans g2⟩
    obtain ⟨t,ht⟩:∃ t,t=(y6.passCheck).2:=⟨_,rfl⟩
    have HT:Hid ((y6.passCheck).2=t):=ht.symm;rw [← ht] at h6 ⊢;have h0':((t:Int)==0)=false:=by simp;exact h6
    clear g1 g2 ht;go_wp2_with fail
    go_ret
    unfold y0y;rw [R6'.out,HT.out];exact ⟨rfl,HR.out⟩
  ·rw [if_neg h5] at R5';have HR:Hid (MM ρ w6 p (MS.passText 2 y5).1∧Fr (fun k=>1<=k∧k<=5) ρ w w6):=⟨g1,H5.out.fr.trans g2⟩
   obtain ⟨t,ht⟩:∃ t,t=(MS.passText 2 y5).2:=⟨_,rfl⟩
   have HT:Hid ((MS.passText 2 y5).2=t):=ht.symm;rw [← ht] at h5 ⊢;have h0':((t:Int)==0)=false:=by simp;exact h5
   clear g1 g2 ht;go_wp2_with fail
   go_ret
   unfold y0y;rw [R5'.out,HT.out];exact ⟨rfl,HR.out⟩
 ·rw [if_neg h4] at R4';have HR:Hid (MM ρ w5 p (MS.passText 1 x).1∧Fr (fun k=>1<=k∧k<=5) ρ w w5):=⟨g1,H4.out.fr.trans g2⟩
  obtain ⟨t,ht⟩:∃ t,t=(MS.passText 1 x).2:=⟨_,rfl⟩
  have HT:Hid ((MS.passText 1 x).2=t):=ht.symm;rw [← ht] at h4 ⊢;have h0':((t:Int)==0)=false:=by simp;exact h4
  clear g1 g2 ht;go_wp2_with fail
  go_ret
  unfold y0y;rw [R4'.out,HT.out];exact ⟨rfl,HR.out⟩
theorem x0l{ρ:Nat->Nat}{w:World}{p:Nat}{x:MS}(h:MM ρ w p x)(hc:Hc x)(hst:x.st=3) :
  Calls Tryz.prog 100 #[.pointer (some ⟨p,0,none⟩)] w fun v w'=>y0y ρ w p (MS.h3 x) v w':=by
 have H3:Hid (Hw ρ w p x x w):=⟨h,hc,rfl,Fr.refl _ _ _⟩
 have c0:=h.cell0;have c7:=h.cell7.1;rw [hst] at c7;clear h hc hst;go_enter Tryz.func100,Tryz.ntmps100
 go_wp2_with fail
 refine (zgi x.fm w).mono ?_;rintro v w' ⟨rfl,rfl⟩;obtain ⟨b1,hb1⟩:∃ b,b=MS.first x.fm:=⟨_,rfl⟩
 obtain ⟨b2,hb2⟩:∃ b,b=MS.second x.fm:=⟨_,rfl⟩
 rw [← hb1,← hb2];have HB1:Hid (b1=MS.first x.fm):=hb1;have HB2:Hid (b2=MS.second x.fm):=hb2;clear hb1 hb2;go_wp2_with fail
 refine (xdp H3.out.mm H3.out.hc.ok (Or.inl H3.out.hc.le)).mono ?_;rintro v w4 ⟨rfl,g1,g2⟩;have R3':Hid (MS.h3 x=if (x.passMarks).2=0 then MS.h4 { (x.passMarks).1 with st:=4 } else x.passMarks):=by
  show MS.h3 x=_;rfl
 by_cases h3:(x.passMarks).2=0
 ·rw [if_pos h3] at R3';have H4:Hid (Hw ρ w p x { (x.passMarks).1 with st:=4 } (w4.setCell ⟨p,7,none⟩ (.int .i64 (4:Nat)))):=H3.out.next g1 g2 (H3.out.hc.passMarks h3) 4;have k7:=g1.cell7;have k70:=k7.1;have k71:=k7.2;rw [h3];clear g1 g2 k7;obtain ⟨y4,hy⟩:∃ y:MS,y={ (x.passMarks).1 with st:=4 }:=⟨_,rfl⟩
  rw [← hy] at H4 R3';have R4:Hid (MS.h3 x=MS.h4 y4):=R3'.out;clear hy R3' H3;go_wp2_with fail
  refine (zvv 0 H4.out.mm H4.out.hc.ok (Or.inl H4.out.hc.le) (by omega)).mono ?_;rintro v w5 ⟨rfl,g1,g2⟩;have R4':Hid (MS.h3 x=if (MS.passText 1 y4).2=0 then MS.h5 { (MS.passText 1 y4).1 with st:=5 } else MS.passText 1 y4):=by
   show MS.h3 x=_;rw [R4.out];rfl
  clear R4;by_cases h4:(MS.passText 1 y4).2=0
  ·rw [if_pos h4] at R4';have H5:Hid (Hw ρ w p x { (MS.passText 1 y4).1 with st:=5 } (w5.setCell ⟨p,7,none⟩ (.int .i64 (5:Nat)))):=H4.out.next g1 g2 (H4.out.hc.passText h4) 5;have k7:=g1.cell7;have k70:=k7.1;have k71:=k7.2;rw [h4];clear g1 g2 k7;obtain ⟨y5,hy⟩:∃ y:MS,y={ (MS.passText 1 y4).1 with st:=5 }:=⟨_,rfl⟩
   rw [← hy] at H5 R4';have R5:Hid (MS.h3 x=MS.h5 y5):=R4'.out;clear hy R4' H4;go_wp2_with fail
   refine (zvv 1 H5.out.mm H5.out.hc.ok (Or.inl H5.out.hc.le) (by omega)).mono ?_;rintro v w6 ⟨rfl,g1,g2⟩;have R5':Hid (MS.h3 x=if (MS.passText 2 y5).2=0 then MS.h6 { (MS.passText 2 y5).1 with st:=6 } else MS.passText 2 y5):=by
    show MS.h3 x=_;rw [R5.out];rfl
   clear R5;by_cases h5:(MS.passText 2 y5).2=0
   ·rw [if_pos h5] at R5';have H6:Hid (Hw ρ w p x { (MS.passText 2 y5).1 with st:=6 } (w6.setCell ⟨p,7,none⟩ (.int .i64 (6:Nat)))):=H5.out.next g1 g2 (H5.out.hc.passText h5) 6;have k7:=g1.cell7;have k70:=k7.1;have k71:=k7.2;rw [h5];clear g1 g2 k7;obtain ⟨y6,hy⟩:∃ y:MS,y={ (MS.passText 2 y5).1 with st:=6 }:=⟨_,rfl⟩
    rw [← hy] at H6 R5';have R6:Hid (MS.h3 x=MS.h6 y6):=R5'.out;clear hy R5' H5;go_wp2_with fail
    refine (xj1 H6.out.mm H6.out.hc.ok (Or.inl H6.out.hc.le)).mono ?_;rintro v w7 ⟨rfl,g1,g2⟩;have R6':Hid (MS.h3 x=if (y6.passCheck).2=0 then ({ (y6.passCheck).1 with st:=7 },0) else y6.passCheck):=by
     show MS.h3 x=_;rw [R6.out];rfl
    clear R6;by_cases h6:(y6.passCheck).2=0
    ·rw [if_pos h6] at R6';have H7:Hid (Hw ρ w p x { (y6.passCheck).1 with st:=7 } (w7.setCell ⟨p,7,none⟩ (.int .i64 (7:Nat)))):=H6.out.next g1 g2 (H6.out.hc.passCheck h6) 7;have k7:=g1.cell7;have k70:=k7.1;have k71:=k7.2;rw [h6];clear g1 g2 k7;go_wp2_with fail
     go_ret
     unfold y0y;rw [R6'.out];exact ⟨rfl,H7.out.mm,H7.out.fr⟩
    ·rw [if_neg h6] at R6';have HR:Hid (MM ρ w7 p (y6.passCheck).1∧Fr (fun k=>1<=k∧k<=5) ρ w w7):=⟨g1,H6.out.fr.trans g2⟩
     obtain ⟨t,ht⟩:∃ t,t=(y6.passCheck).2:=⟨_,rfl⟩
     have HT:Hid ((y6.passCheck).2=t):=ht.symm;rw [← ht] at h6 ⊢;have h0':((t:Int)==0)=false:=by simp;exact h6
     clear g1 g2 ht;go_wp2_with fail
     go_ret
     unfold y0y;rw [R6'.out,HT.out];exact ⟨rfl,HR.out⟩
   ·rw [if_neg h5] at R5';have HR:Hid (MM ρ w6 p (MS.passText 2 y5).1∧Fr (fun k=>1<=k∧k<=5) ρ w w6):=⟨g1,H5.out.fr.trans g2⟩
    obtain ⟨t,ht⟩:∃ t,t=(MS.passText 2 y5).2:=⟨_,rfl⟩
    have HT:Hid ((MS.passText 2 y5).2=t):=ht.symm;rw [← ht] at h5 ⊢;have h0':((t:Int)==0)=false:=by simp;exact h5
    clear g1 g2 ht;go_wp2_with fail
    go_ret
    unfold y0y;rw [R5'.out,HT.out];exact ⟨rfl,HR.out⟩
  ·rw [if_neg h4] at R4';have HR:Hid (MM ρ w5 p (MS.passText 1 y4).1∧Fr (fun k=>1<=k∧k<=5) ρ w w5):=⟨g1,H4.out.fr.trans g2⟩
   obtain ⟨t,ht⟩:∃ t,t=(MS.passText 1 y4).2:=⟨_,rfl⟩
   have HT:Hid ((MS.passText 1 y4).2=t):=ht.symm;rw [← ht] at h4 ⊢;have h0':((t:Int)==0)=false:=by simp;exact h4
   clear g1 g2 ht;go_wp2_with fail
   go_ret
   unfold y0y;rw [R4'.out,HT.out];exact ⟨rfl,HR.out⟩
 ·rw [if_neg h3] at R3';have HR:Hid (MM ρ w4 p (x.passMarks).1∧Fr (fun k=>1<=k∧k<=5) ρ w w4):=⟨g1,H3.out.fr.trans g2⟩
  obtain ⟨t,ht⟩:∃ t,t=(x.passMarks).2:=⟨_,rfl⟩
  have HT:Hid ((x.passMarks).2=t):=ht.symm;rw [← ht] at h3 ⊢;have h0':((t:Int)==0)=false:=by simp;exact h3
  clear g1 g2 ht;go_wp2_with fail
  go_ret
  unfold y0y;rw [R3'.out,HT.out];exact ⟨rfl,HR.out⟩
theorem vr2{ρ:Nat->Nat}{w:World}{p:Nat}{x:MS}(h:MM ρ w p x)(hc:Hc x)(hst:x.st=2) :
  Calls Tryz.prog 100 #[.pointer (some ⟨p,0,none⟩)] w fun v w'=>y0y ρ w p (MS.h2 x) v w':=by
 have H2:Hid (Hw ρ w p x x w):=⟨h,hc,rfl,Fr.refl _ _ _⟩
 have c0:=h.cell0;have c7:=h.cell7.1;rw [hst] at c7;clear h hc hst;go_enter Tryz.func100,Tryz.ntmps100
 go_wp2_with fail
 refine (zgi x.fm w).mono ?_;rintro v w' ⟨rfl,rfl⟩;obtain ⟨b1,hb1⟩:∃ b,b=MS.first x.fm:=⟨_,rfl⟩
 obtain ⟨b2,hb2⟩:∃ b,b=MS.second x.fm:=⟨_,rfl⟩
 rw [← hb1,← hb2];have HB1:Hid (b1=MS.first x.fm):=hb1;have HB2:Hid (b2=MS.second x.fm):=hb2;clear hb1 hb2;go_wp2_with fail
 have E2:Hid (b2=MS.second x.fm):=by show b2=_;rw [H2.out.fm];exact HB2.out
 have C2:=zmn (MS.second x.fm) H2.out.mm H2.out.hc.ok (Or.inl H2.out.hc.le) (kph _);rw [← E2.out] at C2;refine C2.mono ?_;clear C2;rintro v w3 ⟨rfl,g1,g2⟩;have R2':Hid (MS.h2 x=if (MS.passFixed b2 x).2=0 then MS.h3 { (MS.passFixed b2 x).1 with st:=3 } else MS.passFixed b2 x):=by
  show MS.h2 x=_;rw [E2.out];rfl
 by_cases h2:(MS.passFixed b2 x).2=0
 ·rw [if_pos h2] at R2';have H3:Hid (Hw ρ w p x { (MS.passFixed b2 x).1 with st:=3 } (w3.setCell ⟨p,7,none⟩ (.int .i64 (3:Nat)))):=H2.out.next g1 g2 (H2.out.hc.passFixed h2) 3;have k7:=g1.cell7;have k70:=k7.1;have k71:=k7.2;rw [h2];clear g1 g2 k7;obtain ⟨y3,hy⟩:∃ y:MS,y={ (MS.passFixed b2 x).1 with st:=3 }:=⟨_,rfl⟩
  rw [← hy] at H3 R2';have R3:Hid (MS.h2 x=MS.h3 y3):=R2'.out;clear hy R2' H2;go_wp2_with fail
  refine (xdp H3.out.mm H3.out.hc.ok (Or.inl H3.out.hc.le)).mono ?_;rintro v w4 ⟨rfl,g1,g2⟩;have R3':Hid (MS.h2 x=if (y3.passMarks).2=0 then MS.h4 { (y3.passMarks).1 with st:=4 } else y3.passMarks):=by
   show MS.h2 x=_;rw [R3.out];rfl
  clear R3;by_cases h3:(y3.passMarks).2=0
  ·rw [if_pos h3] at R3';have H4:Hid (Hw ρ w p x { (y3.passMarks).1 with st:=4 } (w4.setCell ⟨p,7,none⟩ (.int .i64 (4:Nat)))):=H3.out.next g1 g2 (H3.out.hc.passMarks h3) 4;have k7:=g1.cell7;have k70:=k7.1;have k71:=k7.2;rw [h3];clear g1 g2 k7;obtain ⟨y4,hy⟩:∃ y:MS,y={ (y3.passMarks).1 with st:=4 }:=⟨_,rfl⟩
   rw [← hy] at H4 R3';have R4:Hid (MS.h2 x=MS.h4 y4):=R3'.out;clear hy R3' H3;go_wp2_with fail
   refine (zvv 0 H4.out.mm H4.out.hc.ok (Or.inl H4.out.hc.le) (by omega)).mono ?_;rintro v w5 ⟨rfl,g1,g2⟩;have R4':Hid (MS.h2 x=if (MS.passText 1 y4).2=0 then MS.h5 { (MS.passText 1 y4).1 with st:=5 } else MS.passText 1 y4):=by
    show MS.h2 x=_;rw [R4.out];rfl
   clear R4;by_cases h4:(MS.passText 1 y4).2=0
   ·rw [if_pos h4] at R4';have H5:Hid (Hw ρ w p x { (MS.passText 1 y4).1 with st:=5 } (w5.setCell ⟨p,7,none⟩ (.int .i64 (5:Nat)))):=H4.out.next g1 g2 (H4.out.hc.passText h4) 5;have k7:=g1.cell7;have k70:=k7.1;have k71:=k7.2;rw [h4];clear g1 g2 k7;obtain ⟨y5,hy⟩:∃ y:MS,y={ (MS.passText 1 y4).1 with st:=5 }:=⟨_,rfl⟩
    rw [← hy] at H5 R4';have R5:Hid (MS.h2 x=MS.h5 y5):=R4'.out;clear hy R4' H4;go_wp2_with fail
    refine (zvv 1 H5.out.mm H5.out.hc.ok (Or.inl H5.out.hc.le) (by omega)).mono ?_;rintro v w6 ⟨rfl,g1,g2⟩;have R5':Hid (MS.h2 x=if (MS.passText 2 y5).2=0 then MS.h6 { (MS.passText 2 y5).1 with st:=6 } else MS.passText 2 y5):=by
     show MS.h2 x=_;rw [R5.out];rfl
    clear R5;by_cases h5:(MS.passText 2 y5).2=0
    ·rw [if_pos h5] at R5';have H6:Hid (Hw ρ w p x { (MS.passText 2 y5).1 with st:=6 } (w6.setCell ⟨p,7,none⟩ (.int .i64 (6:Nat)))):=H5.out.next g1 g2 (H5.out.hc.passText h5) 6;have k7:=g1.cell7;have k70:=k7.1;have k71:=k7.2;rw [h5];clear g1 g2 k7;obtain ⟨y6,hy⟩:∃ y:MS,y={ (MS.passText 2 y5).1 with st:=6 }:=⟨_,rfl⟩
     rw [← hy] at H6 R5';have R6:Hid (MS.h2 x=MS.h6 y6):=R5'.out;clear hy R5' H5;go_wp2_with fail
     refine (xj1 H6.out.mm H6.out.hc.ok (Or.inl H6.out.hc.le)).mono ?_;rintro v w7 ⟨rfl,g1,g2⟩;have R6':Hid (MS.h2 x=if (y6.passCheck).2=0 then ({ (y6.passCheck).1 with st:=7 },0) else y6.passCheck):=by
      show MS.h2 x=_;rw [R6.out];rfl
     clear R6;by_cases h6:(y6.passCheck).2=0
     ·rw [if_pos h6] at R6';have H7:Hid (Hw ρ w p x { (y6.passCheck).1 with st:=7 } (w7.setCell ⟨p,7,none⟩ (.int .i64 (7:Nat)))):=H6.out.next g1 g2 (H6.out.hc.passCheck h6) 7;have k7:=g1.cell7;have k70:=k7.1;have k71:=k7.2;rw [h6];clear g1 g2 k7;go_wp2_with fail
      go_ret
      unfold y0y;rw [R6'.out];exact ⟨rfl,H7.out.mm,H7.out.fr⟩
     ·rw [if_neg h6] at R6';have HR:Hid (MM ρ w7 p (y6.passCheck).1∧Fr (fun k=>1<=k∧k<=5) ρ w w7):=⟨g1,H6.out.fr.trans g2⟩
      obtain ⟨t,ht⟩:∃ t,t=(y6.passCheck).2:=⟨_,rfl⟩
      have HT:Hid ((y6.passCheck).2=t):=ht.symm;rw [← ht] at h6 ⊢;have h0':((t:Int)==0)=false:=by simp;exact h6
      clear g1 g2 ht;go_wp2_with fail
      go_ret
      unfold y0y;rw [R6'.out,HT.out];exact ⟨rfl,HR.out⟩
    ·rw [if_neg h5] at R5';have HR:Hid (MM ρ w6 p (MS.passText 2 y5).1∧Fr (fun k=>1<=k∧k<=5) ρ w w6):=⟨g1,H5.out.fr.trans g2⟩
     obtain ⟨t,ht⟩:∃ t,t=(MS.passText 2 y5).2:=⟨_,rfl⟩
     have HT:Hid ((MS.passText 2 y5).2=t):=ht.symm;rw [← ht] at h5 ⊢;have h0':((t:Int)==0)=false:=by simp;exact h5
     clear g1 g2 ht;go_wp2_with fail
     go_ret
     unfold y0y;rw [R5'.out,HT.out];exact ⟨rfl,HR.out⟩
   ·rw [if_neg h4] at R4';have HR:Hid (MM ρ w5 p (MS.passText 1 y4).1∧Fr (fun k=>1<=k∧k<=5) ρ w w5):=⟨g1,H4.out.fr.trans g2⟩
    obtain ⟨t,ht⟩:∃ t,t=(MS.passText 1 y4).2:=⟨_,rfl⟩
    have HT:Hid ((MS.passText 1 y4).2=t):=ht.symm;rw [← ht] at h4 ⊢;have h0':((t:Int)==0)=false:=by simp;exact h4
    clear g1 g2 ht;go_wp2_with fail
    go_ret
    unfold y0y;rw [R4'.out,HT.out];exact ⟨rfl,HR.out⟩
  ·rw [if_neg h3] at R3';have HR:Hid (MM ρ w4 p (y3.passMarks).1∧Fr (fun k=>1<=k∧k<=5) ρ w w4):=⟨g1,H3.out.fr.trans g2⟩
   obtain ⟨t,ht⟩:∃ t,t=(y3.passMarks).2:=⟨_,rfl⟩
   have HT:Hid ((y3.passMarks).2=t):=ht.symm;rw [← ht] at h3 ⊢;have h0':((t:Int)==0)=false:=by simp;exact h3
   clear g1 g2 ht;go_wp2_with fail
   go_ret
   unfold y0y;rw [R3'.out,HT.out];exact ⟨rfl,HR.out⟩
 ·rw [if_neg h2] at R2';have HR:Hid (MM ρ w3 p (MS.passFixed b2 x).1∧Fr (fun k=>1<=k∧k<=5) ρ w w3):=⟨g1,H2.out.fr.trans g2⟩
  obtain ⟨t,ht⟩:∃ t,t=(MS.passFixed b2 x).2:=⟨_,rfl⟩
  have HT:Hid ((MS.passFixed b2 x).2=t):=ht.symm;rw [← ht] at h2 ⊢;have h0':((t:Int)==0)=false:=by simp;exact h2
  clear g1 g2 ht;go_wp2_with fail
  go_ret
  unfold y0y;rw [R2'.out,HT.out];exact ⟨rfl,HR.out⟩
theorem y1s{ρ:Nat->Nat}{w:World}{p:Nat}{x:MS}(h:MM ρ w p x)(hc:Hc x)(hst:x.st=1) :
  Calls Tryz.prog 100 #[.pointer (some ⟨p,0,none⟩)] w fun v w'=>y0y ρ w p (MS.h1 x) v w':=by
 have H1:Hid (Hw ρ w p x x w):=⟨h,hc,rfl,Fr.refl _ _ _⟩
 have c0:=h.cell0;have c7:=h.cell7.1;rw [hst] at c7;clear h hc hst;go_enter Tryz.func100,Tryz.ntmps100
 go_wp2_with fail
 refine (zgi x.fm w).mono ?_;rintro v w' ⟨rfl,rfl⟩;obtain ⟨b1,hb1⟩:∃ b,b=MS.first x.fm:=⟨_,rfl⟩
 obtain ⟨b2,hb2⟩:∃ b,b=MS.second x.fm:=⟨_,rfl⟩
 rw [← hb1,← hb2];have HB1:Hid (b1=MS.first x.fm):=hb1;have HB2:Hid (b2=MS.second x.fm):=hb2;clear hb1 hb2;go_wp2_with fail
 have E1:Hid (b1=MS.first x.fm):=by show b1=_;rw [H1.out.fm];exact HB1.out
 have C1:=zmn (MS.first x.fm) H1.out.mm H1.out.hc.ok (Or.inl H1.out.hc.le) (zvt _);rw [← E1.out] at C1;refine C1.mono ?_;clear C1;rintro v w2 ⟨rfl,g1,g2⟩;have R1':Hid (MS.h1 x=if (MS.passFixed b1 x).2=0 then MS.h2 { (MS.passFixed b1 x).1 with st:=2 } else MS.passFixed b1 x):=by
  show MS.h1 x=_;rw [E1.out];rfl
 by_cases h1:(MS.passFixed b1 x).2=0
 ·rw [if_pos h1] at R1';have H2:Hid (Hw ρ w p x { (MS.passFixed b1 x).1 with st:=2 } (w2.setCell ⟨p,7,none⟩ (.int .i64 (2:Nat)))):=H1.out.next g1 g2 (H1.out.hc.passFixed h1) 2;have k7:=g1.cell7;have k70:=k7.1;have k71:=k7.2;rw [h1];clear g1 g2 k7;obtain ⟨y2,hy⟩:∃ y:MS,y={ (MS.passFixed b1 x).1 with st:=2 }:=⟨_,rfl⟩
  rw [← hy] at H2 R1';have R2:Hid (MS.h1 x=MS.h2 y2):=R1'.out;clear hy R1' H1;go_wp2_with fail
  have E2:Hid (b2=MS.second y2.fm):=by show b2=_;rw [H2.out.fm];exact HB2.out
  have C2:=zmn (MS.second y2.fm) H2.out.mm H2.out.hc.ok (Or.inl H2.out.hc.le) (kph _);rw [← E2.out] at C2;refine C2.mono ?_;clear C2;rintro v w3 ⟨rfl,g1,g2⟩;have R2':Hid (MS.h1 x=if (MS.passFixed b2 y2).2=0 then MS.h3 { (MS.passFixed b2 y2).1 with st:=3 } else MS.passFixed b2 y2):=by
   show MS.h1 x=_;rw [R2.out];rw [E2.out];rfl
  clear R2;by_cases h2:(MS.passFixed b2 y2).2=0
  ·rw [if_pos h2] at R2';have H3:Hid (Hw ρ w p x { (MS.passFixed b2 y2).1 with st:=3 } (w3.setCell ⟨p,7,none⟩ (.int .i64 (3:Nat)))):=H2.out.next g1 g2 (H2.out.hc.passFixed h2) 3;have k7:=g1.cell7;have k70:=k7.1;have k71:=k7.2;rw [h2];clear g1 g2 k7;obtain ⟨y3,hy⟩:∃ y:MS,y={ (MS.passFixed b2 y2).1 with st:=3 }:=⟨_,rfl⟩
   rw [← hy] at H3 R2';have R3:Hid (MS.h1 x=MS.h3 y3):=R2'.out;clear hy R2' H2;go_wp2_with fail
   refine (xdp H3.out.mm H3.out.hc.ok (Or.inl H3.out.hc.le)).mono ?_;rintro v w4 ⟨rfl,g1,g2⟩;have R3':Hid (MS.h1 x=if (y3.passMarks).2=0 then MS.h4 { (y3.passMarks).1 with st:=4 } else y3.passMarks):=by
    show MS.h1 x=_;rw [R3.out];rfl
   clear R3;by_cases h3:(y3.passMarks).2=0
   ·rw [if_pos h3] at R3';have H4:Hid (Hw ρ w p x { (y3.passMarks).1 with st:=4 } (w4.setCell ⟨p,7,none⟩ (.int .i64 (4:Nat)))):=H3.out.next g1 g2 (H3.out.hc.passMarks h3) 4;have k7:=g1.cell7;have k70:=k7.1;have k71:=k7.2;rw [h3];clear g1 g2 k7;obtain ⟨y4,hy⟩:∃ y:MS,y={ (y3.passMarks).1 with st:=4 }:=⟨_,rfl⟩
    rw [← hy] at H4 R3';have R4:Hid (MS.h1 x=MS.h4 y4):=R3'.out;clear hy R3' H3;go_wp2_with fail
    refine (zvv 0 H4.out.mm H4.out.hc.ok (Or.inl H4.out.hc.le) (by omega)).mono ?_;rintro v w5 ⟨rfl,g1,g2⟩;have R4':Hid (MS.h1 x=if (MS.passText 1 y4).2=0 then MS.h5 { (MS.passText 1 y4).1 with st:=5 } else MS.passText 1 y4):=by
     show MS.h1 x=_;rw [R4.out];rfl
    clear R4;by_cases h4:(MS.passText 1 y4).2=0
    ·rw [if_pos h4] at R4';have H5:Hid (Hw ρ w p x { (MS.passText 1 y4).1 with st:=5 } (w5.setCell ⟨p,7,none⟩ (.int .i64 (5:Nat)))):=H4.out.next g1 g2 (H4.out.hc.passText h4) 5;have k7:=g1.cell7;have k70:=k7.1;have k71:=k7.2;rw [h4];clear g1 g2 k7;obtain ⟨y5,hy⟩:∃ y:MS,y={ (MS.passText 1 y4).1 with st:=5 }:=⟨_,rfl⟩
     rw [← hy] at H5 R4';have R5:Hid (MS.h1 x=MS.h5 y5):=R4'.out;clear hy R4' H4;go_wp2_with fail
     refine (zvv 1 H5.out.mm H5.out.hc.ok (Or.inl H5.out.hc.le) (by omega)).mono ?_;rintro v w6 ⟨rfl,g1,g2⟩;have R5':Hid (MS.h1 x=if (MS.passText 2 y5).2=0 then MS.h6 { (MS.passText 2 y5).1 with st:=6 } else MS.passText 2 y5):=by
      show MS.h1 x=_;rw [R5.out];rfl
     clear R5;by_cases h5:(MS.passText 2 y5).2=0
     ·rw [if_pos h5] at R5';have H6:Hid (Hw ρ w p x { (MS.passText 2 y5).1 with st:=6 } (w6.setCell ⟨p,7,none⟩ (.int .i64 (6:Nat)))):=H5.out.next g1 g2 (H5.out.hc.passText h5) 6;have k7:=g1.cell7;have k70:=k7.1;have k71:=k7.2;rw [h5];clear g1 g2 k7;obtain ⟨y6,hy⟩:∃ y:MS,y={ (MS.passText 2 y5).1 with st:=6 }:=⟨_,rfl⟩
      rw [← hy] at H6 R5';have R6:Hid (MS.h1 x=MS.h6 y6):=R5'.out;clear hy R5' H5;go_wp2_with fail
      refine (xj1 H6.out.mm H6.out.hc.ok (Or.inl H6.out.hc.le)).mono ?_;rintro v w7 ⟨rfl,g1,g2⟩;have R6':Hid (MS.h1 x=if (y6.passCheck).2=0 then ({ (y6.passCheck).1 with st:=7 },0) else y6.passCheck):=by
       show MS.h1 x=_;rw [R6.out];rfl
      clear R6;by_cases h6:(y6.passCheck).2=0
      ·rw [if_pos h6] at R6';have H7:Hid (Hw ρ w p x { (y6.passCheck).1 with st:=7 } (w7.setCell ⟨p,7,none⟩ (.int .i64 (7:Nat)))):=H6.out.next g1 g2 (H6.out.hc.passCheck h6) 7;have k7:=g1.cell7;have k70:=k7.1;have k71:=k7.2;rw [h6];clear g1 g2 k7;go_wp2_with fail
       go_ret
       unfold y0y;rw [R6'.out];exact ⟨rfl,H7.out.mm,H7.out.fr⟩
      ·rw [if_neg h6] at R6';have HR:Hid (MM ρ w7 p (y6.passCheck).1∧Fr (fun k=>1<=k∧k<=5) ρ w w7):=⟨g1,H6.out.fr.trans g2⟩
       obtain ⟨t,ht⟩:∃ t,t=(y6.passCheck).2:=⟨_,rfl⟩
       have HT:Hid ((y6.passCheck).2=t):=ht.symm;rw [← ht] at h6 ⊢;have h0':((t:Int)==0)=false:=by simp;exact h6
       clear g1 g2 ht;go_wp2_with fail
       go_ret
       unfold y0y;rw [R6'.out,HT.out];exact ⟨rfl,HR.out⟩
     ·rw [if_neg h5] at R5';have HR:Hid (MM ρ w6 p (MS.passText 2 y5).1∧Fr (fun k=>1<=k∧k<=5) ρ w w6):=⟨g1,H5.out.fr.trans g2⟩
      obtain ⟨t,ht⟩:∃ t,t=(MS.passText 2 y5).2:=⟨_,rfl⟩
      have HT:Hid ((MS.passText 2 y5).2=t):=ht.symm;rw [← ht] at h5 ⊢;have h0':((t:Int)==0)=false:=by simp;exact h5
      clear g1 g2 ht;go_wp2_with fail
      go_ret
      unfold y0y;rw [R5'.out,HT.out];exact ⟨rfl,HR.out⟩
    ·rw [if_neg h4] at R4';have HR:Hid (MM ρ w5 p (MS.passText 1 y4).1∧Fr (fun k=>1<=k∧k<=5) ρ w w5):=⟨g1,H4.out.fr.trans g2⟩
     obtain ⟨t,ht⟩:∃ t,t=(MS.passText 1 y4).2:=⟨_,rfl⟩
     have HT:Hid ((MS.passText 1 y4).2=t):=ht.symm;rw [← ht] at h4 ⊢;have h0':((t:Int)==0)=false:=by simp;exact h4
     clear g1 g2 ht;go_wp2_with fail
     go_ret
     unfold y0y;rw [R4'.out,HT.out];exact ⟨rfl,HR.out⟩
   ·rw [if_neg h3] at R3';have HR:Hid (MM ρ w4 p (y3.passMarks).1∧Fr (fun k=>1<=k∧k<=5) ρ w w4):=⟨g1,H3.out.fr.trans g2⟩
    obtain ⟨t,ht⟩:∃ t,t=(y3.passMarks).2:=⟨_,rfl⟩
    have HT:Hid ((y3.passMarks).2=t):=ht.symm;rw [← ht] at h3 ⊢;have h0':((t:Int)==0)=false:=by simp;exact h3
    clear g1 g2 ht;go_wp2_with fail
    go_ret
    unfold y0y;rw [R3'.out,HT.out];exact ⟨rfl,HR.out⟩
  ·rw [if_neg h2] at R2';have HR:Hid (MM ρ w3 p (MS.passFixed b2 y2).1∧Fr (fun k=>1<=k∧k<=5) ρ w w3):=⟨g1,H2.out.fr.trans g2⟩
   obtain ⟨t,ht⟩:∃ t,t=(MS.passFixed b2 y2).2:=⟨_,rfl⟩
   have HT:Hid ((MS.passFixed b2 y2).2=t):=ht.symm;rw [← ht] at h2 ⊢;have h0':((t:Int)==0)=false:=by simp;exact h2
   clear g1 g2 ht;go_wp2_with fail
   go_ret
   unfold y0y;rw [R2'.out,HT.out];exact ⟨rfl,HR.out⟩
 ·rw [if_neg h1] at R1';have HR:Hid (MM ρ w2 p (MS.passFixed b1 x).1∧Fr (fun k=>1<=k∧k<=5) ρ w w2):=⟨g1,H1.out.fr.trans g2⟩
  obtain ⟨t,ht⟩:∃ t,t=(MS.passFixed b1 x).2:=⟨_,rfl⟩
  have HT:Hid ((MS.passFixed b1 x).2=t):=ht.symm;rw [← ht] at h1 ⊢;have h0':((t:Int)==0)=false:=by simp;exact h1
  clear g1 g2 ht;go_wp2_with fail
  go_ret
  unfold y0y;rw [R1'.out,HT.out];exact ⟨rfl,HR.out⟩
theorem z54{ρ:Nat->Nat}{w:World}{p:Nat}{x:MS}(h:MM ρ w p x)(hc:Hc x)(hst:x.st=0) :
  Calls Tryz.prog 100 #[.pointer (some ⟨p,0,none⟩)] w fun v w'=>y0y ρ w p (MS.h0 x) v w':=by
 have H0:Hid (Hw ρ w p x x w):=⟨h,hc,rfl,Fr.refl _ _ _⟩
 have c0:=h.cell0;have c7:=h.cell7.1;rw [hst] at c7;clear h hc hst;go_enter Tryz.func100,Tryz.ntmps100
 go_wp2_with fail
 refine (zgi x.fm w).mono ?_;rintro v w' ⟨rfl,rfl⟩;obtain ⟨b1,hb1⟩:∃ b,b=MS.first x.fm:=⟨_,rfl⟩
 obtain ⟨b2,hb2⟩:∃ b,b=MS.second x.fm:=⟨_,rfl⟩
 rw [← hb1,← hb2];have HB1:Hid (b1=MS.first x.fm):=hb1;have HB2:Hid (b2=MS.second x.fm):=hb2;clear hb1 hb2;go_wp2_with fail
 refine (vq9 H0.out.mm H0.out.hc.ok H0.out.hc.le).mono ?_;rintro v w1 ⟨rfl,g1,g2⟩;have R0':Hid (MS.h0 x=if (x.beginMember).2=0 then MS.h1 { (x.beginMember).1 with st:=1 } else x.beginMember):=by
  show MS.h0 x=_;rfl
 by_cases h0:(x.beginMember).2=0
 ·rw [if_pos h0] at R0';have H1:Hid (Hw ρ w p x { (x.beginMember).1 with st:=1 } (w1.setCell ⟨p,7,none⟩ (.int .i64 (1:Nat)))):=H0.out.next g1 g2 (H0.out.hc.beginMember h0) 1;have k7:=g1.cell7;have k70:=k7.1;have k71:=k7.2;rw [h0];clear g1 g2 k7;obtain ⟨y1,hy⟩:∃ y:MS,y={ (x.beginMember).1 with st:=1 }:=⟨_,rfl⟩
  rw [← hy] at H1 R0';have R1:Hid (MS.h0 x=MS.h1 y1):=R0'.out;clear hy R0' H0;go_wp2_with fail
  have E1:Hid (b1=MS.first y1.fm):=by show b1=_;rw [H1.out.fm];exact HB1.out
  have C1:=zmn (MS.first y1.fm) H1.out.mm H1.out.hc.ok (Or.inl H1.out.hc.le) (zvt _);rw [← E1.out] at C1;refine C1.mono ?_;clear C1;rintro v w2 ⟨rfl,g1,g2⟩;have R1':Hid (MS.h0 x=if (MS.passFixed b1 y1).2=0 then MS.h2 { (MS.passFixed b1 y1).1 with st:=2 } else MS.passFixed b1 y1):=by
   show MS.h0 x=_;rw [R1.out];rw [E1.out];rfl
  clear R1;by_cases h1:(MS.passFixed b1 y1).2=0
  ·rw [if_pos h1] at R1';have H2:Hid (Hw ρ w p x { (MS.passFixed b1 y1).1 with st:=2 } (w2.setCell ⟨p,7,none⟩ (.int .i64 (2:Nat)))):=H1.out.next g1 g2 (H1.out.hc.passFixed h1) 2;have k7:=g1.cell7;have k70:=k7.1;have k71:=k7.2;rw [h1];clear g1 g2 k7;obtain ⟨y2,hy⟩:∃ y:MS,y={ (MS.passFixed b1 y1).1 with st:=2 }:=⟨_,rfl⟩
   rw [← hy] at H2 R1';have R2:Hid (MS.h0 x=MS.h2 y2):=R1'.out;clear hy R1' H1;go_wp2_with fail
   have E2:Hid (b2=MS.second y2.fm):=by show b2=_;rw [H2.out.fm];exact HB2.out
   have C2:=zmn (MS.second y2.fm) H2.out.mm H2.out.hc.ok (Or.inl H2.out.hc.le) (kph _);rw [← E2.out] at C2;refine C2.mono ?_;clear C2;rintro v w3 ⟨rfl,g1,g2⟩;have R2':Hid (MS.h0 x=if (MS.passFixed b2 y2).2=0 then MS.h3 { (MS.passFixed b2 y2).1 with st:=3 } else MS.passFixed b2 y2):=by
    show MS.h0 x=_;rw [R2.out];rw [E2.out];rfl
   clear R2;by_cases h2:(MS.passFixed b2 y2).2=0
   ·rw [if_pos h2] at R2';have H3:Hid (Hw ρ w p x { (MS.passFixed b2 y2).1 with st:=3 } (w3.setCell ⟨p,7,none⟩ (.int .i64 (3:Nat)))):=H2.out.next g1 g2 (H2.out.hc.passFixed h2) 3;have k7:=g1.cell7;have k70:=k7.1;have k71:=k7.2;rw [h2];clear g1 g2 k7;obtain ⟨y3,hy⟩:∃ y:MS,y={ (MS.passFixed b2 y2).1 with st:=3 }:=⟨_,rfl⟩
    rw [← hy] at H3 R2';have R3:Hid (MS.h0 x=MS.h3 y3):=R2'.out;clear hy R2' H2;go_wp2_with fail
    refine (xdp H3.out.mm H3.out.hc.ok (Or.inl H3.out.hc.le)).mono ?_;rintro v w4 ⟨rfl,g1,g2⟩;have R3':Hid (MS.h0 x=if (y3.passMarks).2=0 then MS.h4 { (y3.passMarks).1 with st:=4 } else y3.passMarks):=by
     show MS.h0 x=_;rw [R3.out];rfl
    clear R3;by_cases h3:(y3.passMarks).2=0
    ·rw [if_pos h3] at R3';have H4:Hid (Hw ρ w p x { (y3.passMarks).1 with st:=4 } (w4.setCell ⟨p,7,none⟩ (.int .i64 (4:Nat)))):=H3.out.next g1 g2 (H3.out.hc.passMarks h3) 4;have k7:=g1.cell7;have k70:=k7.1;have k71:=k7.2;rw [h3];clear g1 g2 k7;obtain ⟨y4,hy⟩:∃ y:MS,y={ (y3.passMarks).1 with st:=4 }:=⟨_,rfl⟩
     rw [← hy] at H4 R3';have R4:Hid (MS.h0 x=MS.h4 y4):=R3'.out;clear hy R3' H3;go_wp2_with fail
     refine (zvv 0 H4.out.mm H4.out.hc.ok (Or.inl H4.out.hc.le) (by omega)).mono ?_;rintro v w5 ⟨rfl,g1,g2⟩;have R4':Hid (MS.h0 x=if (MS.passText 1 y4).2=0 then MS.h5 { (MS.passText 1 y4).1 with st:=5 } else MS.passText 1 y4):=by
      show MS.h0 x=_;rw [R4.out];rfl
     clear R4;by_cases h4:(MS.passText 1 y4).2=0
     ·rw [if_pos h4] at R4';have H5:Hid (Hw ρ w p x { (MS.passText 1 y4).1 with st:=5 } (w5.setCell ⟨p,7,none⟩ (.int .i64 (5:Nat)))):=H4.out.next g1 g2 (H4.out.hc.passText h4) 5;have k7:=g1.cell7;have k70:=k7.1;have k71:=k7.2;rw [h4];clear g1 g2 k7;obtain ⟨y5,hy⟩:∃ y:MS,y={ (MS.passText 1 y4).1 with st:=5 }:=⟨_,rfl⟩
      rw [← hy] at H5 R4';have R5:Hid (MS.h0 x=MS.h5 y5):=R4'.out;clear hy R4' H4;go_wp2_with fail
      refine (zvv 1 H5.out.mm H5.out.hc.ok (Or.inl H5.out.hc.le) (by omega)).mono ?_;rintro v w6 ⟨rfl,g1,g2⟩;have R5':Hid (MS.h0 x=if (MS.passText 2 y5).2=0 then MS.h6 { (MS.passText 2 y5).1 with st:=6 } else MS.passText 2 y5):=by
       show MS.h0 x=_;rw [R5.out];rfl
      clear R5;by_cases h5:(MS.passText 2 y5).2=0
      ·rw [if_pos h5] at R5';have H6:Hid (Hw ρ w p x { (MS.passText 2 y5).1 with st:=6 } (w6.setCell ⟨p,7,none⟩ (.int .i64 (6:Nat)))):=H5.out.next g1 g2 (H5.out.hc.passText h5) 6;have k7:=g1.cell7;have k70:=k7.1;have k71:=k7.2;rw [h5];clear g1 g2 k7;obtain ⟨y6,hy⟩:∃ y:MS,y={ (MS.passText 2 y5).1 with st:=6 }:=⟨_,rfl⟩
       rw [← hy] at H6 R5';have R6:Hid (MS.h0 x=MS.h6 y6):=R5'.out;clear hy R5' H5;go_wp2_with fail
       refine (xj1 H6.out.mm H6.out.hc.ok (Or.inl H6.out.hc.le)).mono ?_;rintro v w7 ⟨rfl,g1,g2⟩;have R6':Hid (MS.h0 x=if (y6.passCheck).2=0 then ({ (y6.passCheck).1 with st:=7 },0) else y6.passCheck):=by
        show MS.h0 x=_;rw [R6.out];rfl
       clear R6;by_cases h6:(y6.passCheck).2=0
       ·rw [if_pos h6] at R6';have H7:Hid (Hw ρ w p x { (y6.passCheck).1 with st:=7 } (w7.setCell ⟨p,7,none⟩ (.int .i64 (7:Nat)))):=H6.out.next g1 g2 (H6.out.hc.passCheck h6) 7;have k7:=g1.cell7;have k70:=k7.1;have k71:=k7.2;rw [h6];clear g1 g2 k7;go_wp2_with fail
        go_ret
        unfold y0y;rw [R6'.out];exact ⟨rfl,H7.out.mm,H7.out.fr⟩
       ·rw [if_neg h6] at R6';have HR:Hid (MM ρ w7 p (y6.passCheck).1∧Fr (fun k=>1<=k∧k<=5) ρ w w7):=⟨g1,H6.out.fr.trans g2⟩
        obtain ⟨t,ht⟩:∃ t,t=(y6.passCheck).2:=⟨_,rfl⟩
        have HT:Hid ((y6.passCheck).2=t):=ht.symm;rw [← ht] at h6 ⊢;have h0':((t:Int)==0)=false:=by simp;exact h6
        clear g1 g2 ht;go_wp2_with fail
        go_ret
        unfold y0y;rw [R6'.out,HT.out];exact ⟨rfl,HR.out⟩
      ·rw [if_neg h5] at R5';have HR:Hid (MM ρ w6 p (MS.passText 2 y5).1∧Fr (fun k=>1<=k∧k<=5) ρ w w6):=⟨g1,H5.out.fr.trans g2⟩
       obtain ⟨t,ht⟩:∃ t,t=(MS.passText 2 y5).2:=⟨_,rfl⟩
       have HT:Hid ((MS.passText 2 y5).2=t):=ht.symm;rw [← ht] at h5 ⊢;have h0':((t:Int)==0)=false:=by simp;exact h5
       clear g1 g2 ht;go_wp2_with fail
       go_ret
       unfold y0y;rw [R5'.out,HT.out];exact ⟨rfl,HR.out⟩
     ·rw [if_neg h4] at R4';have HR:Hid (MM ρ w5 p (MS.passText 1 y4).1∧Fr (fun k=>1<=k∧k<=5) ρ w w5):=⟨g1,H4.out.fr.trans g2⟩
      obtain ⟨t,ht⟩:∃ t,t=(MS.passText 1 y4).2:=⟨_,rfl⟩
      have HT:Hid ((MS.passText 1 y4).2=t):=ht.symm;rw [← ht] at h4 ⊢;have h0':((t:Int)==0)=false:=by simp;exact h4
      clear g1 g2 ht;go_wp2_with fail
      go_ret
      unfold y0y;rw [R4'.out,HT.out];exact ⟨rfl,HR.out⟩
    ·rw [if_neg h3] at R3';have HR:Hid (MM ρ w4 p (y3.passMarks).1∧Fr (fun k=>1<=k∧k<=5) ρ w w4):=⟨g1,H3.out.fr.trans g2⟩
     obtain ⟨t,ht⟩:∃ t,t=(y3.passMarks).2:=⟨_,rfl⟩
     have HT:Hid ((y3.passMarks).2=t):=ht.symm;rw [← ht] at h3 ⊢;have h0':((t:Int)==0)=false:=by simp;exact h3
     clear g1 g2 ht;go_wp2_with fail
     go_ret
     unfold y0y;rw [R3'.out,HT.out];exact ⟨rfl,HR.out⟩
   ·rw [if_neg h2] at R2';have HR:Hid (MM ρ w3 p (MS.passFixed b2 y2).1∧Fr (fun k=>1<=k∧k<=5) ρ w w3):=⟨g1,H2.out.fr.trans g2⟩
    obtain ⟨t,ht⟩:∃ t,t=(MS.passFixed b2 y2).2:=⟨_,rfl⟩
    have HT:Hid ((MS.passFixed b2 y2).2=t):=ht.symm;rw [← ht] at h2 ⊢;have h0':((t:Int)==0)=false:=by simp;exact h2
    clear g1 g2 ht;go_wp2_with fail
    go_ret
    unfold y0y;rw [R2'.out,HT.out];exact ⟨rfl,HR.out⟩
  ·rw [if_neg h1] at R1';have HR:Hid (MM ρ w2 p (MS.passFixed b1 y1).1∧Fr (fun k=>1<=k∧k<=5) ρ w w2):=⟨g1,H1.out.fr.trans g2⟩
   obtain ⟨t,ht⟩:∃ t,t=(MS.passFixed b1 y1).2:=⟨_,rfl⟩
   have HT:Hid ((MS.passFixed b1 y1).2=t):=ht.symm;rw [← ht] at h1 ⊢;have h0':((t:Int)==0)=false:=by simp;exact h1
   clear g1 g2 ht;go_wp2_with fail
   go_ret
   unfold y0y;rw [R1'.out,HT.out];exact ⟨rfl,HR.out⟩
 ·rw [if_neg h0] at R0';have HR:Hid (MM ρ w1 p (x.beginMember).1∧Fr (fun k=>1<=k∧k<=5) ρ w w1):=⟨g1,H0.out.fr.trans g2⟩
  obtain ⟨t,ht⟩:∃ t,t=(x.beginMember).2:=⟨_,rfl⟩
  have HT:Hid ((x.beginMember).2=t):=ht.symm;rw [← ht] at h0 ⊢;have h0':((t:Int)==0)=false:=by simp;exact h0
  clear g1 g2 ht;go_wp2_with fail
  go_ret
  unfold y0y;rw [R0'.out,HT.out];exact ⟨rfl,HR.out⟩
theorem z45{ρ:Nat->Nat}{w:World}{p:Nat}{x:MS}(h:MM ρ w p x)(ok:Ok x)(hx:x.count<=63) :
  Calls Tryz.prog 135 #[.pointer (some ⟨p,0,none⟩)] w fun v w'=>y0y ρ w p x.skipBits v w':=by
 have HM:Hid (MM ρ w p x∧Ok x):=⟨h,ok⟩
 have HE:Hid (x.skipBits=if x.num x.count=0 then (x.rd x.count,0) else (x.rd x.count).refuse 8):=rfl;have c15:=h.cell15;clear h ok;have HRD:Hid (∀ n,Calls Tryz.prog 134 #[.pointer (some ⟨p,14,none⟩), .int .i64 x.count] (w.drewN n) fun v w'=>v= .returned (.int .i64 (x.num x.count))∧MM ρ w' p (x.rd x.count)∧Fr (fun k=>1<=k∧k<=5) ρ (w.drewN n) w'):=fun n=>zw3 x.count (HM.out.1.drewN n) HM.out.2 (Nat.le_refl _) hx
 obtain ⟨m,hm⟩:∃ m,m=x.num x.count:=⟨_,rfl⟩
 rw [← hm] at HE HRD;clear hm;go_enter Tryz.func135,Tryz.ntmps135
 by_cases h0:m=0
 ·rw [if_pos h0] at HE;subst h0;go_wp2_with fail
  go_region_with (go_at_call 134;refine (HRD.out 1).mono ?_;rintro e w2 ⟨rfl,g1,g2⟩;have HR:Hid (MM ρ w2 p (x.rd x.count)∧Fr (fun k=>1<=k∧k<=5) ρ w w2):=⟨g1,((Fr.refl _ _ _).drewN 1).trans g2⟩;clear g1 g2)
  all_goals
   go_wp2_with fail
   go_ret
   unfold y0y;rw [HE.out];exact ⟨rfl,HR.out⟩
 ·rw [if_neg h0] at HE;have h0':((m:Int)==0)=false:=by simp;exact h0
  go_wp2_with fail
  go_region_with (go_at_call 134;refine (HRD.out 1).mono ?_;rintro e w2 ⟨rfl,g1,g2⟩;have HR:Hid (MM ρ w2 p (x.rd x.count)∧Fr (fun k=>1<=k∧k<=5) ρ w w2):=⟨g1,((Fr.refl _ _ _).drewN 1).trans g2⟩;clear g1 g2)
  all_goals
   go_wp2_with fail
   refine (kv8 8 HR.out.1).mono ?_;rintro v w3 ⟨rfl,g3,g4⟩;have HR2:Hid (MM ρ w3 p ((x.rd x.count).refuse 8).1∧Fr (fun k=>1<=k∧k<=5) ρ w w3):=⟨g3,HR.out.2.trans g4⟩
   clear g3 g4;go_wp2_with fail
   go_ret
   unfold y0y;rw [HE.out];exact ⟨rfl,HR2.out⟩
theorem kbz{ρ:Nat->Nat}{w:World}{p:Nat}{x:MS}(h:MM ρ w p x)(ok:Ok x)(hx:x.count<=63) :
  Calls Tryz.prog 138 #[.pointer (some ⟨p,0,none⟩)] w fun v w'=>y0y ρ w p x.endBlock v w':=by
 have HM:Hid (MM ρ w p x∧Ok x):=⟨h,ok⟩
 have HEf:x.last=false->x.endBlock=({ x with st:=7 },0):=fun h=>by unfold MS.endBlock;rw [if_neg (by rw [h];decide)]
 have HEt:x.last=true->x.endBlock=MS.skipBits { x with st:=22 }:=fun h=>by unfold MS.endBlock;rw [if_pos h]
 have c24:w.cell? ⟨p,24,none⟩=some (.bool x.last):=by obtain ⟨L,B,T⟩:=h;exact B.row.cell (i:=24) (by omega)
 have c7:=h.cell7.1;have z7:=h.cell7.2;clear h ok;have H7:Hid (MM ρ (w.setCell ⟨p,7,none⟩ (.int .i64 7)) p { x with st:=7 }∧Fr (fun k=>1<=k∧k<=5) ρ w (w.setCell ⟨p,7,none⟩ (.int .i64 7))):=HM.out.1.st 7;have H22:Hid (MM ρ (w.setCell ⟨p,7,none⟩ (.int .i64 22)) p { x with st:=22 }∧Fr (fun k=>1<=k∧k<=5) ρ w (w.setCell ⟨p,7,none⟩ (.int .i64 22))):=HM.out.1.st 22;go_enter Tryz.func138,Tryz.ntmps138
 cases hla:x.last with
 | false=>
  have HE2:Hid (x.endBlock=({ x with st:=7 },0)):=HEf hla;rw [hla] at c24;clear HEf HEt hla;go_wp2_with fail
  go_ret
  unfold y0y;rw [HE2.out];exact ⟨rfl,H7.out⟩
 | true=>
  have HE2:Hid (x.endBlock=MS.skipBits { x with st:=22 }):=HEt hla;rw [hla] at c24;clear HEf HEt hla;go_wp2_with fail
  refine (z45 H22.out.1 (HM.out.2.st 22) hx).mono ?_;rintro v w1 ⟨rfl,g1,g2⟩;have HR:Hid (MM ρ w1 p (MS.skipBits { x with st:=22 }).1∧Fr (fun k=>1<=k∧k<=5) ρ w w1):=⟨g1,H22.out.2.trans g2⟩
  clear g1 g2;obtain ⟨r,hr⟩:∃ r,r=MS.skipBits { x with st:=22 }:=⟨_,rfl⟩
  rw [← hr] at HR HE2 ⊢;clear hr;go_wp2_with fail
  go_ret
  unfold y0y;rw [HE2.out];exact ⟨rfl,HR.out⟩
theorem MS.rd_rd(x:MS)(a b:Nat):(x.rd a).rd b=x.rd (a+b):=by
 unfold MS.rd;rw [show (x.held / 2^a) / 2^b=x.held / 2^(a+b) by rw [Nat.div_div_eq_div_mul,← Nat.pow_add],show x.count - a - b=x.count - (a+b) by omega]
theorem jhs{ρ:Nat->Nat}{w:World}{p:Nat}{x:MS}(h:MM ρ w p x)(ok:Ok x)(hx:x.count<=32) :
  Calls Tryz.prog 146 #[.pointer (some ⟨p,0,none⟩)] w fun v w'=>y0y ρ w p x.passSize v w':=by
 have HM:Hid (MM ρ w p x∧Ok x):=⟨h,ok⟩
 have HE:Hid (x.passSize=if x.fm=2 then (if (MS.need 16 x).2=0 then (if (MS.need 16 x).1.num 16=(MS.need 16 x).1.size then ((MS.need 16 x).1.rd 16,0) else ((MS.need 16 x).1.rd 16).refuse 13) else MS.need 16 x) else (x,0)):=rfl;have c0:=h.cell0;clear h ok;go_enter Tryz.func146,Tryz.ntmps146
 by_cases h2:x.fm=2
 ·rw [if_pos h2] at HE;have hd:((x.fm:Int)==2)=true:=by simp;omega
  clear h2;go_wp2_with fail
  refine (zvo 16 HM.out.1 HM.out.2 (by omega) (by omega)).mono ?_;rintro v w1 ⟨rfl,g1,g2⟩;by_cases h0:(MS.need 16 x).2=0
  ·have k1:=MS.need_cnt HM.out.2 h0;have k3:=MS.need_ok (k:=16) HM.out.2;rw [h0];rw [if_pos h0] at HE;obtain ⟨y,hy⟩:∃ y,y=(MS.need 16 x).1:=⟨_,rfl⟩
   rw [← hy] at g1 HE k1 k3;have HY:Hid (MM ρ w1 p y∧Ok y∧Fr (fun k=>1<=k∧k<=5) ρ w w1):=⟨g1,k3,g2⟩
   have hsz:=k3.size;have c23:w1.cell? ⟨p,23,none⟩=some (.int .u16 y.size):=by obtain ⟨L,B,T⟩:=g1;exact B.row.cell (i:=23) (by omega)
   clear g1 g2 hy k3 h0;have HRD:Hid (∀ n,Calls Tryz.prog 134 #[.pointer (some ⟨p,14,none⟩), .int .i64 (16:Nat)] (w1.drewN n) fun v w'=>v= .returned (.int .i64 (y.num 16))∧MM ρ w' p (y.rd 16)∧Fr (fun k=>1<=k∧k<=5) ρ (w1.drewN n) w'):=fun n=>zw3 16 (HY.out.1.drewN n) HY.out.2.1 k1.1 (by omega)
   have HS:Hid (∀ w',MM ρ w' p (y.rd 16)->w'.cell? ⟨p,23,none⟩=some (.int .u16 y.size)):=fun w' m=>by obtain ⟨L,B,T⟩:=m;exact B.row.cell (i:=23) (by omega)
   have hni:y.num 16<65536:=Nat.mod_lt _ (by decide);obtain ⟨m,hm⟩:∃ m,m=y.num 16:=⟨_,rfl⟩
   rw [← hm] at HE HRD hni;clear hm;have hws:IntKind.i64.wrap (y.size:Int)=(y.size:Int):=by rw [IntWalk.i64_left,IntWalk.wrap64_in _ ⟨by omega,by omega⟩]
   by_cases he:m=y.size
   ·rw [if_pos he] at HE;have hed:((m:Int) !=IntKind.i64.wrap (y.size:Int))=false:=by rw [hws];simp [he]
    clear he;go_wp2_with fail
    go_region_held3 (fun wv=>wv.cell? ⟨p,23,none⟩=some (.int .u16 y.size)) (first | exact c23 | exact d23) (first | (go_at_call 134;refine (HRD.out 1).mono ?_;rintro e w2 ⟨rfl,g1,g2⟩;have HR:Hid (MM ρ w2 p (y.rd 16)∧Fr (fun k=>1<=k∧k<=5) ρ w w2):=⟨g1,(HY.out.2.2.drewN 1).trans g2⟩;have d23:=HS.out _ g1;clear g1 g2))
    all_goals
     go_wp2_with fail
     go_ret
     unfold y0y;rw [HE.out];exact ⟨rfl,HR.out⟩
   ·rw [if_neg he] at HE;have hed:((m:Int) !=IntKind.i64.wrap (y.size:Int))=true:=by rw [hws];simp;omega
    clear he;go_wp2_with fail
    go_region_held3 (fun wv=>wv.cell? ⟨p,23,none⟩=some (.int .u16 y.size)) (first | exact c23 | exact d23) (first | (go_at_call 134;refine (HRD.out 1).mono ?_;rintro e w2 ⟨rfl,g1,g2⟩;have HR:Hid (MM ρ w2 p (y.rd 16)∧Fr (fun k=>1<=k∧k<=5) ρ w w2):=⟨g1,(HY.out.2.2.drewN 1).trans g2⟩;have d23:=HS.out _ g1;clear g1 g2))
    all_goals
     go_wp2_with fail
     refine (kv8 13 HR.out.1).mono ?_;rintro v w3 ⟨rfl,g3,g4⟩;have HR2:Hid (MM ρ w3 p ((y.rd 16).refuse 13).1∧Fr (fun k=>1<=k∧k<=5) ρ w w3):=⟨g3,HR.out.2.trans g4⟩
     clear g3 g4;go_wp2_with fail
     go_ret
     unfold y0y;rw [HE.out];exact ⟨rfl,HR2.out⟩
  ·rw [if_neg h0] at HE;obtain ⟨t,ht⟩:∃ t,t=(MS.need 16 x).2:=⟨_,rfl⟩
   have HR:Hid (MM ρ w1 p (MS.need 16 x).1∧Fr (fun k=>1<=k∧k<=5) ρ w w1∧(MS.need 16 x).2=t):=⟨g1,g2,ht.symm⟩
   rw [← ht] at h0 ⊢;have h0':((t:Int)==0)=false:=by simp;exact h0
   clear g1 g2 ht;go_wp2_with fail
   go_ret
   unfold y0y;rw [HE.out,HR.out.2.2];exact ⟨rfl,HR.out.1,HR.out.2.1⟩
 ·rw [if_neg h2] at HE;have hd:((x.fm:Int)==2)=false:=by simp;omega
  clear h2;go_wp2_with fail
  go_ret
  unfold y0y;rw [HE.out];exact ⟨rfl,HM.out.1,Fr.refl _ _ _⟩
def zji(h:Nat):Nat->Nat
 | 0=>0
 | k+1=>256*zji h k+h / 2^(8*k)%256
theorem jtg(h k:Nat):zji h k<256^k:=by
 induction k with
 | zero=>simp [zji]
 | succ k ih=>rw [zji,Nat.pow_succ];have:=Nat.mod_lt (h / 2^(8*k)) (show 0<256 by decide);omega
theorem ydi(h:Nat):zji h 4=big4 h:=by
 simp only [zji,big4];simp
theorem veq(n:Int)(h₀:0<=n)(h₁:n<2^62):IntKind.i64.wrap n=n:=by
 have:(2:Int)^62=4611686018427387904:=by decide
 rw [IntWalk.i64_left,IntWalk.wrap64_in _ ⟨by omega,by omega⟩]
theorem zr4(T b:Nat)(hT:T<16777216)(hb:b<256):bits .or .i64 ((T:Int)*256) (b:Int)=((256*T+b:Nat):Int):=by
 have h1:(2:Int)^62=4611686018427387904:=by decide
 have h2:(2:Int)^8=256:=by decide
 rw [bits_join .i64 62 (by decide) veq 8 ((T:Int)*256) (b:Int) (by omega) (by rw [h2];omega) (by omega) (by omega) (by rw [h2];omega) (by omega)];omega
theorem MM.two{ρ:Nat->Nat}{w:World}{p:Nat}{x:MS}(h:MM ρ w p x):w.cell? ⟨p,21,none⟩=some (.int .i64 x.sx)∧w.cell? ⟨p,22,none⟩=some (.int .i64 x.sy):=by
 obtain ⟨L,B,T⟩:=h;exact ⟨B.row.cell (i:=21) (by omega),B.row.cell (i:=22) (by omega)⟩
theorem ycd{ρ:Nat->Nat}{w:World}{p:Nat}{x:MS}(h:MM ρ w p x)(ok:Ok x)(hx:x.count<=32) :
  Calls Tryz.prog 145 #[.pointer (some ⟨p,0,none⟩)] w fun v w'=>y0y ρ w p x.passSum v w':=by
 have HM:Hid (MM ρ w p x∧Ok x):=⟨h,ok⟩
 have HE:Hid (x.passSum=if x.fm=0 then (x,0) else (if (MS.need 32 x).2=0 then (if big4 (MS.need 32 x).1.held=65536*(MS.need 32 x).1.sy+(MS.need 32 x).1.sx then ((MS.need 32 x).1.rd 32,0) else ((MS.need 32 x).1.rd 32).refuse 12) else MS.need 32 x)):=rfl;have c0:=h.cell0;clear h ok;go_enter Tryz.func145,Tryz.ntmps145
 by_cases h2:x.fm=0
 ·rw [if_pos h2] at HE;have hd:((x.fm:Int)==0)=true:=by simp [h2]
  clear h2;go_wp2_with fail
  go_ret
  unfold y0y;rw [HE.out];exact ⟨rfl,HM.out.1,Fr.refl _ _ _⟩
 ·rw [if_neg h2] at HE;have hd:((x.fm:Int)==0)=false:=by simp;exact h2
  clear h2;go_wp2_with fail
  refine (zvo 32 HM.out.1 HM.out.2 (by omega) (by omega)).mono ?_;rintro v w1 ⟨rfl,g1,g2⟩;by_cases h0:(MS.need 32 x).2=0
  ·have k1:=MS.need_cnt HM.out.2 h0;have k3:=MS.need_ok (k:=32) HM.out.2;rw [h0];rw [if_pos h0] at HE;obtain ⟨y,hy⟩:∃ y,y=(MS.need 32 x).1:=⟨_,rfl⟩
   rw [← hy] at g1 HE k1 k3;have hs:=k3.sum;have H0:Hid (MM ρ w1 p (y.rd (8*0))∧Ok (y.rd (8*0))∧Fr (fun k=>1<=k∧k<=5) ρ w w1):=by
    have e:y.rd (8*0)=y:=by unfold MS.rd;simp
    show _∧_∧_;rw [e];exact ⟨g1,k3,g2⟩
   clear g1 g2 hy h0 k3;go_wp2_with fail
   go_loopw [4,16] (fun t i wr=>∃ k:Nat,k<=4∧i= .int .i64 k∧t= .int .i64 (zji y.held k)∧Hid (MM ρ wr p (y.rd (8*k))∧Ok (y.rd (8*k))∧Fr (fun k=>1<=k∧k<=5) ρ w wr)) (fun _ i _=>4 - (intOf i).toNat)
   case atStart=>exact ⟨0,by omega,rfl,rfl,H0⟩
   case round=>
    clear H0;obtain ⟨k,hk,rfl,rfl,HK⟩:=hrel;by_cases hlt:k<4
    ·have hT:zji y.held k<16777216:=Nat.lt_of_lt_of_le (jtg y.held k) (by
      have:256^k<=256^3:=Nat.pow_le_pow_right (by decide) (by omega);simpa using this)
     have hcnt:8<=(y.rd (8*k)).count∧(y.rd (8*k)).count<=63:=by
      show 8<=y.count - 8*k∧y.count - 8*k<=63;omega
     have hb:(y.rd (8*k)).num 8<256:=Nat.mod_lt _ (by decide);have HOR:Hid (bits .or .i64 ((zji y.held k:Int)*256) ((y.rd (8*k)).num 8:Int)=((zji y.held (k+1):Nat):Int)):=zr4 _ _ hT hb;have HRR:Hid ((y.rd (8*k)).rd 8=y.rd (8*(k+1))):=MS.rd_rd y (8*k) 8;have HRD:Hid (Calls Tryz.prog 134 #[.pointer (some ⟨p,14,none⟩), .int .i64 (8:Nat)] wr fun v w'=>v= .returned (.int .i64 ((y.rd (8*k)).num 8))∧MM ρ w' p ((y.rd (8*k)).rd 8)∧Fr (fun k=>1<=k∧k<=5) ρ wr w'):=zw3 8 HK.out.1 HK.out.2.1 hcnt.1 hcnt.2;have HOK:Hid (Ok (y.rd (8*(k+1)))):=by show Ok _;rw [← HRR.out];exact HK.out.2.1.rd hcnt.1
     rw [HRR.out] at HRD;obtain ⟨T,hT'⟩:∃ T,T=zji y.held k:=⟨_,rfl⟩
     obtain ⟨b,hb'⟩:∃ b,b=(y.rd (8*k)).num 8:=⟨_,rfl⟩
     rw [← hT'] at hT HOR ⊢;rw [← hb'] at hb HOR HRD;clear hT' hb' hcnt;go_wp2_with fail
     refine HRD.out.mono ?_;rintro v w2 ⟨rfl,g3,g4⟩;have HN:Hid (MM ρ w2 p (y.rd (8*(k+1)))∧Ok (y.rd (8*(k+1)))∧Fr (fun k=>1<=k∧k<=5) ρ w w2):=⟨g3,HOK.out,HK.out.2.2.trans g4⟩
     clear g3 g4;go_wp2_with fail
     go_roundw
     case rel=>exact ⟨k+1,by omega,by go_num,by rw [← HOR.out],HN⟩
     case measure=>simp [intOf];omega
    ·obtain rfl:k=4:=by omega
     have HE2:Hid (x.passSum=if zji y.held 4=65536*y.sy+y.sx then (y.rd (8*4),0) else (y.rd (8*4)).refuse 12):=by show _=_;rw [ydi];exact HE.out
     have c21:wr.cell? ⟨p,21,none⟩=some (.int .i64 y.sx):=HK.out.1.two.1;have c22:wr.cell? ⟨p,22,none⟩=some (.int .i64 y.sy):=HK.out.1.two.2;have HSN:Hid (Calls Tryz.prog 112 #[.agg #[.int .i64 y.sx, .int .i64 y.sy]] wr fun e w'=>e= .returned (.int .i64 (65536*(y.sy:Int)+y.sx))∧Below wr.heap.size wr w'):=zf1 y.sx y.sy wr (by omega) (by omega);obtain ⟨z,hz⟩:∃ z,z=y.rd (8*4):=⟨_,rfl⟩
     rw [← hz] at HE2 HK;clear hz HE;obtain ⟨T,hT'⟩:∃ T,T=zji y.held 4:=⟨_,rfl⟩
     rw [← hT'] at HE2 ⊢;clear hT';by_cases he:T=65536*y.sy+y.sx
     ·rw [if_pos he] at HE2;have hed:((T:Int)==65536*(y.sy:Int)+y.sx)=true:=by simp;omega
      clear he;go_wp2_with fail
      refine HSN.out.mono ?_;rintro v w3 ⟨rfl,b3⟩;have HR:Hid (MM ρ w3 p z∧Fr (fun k=>1<=k∧k<=5) ρ w w3):=⟨HK.out.1.below b3,HK.out.2.2.trans (Fr.below b3)⟩
      clear b3;go_wp2_with fail
      go_ret
      unfold y0y;rw [HE2.out];exact ⟨rfl,HR.out⟩
     ·rw [if_neg he] at HE2;have hed:((T:Int)==65536*(y.sy:Int)+y.sx)=false:=by simp;omega
      clear he;go_wp2_with fail
      refine HSN.out.mono ?_;rintro v w3 ⟨rfl,b3⟩;have HR:Hid (MM ρ w3 p z∧Fr (fun k=>1<=k∧k<=5) ρ w w3):=⟨HK.out.1.below b3,HK.out.2.2.trans (Fr.below b3)⟩
      clear b3;go_wp2_with fail
      refine (kv8 12 HR.out.1).mono ?_;rintro v w4 ⟨rfl,g3,g4⟩;have HR2:Hid (MM ρ w4 p (z.refuse 12).1∧Fr (fun k=>1<=k∧k<=5) ρ w w4):=⟨g3,HR.out.2.trans g4⟩
      clear g3 g4;go_wp2_with fail
      go_ret
      unfold y0y;rw [HE2.out];exact ⟨rfl,HR2.out⟩
  ·rw [if_neg h0] at HE;obtain ⟨t,ht⟩:∃ t,t=(MS.need 32 x).2:=⟨_,rfl⟩
   have HR:Hid (MM ρ w1 p (MS.need 32 x).1∧Fr (fun k=>1<=k∧k<=5) ρ w w1∧(MS.need 32 x).2=t):=⟨g1,g2,ht.symm⟩
   rw [← ht] at h0 ⊢;have h0':((t:Int)==0)=false:=by simp;exact h0
   clear g1 g2 ht;go_wp2_with fail
   go_ret
   unfold y0y;rw [HE.out,HR.out.2.2];exact ⟨rfl,HR.out.1,HR.out.2.1⟩
end Go.Proofs.YtbcjmakpempkiaaGreatDoor
