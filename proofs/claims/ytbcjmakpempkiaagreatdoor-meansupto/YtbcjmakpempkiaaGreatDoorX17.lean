import Derived.Test.YtbcjmakpempkiaaGreatDoorX16
set_option maxRecDepth 100000
set_option maxHeartbeats 8000000
set_option linter.all false
namespace Go.Proofs.YtbcjmakpempkiaaGreatDoor
open Go.RowKit
structure Ok(x:MS):Prop where
 held:x.held<2^x.count
 steps:x.tk+x.pu<=x.sp
 sp:x.sp<=9223372036854775807
 quo:x.ra*x.sp+x.sl<=9223372036854775807
 ou:x.ou<=9223372036854775807
 sum:x.sx<=65520∧x.sy<=65520
 rest:∀ b∈x.rest,b<256
 hd:x.head<=x.he∧x.he<=9223372036854775807
 mbs:x.mb<=x.me∧x.me<=9223372036854775807
 hsum:x.hsum<256
 size:x.size<65536
 marks:x.marks<256
 fm:x.fm<3
theorem Ok.fed{x:MS}(h:Ok x){b:Nat}{l:List Nat}(e:x.rest=b :: l)(hs:¬ x.sp<=x.tk+x.pu):Ok (x.fed b l):=by
 have hb:b<256:=h.rest b (by rw [e];simp);have g1:x.held+2^x.count*b<2^(x.count+8):=by
  have h1:=h.held;have h2:2^x.count*(b+1)<=2^x.count*2^8:=Nat.mul_le_mul_left _ (by omega);rw [← Nat.pow_add,Nat.mul_add] at h2;omega
 have g2:x.tk+1+x.pu<=x.sp:=by omega
 exact { h with held:=g1,steps:=g2,rest:=fun c hc=>h.rest c (by rw [e];exact List.mem_cons_of_mem _ hc) }
theorem Ok.refuse{x:MS}(h:Ok x)(e:Nat):Ok (x.refuse e).1:={ h with }
theorem Ok.rd{x:MS}(h:Ok x){k:Nat}(hk:k<=x.count):Ok (x.rd k):=by
 have g:x.held / 2^k<2^(x.count - k):=by
  have h1:=h.held;rw [show x.count=k+(x.count - k) by omega,Nat.pow_add] at h1;exact Nat.div_lt_of_lt_mul h1
 exact { h with held:=g }
theorem StrO.below{w w':World}{ad:Option Addr}{P:List ByteArray}(h:StrO w ad P)(b:Below w.heap.size w w'):StrO w' ad P:=h.kp (R:=fun _=>False) (ρ:=fun k=>k) (Kp.of_below b) (fun _ _ _ e=>e)
theorem SupP.below{ρ:Nat->Nat}{w w':World}{v:Value}{sa:Nat}{rest:List Nat}{ad:Option Addr}{P:List ByteArray}{cap:Nat}(h:SupP ρ w v sa rest ad P cap)(b:Below w.heap.size w w'):SupP ρ w' v sa rest ad P cap:=⟨h.v,h.str.below b,h.capL,h.capM,h.each,h.le,h.rest,h.role⟩
theorem SupP.drewN{ρ:Nat->Nat}{w:World}{v:Value}{sa:Nat}{rest:List Nat}{ad:Option Addr}{P:List ByteArray}{cap:Nat}(h:SupP ρ w v sa rest ad P cap)(n:Nat):SupP ρ (w.drewN n) v sa rest ad P cap:=⟨h.v,h.str,h.capL,h.capM,h.each,h.le,h.rest,h.role⟩
theorem mt3{ρ:Nat->Nat}{w w2 w3:World}{p:Nat}{x:MS}{L:Lo}{n:Nat}{y:MS}{M:Lo}(E:zox ρ w p x L w2)(T:MT ρ w2 y M)(e:w3=((w2.drewN 1).drewN n).setCell ⟨p,13,none⟩ (.int .i64 (L.sa+1:Nat))):MB ρ w3 p x { L with sa:=L.sa+1 }∧MT ρ w3 y M∧Fr (fun k=>1<=k∧k<=5) ρ w w3:=by
 rw [e];exact ⟨((E.mb.drewN 1).drewN n).set 13 _ rfl ⟨rfl,rfl,rfl,rfl⟩ ⟨rfl,rfl⟩,((T.drewN 1).drewN n).set E.mb.rp 13 _,((E.fr.drewN 1).drewN n).trans (Fr.own _ p 13 _ E.mb.rp)⟩
theorem mt4{ρ:Nat->Nat}{w w3 w4:World}{p b:Nat}{x y:MS}{L M:Lo}{n:Nat}(h:MB ρ w3 p x M∧MT ρ w3 y L∧Fr (fun k=>1<=k∧k<=5) ρ w w3)(e:w4=((w3.drewN n).setCell ⟨p,14,none⟩ (.int .u64 (x.held+2^x.count*b:Nat))).setCell ⟨p,14+1,none⟩ (.int .i64 (x.count+8:Nat))):MB ρ w4 p { x with held:=x.held+2^x.count*b,count:=x.count+8 } M∧MT ρ w4 y L∧Fr (fun k=>1<=k∧k<=5) ρ w w4:=by
 rw [e];have rp:=h.1.rp;exact ⟨((h.1.drewN n).set (y:={ x with held:=x.held+2^x.count*b }) (M:=M) 14 _ rfl ⟨rfl,rfl,rfl,rfl⟩ ⟨rfl,rfl⟩).set 15 _ rfl ⟨rfl,rfl,rfl,rfl⟩ ⟨rfl,rfl⟩,((h.2.1.drewN n).set rp 14 _).set rp 15 _,((h.2.2.drewN n).trans (Fr.own _ p 14 _ rp)).trans (Fr.own _ p 15 _ rp)⟩
theorem x2n{ρ:Nat->Nat}{w:World}{p:Nat}{x:MS}(h:MM ρ w p x)(k:Ok x)(hc:x.count<=56) :
  Calls Tryz.prog 161 #[.pointer (some ⟨p,0,none⟩)] w fun v w'=>y0y ρ w p x.take v w':=by
 have HM:Hid (MM ρ w p x):=h;have HK:Hid (Ok x):=k;have hsum:x.tk+x.pu<=9223372036854775807:=by have:=k.steps;have:=k.sp;omega
 have hsp:=k.sp;clear h k;go_enter Tryz.func161,Tryz.ntmps161
 go_wp2_with fail
 refine (xyh HM.out).mono ?_;rintro v w1 ⟨rfl,L,E,HS⟩;by_cases hr:x.rest=[]
 ·have HR:Hid (MM ρ w1 p x.take.1∧Fr (fun k=>1<=k∧k<=5) ρ w w1):=by
   have e:x.take=(x,1):=by unfold MS.take;rw [hr];rfl
   rw [e];exact ⟨⟨L,E.mb,E.mt⟩,E.fr⟩
  have e2:x.take.2=1:=by unfold MS.take;rw [hr];rfl
  rw [decide_eq_true hr];clear HS E;go_wp2_with fail
  go_ret
  exact ⟨by rw [e2];rfl,HR.out⟩
 ·obtain ⟨ad,s,P,cap,S,hlt⟩:=HS hr;obtain ⟨hrest,S'⟩:=S.cons hlt;rw [decide_eq_false hr];have HE:Hid (zox ρ w p x L w1):=E;have HSS:Hid (SupP ρ w1 L.sv L.sa x.rest ad (s :: P) cap):=S;have HS':Hid (SupP ρ w1 L.sv (L.sa+1) (((s :: P).flatMap strN).drop (L.sa+1)) ad (s :: P) cap):=S';have HRS:Hid (x.rest=(s[L.sa]).toNat :: (((s :: P).flatMap strN).drop (L.sa+1))):=hrest;clear HS S S' hrest E;have hb256:(s[L.sa]).toNat<256:=UInt8.toNat_lt _;have c9:w1.cell? ⟨p,9,none⟩=some (.int .i64 x.tk):=HE.out.mb.row.cell (i:=9) (by omega);have c10:w1.cell? ⟨p,10,none⟩=some (.int .i64 x.pu):=HE.out.mb.row.cell (i:=10) (by omega);have c11:w1.cell? ⟨p,11,none⟩=some (.int .i64 x.mb):=HE.out.mb.row.cell (i:=11) (by omega);have a0:w1.cell? ⟨p,0,none⟩=some (.int .i64 x.fm):=HE.out.mb.row.cell (i:=0) (by omega);have a1:w1.cell? ⟨p,1,none⟩=some (.int .i64 x.ou):=HE.out.mb.row.cell (i:=1) (by omega);have a2:w1.cell? ⟨p,2,none⟩=some (.int .i64 x.ra):=HE.out.mb.row.cell (i:=2) (by omega);have a3:w1.cell? ⟨p,3,none⟩=some (.int .i64 x.sl):=HE.out.mb.row.cell (i:=3) (by omega);have a4:w1.cell? ⟨p,4,none⟩=some (.int .i64 x.me):=HE.out.mb.row.cell (i:=4) (by omega);have a5:w1.cell? ⟨p,5,none⟩=some (.int .i64 x.he):=HE.out.mb.row.cell (i:=5) (by omega);have a6:w1.cell? ⟨p,6,none⟩=some (.int .i64 x.sp):=HE.out.mb.row.cell (i:=6) (by omega);by_cases hq:x.sp<=x.tk+x.pu
  ·have HT:Hid (∀ w,Calls Tryz.prog 187 #[.agg (talV x.tk x.pu x.mb), .agg (cfgV x.fm x.ou x.ra x.sl x.me x.he x.sp)] w fun x w'=>x= .returned (.int .i64 16)∧Below w.heap.size w w'):=fun w=>by
    have:=x44 x.fm x.ou x.ra x.sl x.me x.he x.sp x.tk x.pu x.mb w hsum hsp;rw [if_pos hq] at this;exact this
   have e2:Hid (x.take=x.refuse 16):=by show x.take=_;unfold MS.take;rw [HRS.out];show (if _ then _ else _)=_;rw [if_pos hq]
   go_wp2_with fail
   go_region_with (go_at_call 187;refine (HT.out _).mono ?_;rintro e w2 ⟨rfl,hb2⟩)
   all_goals
    have HM2:Hid (MM ρ w2 p x∧Fr (fun k=>1<=k∧k<=5) ρ w w2):=⟨(MM.drewN ⟨L,HE.out.mb,HE.out.mt⟩ 1).below hb2,(HE.out.fr.drewN 1).trans (Fr.below hb2)⟩
    clear hb2;go_wp2_with fail
    refine (kv8 16 HM2.out.1).mono ?_;rintro v w3 ⟨rfl,h3,f3⟩;have HR:Hid (MM ρ w3 p (x.refuse 16).1∧Fr (fun k=>1<=k∧k<=5) ρ w w3):=⟨h3,HM2.out.2.trans f3⟩
    clear h3 f3;go_wp2_with fail
    go_ret
    unfold y0y;rw [e2.out];exact ⟨rfl,HR.out⟩
  ·have HT:Hid (∀ w,Calls Tryz.prog 187 #[.agg (talV x.tk x.pu x.mb), .agg (cfgV x.fm x.ou x.ra x.sl x.me x.he x.sp)] w fun x w'=>x= .returned (.int .i64 0)∧Below w.heap.size w w'):=fun w=>by
    have:=x44 x.fm x.ou x.ra x.sl x.me x.he x.sp x.tk x.pu x.mb w hsum hsp;rw [if_neg hq] at this;exact this
   have e2:Hid (x.take=(x.fed (s[L.sa]).toNat (((s :: P).flatMap strN).drop (L.sa+1)),0)):=by show x.take=_;unfold MS.take;rw [HRS.out];show (if _ then _ else _)=_;rw [if_neg hq]
   go_wp2_with fail
   go_region_with (go_at_call 187;refine (HT.out _).mono ?_;rintro e w2 ⟨rfl,hb2⟩)
   all_goals
    have HE2:Hid (zox ρ w p x L w2):=⟨(HE.out.mb.drewN 1).fr (Kp.of_below hb2),(HE.out.mt.drewN 1).fr (R:=fun _=>False) (Kp.of_below hb2) (fun _ e=>e.elim),(HE.out.fr.drewN 1).trans (Fr.below hb2)⟩
    have hb2':Below w1.heap.size w1 w2:=⟨hb2.os,hb2.tape,hb2.output,hb2.size,hb2.block⟩
    have HS2:Hid (SupP ρ (w2.drewN 1) L.sv L.sa x.rest ad (s :: P) cap∧MT ρ w2 { x with rest:=((s :: P).flatMap strN).drop (L.sa+1) } { L with sa:=L.sa+1 }):=⟨(HSS.out.below hb2').drewN 1,HE2.out.mt.supply (HS'.out.below hb2').shut⟩
    clear hb2';clear hb2;go_wp2_with fail
    go_region_with (first
     | (go_at_call 189;refine (je7 (HE2.out.mb.drewN 1) (HE2.out.mt.drewN 1) HS2.out.1 hlt).mono ?_;rintro e w3 ⟨rfl,n3,hw3⟩;have HB3:Hid (MB ρ w3 p x { L with sa:=L.sa+1 }∧MT ρ w3 { x with rest:=((s :: P).flatMap strN).drop (L.sa+1) } { L with sa:=L.sa+1 }∧Fr (fun k=>1<=k∧k<=5) ρ w w3):=mt3 HE2.out HS2.out.2 hw3;have k14:w3.cell? ⟨p,14,none⟩=some (.int .u64 x.held):=HB3.out.1.row.cell (i:=14) (by omega);have k15:w3.cell? ⟨p,15,none⟩=some (.int .i64 x.count):=HB3.out.1.row.cell (i:=15) (by omega);have z14:=HB3.out.1.row.frozen 14;have z15:=HB3.out.1.row.frozen 15;clear hw3)
     | (go_at_call 188;refine (z7y p 14 x.held x.count (s[L.sa]).toNat _ hb256 hc HK.out.held k14 k15 z14 z15).mono ?_;rintro e w4 ⟨rfl,n4,hw4⟩;have HB4:Hid (MB ρ w4 p { x with held:=x.held+2^x.count*(s[L.sa]).toNat,count:=x.count+8 } { L with sa:=L.sa+1 }∧MT ρ w4 { x with rest:=((s :: P).flatMap strN).drop (L.sa+1) } { L with sa:=L.sa+1 }∧Fr (fun k=>1<=k∧k<=5) ρ w w4):=mt4 HB3.out hw4;have k9:w4.cell? ⟨p,9,none⟩=some (.int .i64 x.tk):=HB4.out.1.row.cell (i:=9) (by omega);have z9:=HB4.out.1.row.frozen 9;clear hw4))
    all_goals
     go_wp2_with fail
     go_ret
     unfold y0y;rw [e2.out];have rp:=HB4.out.1.rp;refine ⟨rfl,⟨{ L with sa:=L.sa+1 },?_,?_⟩,?_⟩
     ·exact HB4.out.1.set (y:=x.fed (s[L.sa]).toNat (((s :: P).flatMap strN).drop (L.sa+1))) (M:={ L with sa:=L.sa+1 }) 9 _ rfl ⟨rfl,rfl,rfl,rfl⟩ ⟨rfl,rfl⟩
     ·exact (HB4.out.2.1.set rp 9 _).same rfl rfl rfl rfl ⟨rfl,rfl⟩
     ·exact HB4.out.2.2.trans (Fr.own _ p 9 _ rp)
theorem MS.need_done{k:Nat}{x:MS}(h:k<=x.count):MS.need k x=(x,0):=by
 unfold MS.need;cases x.rest with
 | nil=>unfold MS.needL;rw [if_pos h]
 | cons b l=>unfold MS.needL;rw [if_pos h]
theorem MS.take_nil{x:MS}(e:x.rest=[]):x.take=(x,1):=by unfold MS.take;rw [e];rfl
theorem MS.take_cons{x:MS}{b:Nat}{l:List Nat}(e:x.rest=b :: l):x.take=if x.sp<=x.tk+x.pu then x.refuse 16 else (x.fed b l,0):=by unfold MS.take;rw [e];rfl
theorem MS.need_nil{k:Nat}{x:MS}(h:¬ k<=x.count)(e:x.rest=[]):MS.need k x=(x,1):=by
 unfold MS.need;rw [e];show (if k<=x.count then _ else _)=_;rw [if_neg h]
theorem MS.need_cons{k:Nat}{x:MS}{b:Nat}{l:List Nat}(h:¬ k<=x.count)(e:x.rest=b :: l):MS.need k x=if x.sp<=x.tk+x.pu then x.refuse 16 else MS.need k (x.fed b l):=by
 unfold MS.need;rw [e];show (if k<=x.count then _ else _)=_;rw [if_neg h];rfl
theorem MS.need_take{k:Nat}{x:MS}(h:¬ k<=x.count):MS.need k x=if x.take.2=0 then MS.need k x.take.1 else x.take:=by
 cases e:x.rest with
 | nil=>rw [MS.take_nil e,MS.need_nil h e];rfl
 | cons b l=>
  rw [MS.take_cons e,MS.need_cons h e];by_cases hs:x.sp<=x.tk+x.pu
  ·rw [if_pos hs,if_pos hs];rfl
  ·rw [if_neg hs,if_neg hs];rfl
theorem Ok.take{x:MS}(h:Ok x)(h0:x.take.2=0):Ok x.take.1∧x.take.1.count=x.count+8:=by
 cases e:x.rest with
 | nil=>rw [MS.take_nil e] at h0;cases h0
 | cons b l=>
  rw [MS.take_cons e] at h0 ⊢;by_cases hs:x.sp<=x.tk+x.pu
  ·rw [if_pos hs] at h0;cases h0
  ·rw [if_neg hs];exact ⟨h.fed e hs,rfl⟩
def xq0(w:World)(p i:Nat):Nat:=match w.cell? ⟨p,i,none⟩ with | some (.int _ n)=>n.toNat | _=>0
theorem xv1{w:World}{p i:Nat}{k:IntKind}{n:Nat}(h:w.cell? ⟨p,i,none⟩=some (.int k n)):xq0 w p i=n:=by unfold xq0;rw [h];rfl
theorem MM.cell15{ρ:Nat->Nat}{w:World}{p:Nat}{x:MS}(h:MM ρ w p x):w.cell? ⟨p,15,none⟩=some (.int .i64 x.count):=by
 obtain ⟨L,B,T⟩:=h;exact B.row.cell (i:=15) (by omega)
theorem zvo{ρ:Nat->Nat}{w:World}{p:Nat}{x:MS}(k:Nat)(h:MM ρ w p x)(ok:Ok x)(hk:k<=56)(hx:x.count<=100) :
  Calls Tryz.prog 133 #[.pointer (some ⟨p,0,none⟩), .int .i64 k] w fun v w'=>y0y ρ w p (MS.need k x) v w':=by
 have H0:Hid (∃ y,MM ρ w p y∧Ok y∧MS.need k y=MS.need k x∧Fr (fun k=>1<=k∧k<=5) ρ w w∧y.count<=100):=⟨x,h,ok,rfl,Fr.refl _ _ _,hx⟩
 clear h ok hx;go_enter Tryz.func133,Tryz.ntmps133
 go_wp2_with fail
 go_loopw [] (fun wr=>Hid (∃ y,MM ρ wr p y∧Ok y∧MS.need k y=MS.need k x∧Fr (fun k=>1<=k∧k<=5) ρ w wr∧y.count<=100)) (fun wr=>k - xq0 wr p 15)
 case atStart=>exact H0
 case round=>
  clear H0;obtain ⟨y,h1,h2,h3,h4,hy⟩:=hrel.out;have c15:=h1.cell15;have e15:=xv1 c15;by_cases hlt:y.count<k
  ·have h5:MS.need k x=if y.take.2=0 then MS.need k y.take.1 else y.take:=by rw [← h3];exact MS.need_take (by omega)
   have HM:Hid (MM ρ wr p y∧Ok y∧Fr (fun k=>1<=k∧k<=5) ρ w wr):=⟨h1,h2,h4⟩
   have H5:Hid (MS.need k x=if y.take.2=0 then MS.need k y.take.1 else y.take):=h5;clear h1 h2 h3 h4 h5 hrel;go_wp2_with fail
   refine (x2n HM.out.1 HM.out.2.1 (by omega)).mono ?_;rintro v w1 ⟨rfl,g1,g2⟩;by_cases h0:y.take.2=0
   ·obtain ⟨o1,o2⟩:=HM.out.2.1.take h0;have HN:Hid (∃ y,MM ρ w1 p y∧Ok y∧MS.need k y=MS.need k x∧Fr (fun k=>1<=k∧k<=5) ρ w w1∧y.count<=100):=⟨y.take.1,g1,o1,by rw [H5.out,if_pos h0],HM.out.2.2.trans g2,by omega⟩
    have e2:=xv1 g1.cell15;rw [h0];clear g1 g2 o1;go_wp2_with fail
    go_roundw
    case rel=>exact HN
    case measure=>rw [e2,e15,o2];omega
   ·have HN:Hid (MM ρ w1 p (MS.need k x).1∧Fr (fun k=>1<=k∧k<=5) ρ w w1∧(MS.need k x).2=y.take.2):=by
     show _∧_∧_;rw [H5.out,if_neg h0];exact ⟨g1,HM.out.2.2.trans g2,rfl⟩
    obtain ⟨t,ht⟩:∃ t,t=y.take.2:=⟨_,rfl⟩
    rw [← ht] at HN h0 ⊢;have h0':((t:Int)==0)=false:=by simp;exact h0
    clear g1 g2 ht;go_wp2_with fail
    go_ret
    unfold y0y;rw [HN.out.2.2];exact ⟨rfl,HN.out.1,HN.out.2.1⟩
  ·have h5:MS.need k x=(y,0):=by rw [← h3];exact MS.need_done (by omega)
   have HM:Hid (MM ρ wr p y∧Fr (fun k=>1<=k∧k<=5) ρ w wr∧MS.need k x=(y,0)):=⟨h1,h4,h5⟩
   clear h1 h2 h3 h4 h5 hrel;go_wp2_with fail
   go_ret
   unfold y0y;rw [HM.out.2.2];exact ⟨rfl,HM.out.1,HM.out.2.1⟩
theorem MB.ra'{ρ:Nat->Nat}{w:World}{p:Nat}{x:MS}{L:Lo}(h:MB ρ w p x L):x.qa.length<=64:=by
 obtain ⟨o,f,k⟩:=h.ra;exact k.hq
theorem MB.rc'{ρ:Nat->Nat}{w:World}{p:Nat}{x:MS}{L:Lo}(h:MB ρ w p x L):x.qc.length<=256:=by
 obtain ⟨o,f,k⟩:=h.rc;exact k.hq
theorem vt9{ρ:Nat->Nat}{w:World}{p:Nat}{x:MS}{L:Lo}(b:Nat)(B:MB ρ w p x L)(hq:x.qa.length<64) :
  Calls Tryz.prog 167 #[.pointer (some ⟨L.a,0,none⟩), .int .u8 b] w fun v w'=>v= .returned (.tuple #[])∧MB ρ w' p { x with qa:=x.qa++[b] } L∧Fr (fun k=>1<=k∧k<=5) ρ w w':=by
 obtain ⟨o,f,k⟩:=B.ra;refine (yiw b k hq).mono ?_;rintro v w' ⟨rfl,⟨f',k'⟩,t⟩;exact ⟨rfl,B.ringA k' t,Fr.five t B.rl.1 B.rl.2.1 (by decide) (by decide)⟩
theorem jt4{ρ:Nat->Nat}{w:World}{p:Nat}{x:MS}{L:Lo}(b:Nat)(B:MB ρ w p x L) :
  Calls Tryz.prog 167 #[.pointer (some ⟨L.c,0,none⟩), .int .u8 b] w fun v w'=>v= .returned (.tuple #[])∧MB ρ w' p { x with qc:=MS.pushed x.qc b } L∧Fr (fun k=>1<=k∧k<=5) ρ w w':=by
 obtain ⟨o,f,k⟩:=B.rc;by_cases hq:x.qc.length=256
 ·refine (vxn b k hq).mono ?_;rintro v w' ⟨rfl,⟨f',k'⟩,t⟩;have e:MS.pushed x.qc b=x.qc.tail++[b]:=if_pos hq;rw [e];exact ⟨rfl,B.ringC k' t,Fr.five t B.rl.2.2.1 B.rl.2.2.2 (by decide) (by decide)⟩
 ·refine (yiw b k (by have:=k.hq;omega)).mono ?_;rintro v w' ⟨rfl,⟨f',k'⟩,t⟩;have e:MS.pushed x.qc b=x.qc++[b]:=if_neg hq;rw [e];exact ⟨rfl,B.ringC k' t,Fr.five t B.rl.2.2.1 B.rl.2.2.2 (by decide) (by decide)⟩
theorem sumM{ρ:Nat->Nat}{w:World}{p:Nat}{x:MS}{L:Lo}(b:Nat)(B:MB ρ w p x L)(hs:x.sx<=65520∧x.sy<=65520)(hb:b<256) :
  Calls Tryz.prog 111 #[.pointer (some ⟨p,21,none⟩), .int .u8 b] w fun v w'=>v= .returned (.tuple #[])∧MB ρ w' p { x with sx:=(x.sx+b)%65521,sy:=(x.sy+(x.sx+b)%65521)%65521 } L∧Fr (fun k=>1<=k∧k<=5) ρ w w':=by
 have c1:w.cell? ⟨p,21,none⟩=some (.int .i64 x.sx):=B.row.cell (i:=21) (by omega);have c2:w.cell? ⟨p,21+1,none⟩=some (.int .i64 x.sy):=B.row.cell (i:=22) (by omega);refine (kd6 p 21 x.sx x.sy b w (by omega) (by omega) (by omega) c1 c2 (B.row.frozen 21) (B.row.frozen 22)).mono ?_;rintro v w' ⟨rfl,n,e⟩;have e1:((x.sx:Int)+b)%65521=(((x.sx+b)%65521:Nat):Int):=by omega
 have e2:((x.sy:Int)+(((x.sx+b)%65521:Nat):Int))%65521=(((x.sy+(x.sx+b)%65521)%65521:Nat):Int):=by omega
 rw [e1,e2] at e;rw [e];exact ⟨rfl,((B.drewN n).set (y:={ x with sx:=(x.sx+b)%65521 }) (M:=L) 21 _ rfl ⟨rfl,rfl,rfl,rfl⟩ ⟨rfl,rfl⟩).set 22 _ rfl ⟨rfl,rfl,rfl,rfl⟩ ⟨rfl,rfl⟩,(((Fr.refl _ _ _).drewN n).trans (Fr.own _ p 21 _ B.rp)).trans (Fr.own _ p 22 _ B.rp)⟩
theorem j6n(n:Nat):IntKind.u16.wrap ((n:Int)+1)=(((n+1)%65536:Nat):Int):=by
 simp [IntKind.wrap,IntKind.bits,IntKind.signed]
structure Bh(ρ:Nat->Nat)(w:World)(p:Nat)(y x:MS)(L:Lo)(w':World):Prop where
 mb:MB ρ w' p y L
 mt:MT ρ w' x L
 fr:Fr (fun k=>1<=k∧k<=5) ρ w w'
theorem Bh.next{ρ:Nat->Nat}{w w1 w2:World}{p:Nat}{y z x:MS}{L:Lo}(h:Bh ρ w p y x L w1)(B:MB ρ w2 p z L)(f:Fr (fun k=>1<=k∧k<=5) ρ w1 w2):Bh ρ w p z x L w2:=⟨B,h.mt.fr5 f,h.fr.trans f⟩
theorem Bh.set{ρ:Nat->Nat}{w w1:World}{p:Nat}{y z x:MS}{L:Lo}(h:Bh ρ w p y x L w1)(i:Nat)(v:Value)(e:(k7n y L).set i v=k7n z L)(hq:z.qa=y.qa∧z.qc=y.qc):Bh ρ w p z x L (w1.setCell ⟨p,i,none⟩ v):=h.next (h.mb.set i v e ⟨rfl,rfl,rfl,rfl⟩ hq) (Fr.own _ p i _ h.mb.rp)
theorem Bh.below{ρ:Nat->Nat}{w w1 w2:World}{p:Nat}{y x:MS}{L:Lo}(h:Bh ρ w p y x L w1)(b:Below w1.heap.size w1 w2):Bh ρ w p y x L w2:=h.next (h.mb.fr (Kp.of_below b)) (Fr.below b)
theorem Bh.drewN{ρ:Nat->Nat}{w w1:World}{p:Nat}{y x:MS}{L:Lo}(h:Bh ρ w p y x L w1)(n:Nat):Bh ρ w p y x L (w1.drewN n):=h.next (h.mb.drewN n) ((Fr.refl _ _ _).drewN n)
theorem Bh.done{ρ:Nat->Nat}{w w1:World}{p:Nat}{y x:MS}{L:Lo}(h:Bh ρ w p y x L w1)(h1:y.rest=x.rest)(h2:y.hl=x.hl)(h3:y.row=x.row)(h4:y.hs=x.hs)(h5:y.la=x.la∧y.lb=x.lb):MM ρ w1 p y∧Fr (fun k=>1<=k∧k<=5) ρ w w1:=⟨⟨L,h.mb,h.mt.same h1 h2 h3 h4 h5⟩,h.fr⟩
theorem mPut{ρ:Nat->Nat}{w:World}{p:Nat}{x:MS}(b:Nat)(h:MM ρ w p x)(ok:Ok x)(hb:b<256) :
  Calls Tryz.prog 137 #[.pointer (some ⟨p,0,none⟩), .int .u8 b] w fun v w'=>y0y ρ w p (x.put b) v w':=by
 obtain ⟨L,B,T⟩:=h;have hsum:x.tk+x.pu<=9223372036854775807:=by have:=ok.steps;have:=ok.sp;omega
 have hsp:=ok.sp;have hra:x.ra*x.tk+x.sl<=9223372036854775807:=by
  have h1:=ok.quo;have h2:x.ra*x.tk<=x.ra*x.sp:=Nat.mul_le_mul_left _ (by have:=ok.steps;omega);omega
 have hqa:=B.ra';have hsz:=ok.size;have HS:Hid (x.sx<=65520∧x.sy<=65520):=ok.sum;have HB0:Hid (Bh ρ w p x x L w):=⟨B,T,Fr.refl _ _ _⟩
 have c16:w.cell? ⟨p,16,none⟩=some (.pointer (some ⟨L.a,0,none⟩)):=B.row.cell (i:=16) (by omega);have HF:Hid (Calls Tryz.prog 165 #[.pointer (some ⟨L.a,0,none⟩)] w fun v w'=>v= .returned (.bool (decide (x.qa.length=64)))∧∃ n,w'=w.drewN n):=by
  obtain ⟨o,f,k⟩:=B.ra;exact zzm k
 have HAP:Hid (∀ w,Calls Tryz.prog 166 #[.agg (talV x.tk x.pu x.mb), .agg (cfgV x.fm x.ou x.ra x.sl x.me x.he x.sp)] w fun v w'=>v= .returned (.int .i64 x.putE)∧Below w.heap.size w w'):=fun w=>xxj x.fm x.ou x.ra x.sl x.me x.he x.sp x.tk x.pu x.mb w hsum hsp hra ok.ou
 clear B T hra;go_enter Tryz.func137,Tryz.ntmps137
 go_wp2_with fail
 refine HF.out.mono ?_;rintro v w1 ⟨rfl,n1,hw1⟩;have HB1:Hid (Bh ρ w p x x L w1):=by show Bh _ _ _ _ _ _ _;rw [hw1];exact HB0.out.drewN n1
 clear hw1 HF HB0 c16;by_cases hfull:x.qa.length=64
 ·rw [decide_eq_true hfull];have e:Hid (x.put b=(x,2)):=by show x.put b=_;unfold MS.put;rw [if_pos hfull]
  have HR:=HB1.out.done rfl rfl rfl rfl ⟨rfl,rfl⟩;have HRR:Hid (MM ρ w1 p x∧Fr (fun k=>1<=k∧k<=5) ρ w w1):=HR;clear HR;go_wp2_with fail
  go_ret
  unfold y0y;rw [e.out];exact ⟨rfl,HRR.out⟩
 ·rw [decide_eq_false hfull];have hroom:x.qa.length<64:=by omega
  have c9:w1.cell? ⟨p,9,none⟩=some (.int .i64 x.tk):=HB1.out.mb.row.cell (i:=9) (by omega);have c10:w1.cell? ⟨p,10,none⟩=some (.int .i64 x.pu):=HB1.out.mb.row.cell (i:=10) (by omega);have c11:w1.cell? ⟨p,11,none⟩=some (.int .i64 x.mb):=HB1.out.mb.row.cell (i:=11) (by omega);have a0:w1.cell? ⟨p,0,none⟩=some (.int .i64 x.fm):=HB1.out.mb.row.cell (i:=0) (by omega);have a1:w1.cell? ⟨p,1,none⟩=some (.int .i64 x.ou):=HB1.out.mb.row.cell (i:=1) (by omega);have a2:w1.cell? ⟨p,2,none⟩=some (.int .i64 x.ra):=HB1.out.mb.row.cell (i:=2) (by omega);have a3:w1.cell? ⟨p,3,none⟩=some (.int .i64 x.sl):=HB1.out.mb.row.cell (i:=3) (by omega);have a4:w1.cell? ⟨p,4,none⟩=some (.int .i64 x.me):=HB1.out.mb.row.cell (i:=4) (by omega);have a5:w1.cell? ⟨p,5,none⟩=some (.int .i64 x.he):=HB1.out.mb.row.cell (i:=5) (by omega);have a6:w1.cell? ⟨p,6,none⟩=some (.int .i64 x.sp):=HB1.out.mb.row.cell (i:=6) (by omega);have HE:Hid (x.put b=if x.putE≠0 then x.refuse x.putE else (x.putted b,0)):=by show x.put b=_;unfold MS.put;rw [if_neg hfull]
  have hpu0:x.putE=0->x.pu+1<=9223372036854775807:=fun h=>by
   unfold MS.putE at h;by_cases hq:x.sp<=x.tk+x.pu
   ·rw [if_pos hq] at h;cases h
   ·omega
  obtain ⟨E,hE⟩:∃ E,E=x.putE:=⟨_,rfl⟩
  rw [← hE] at hpu0;rw [← hE] at HAP HE;clear hE;by_cases h0:E=0
  ·subst h0;have hpu:=hpu0 rfl;clear hpu0;have HP:Hid (x.put b=(x.putted b,0)):=by show x.put b=_;rw [HE.out];rfl
   clear HE;go_wp2_with fail
   go_region_with (go_at_call 166;refine (HAP.out _).mono ?_;rintro e w2 ⟨rfl,hb2⟩)
   all_goals
    have HB2:Hid (Bh ρ w p x x L w2):=(HB1.out.drewN 1).below hb2;clear hb2;have k10:w2.cell? ⟨p,10,none⟩=some (.int .i64 x.pu):=HB2.out.mb.row.cell (i:=10) (by omega);have z10:=HB2.out.mb.row.frozen 10;have k16:w2.cell? ⟨p,16,none⟩=some (.pointer (some ⟨L.a,0,none⟩)):=HB2.out.mb.row.cell (i:=16) (by omega);have HB3:Hid (Bh ρ w p { x with pu:=x.pu+1 } x L (w2.setCell ⟨p,10,none⟩ (.int .i64 (x.pu+1:Nat)))):=HB2.out.set 10 _ rfl ⟨rfl,rfl⟩;have e1:((x.pu+1:Nat):Int)=(x.pu:Int)+1:=by omega
    rw [e1] at HB3;go_wp2_with fail
    refine (vt9 b HB3.out.mb hroom).mono ?_;rintro v w4 ⟨rfl,B4,f4⟩;have HB4:Hid (Bh ρ w p { x with pu:=x.pu+1,qa:=x.qa++[b] } x L w4):=HB3.out.next B4 f4;clear B4 f4 HB3 HB2;have k17:w4.cell? ⟨p,17,none⟩=some (.pointer (some ⟨L.c,0,none⟩)):=HB4.out.mb.row.cell (i:=17) (by omega);go_wp2_with fail
    refine (jt4 b HB4.out.mb).mono ?_;rintro v w5 ⟨rfl,B5,f5⟩;have HB5:Hid (Bh ρ w p { x with pu:=x.pu+1,qa:=x.qa++[b],qc:=MS.pushed x.qc b } x L w5):=HB4.out.next B5 f5;clear B5 f5 HB4;go_wp2_with fail
    refine (sumM b HB5.out.mb HS.out hb).mono ?_;rintro v w6 ⟨rfl,B6,f6⟩;have HB6:Hid (Bh ρ w p { x with pu:=x.pu+1,qa:=x.qa++[b],qc:=MS.pushed x.qc b,sx:=(x.sx+b)%65521,sy:=(x.sy+(x.sx+b)%65521)%65521 } x L w6):=HB5.out.next B6 f6;clear B6 f6 HB5;have k23:w6.cell? ⟨p,23,none⟩=some (.int .u16 x.size):=HB6.out.mb.row.cell (i:=23) (by omega);have z23:=HB6.out.mb.row.frozen 23;have HB7:Hid (Bh ρ w p (x.putted b) x L (w6.setCell ⟨p,23,none⟩ (.int .u16 ((x.size+1)%65536:Nat)))):=HB6.out.set 23 _ rfl ⟨rfl,rfl⟩;go_wp2_with fail
    go_ret
    unfold y0y;rw [HP.out,j6n];exact ⟨rfl,HB7.out.done rfl rfl rfl rfl ⟨rfl,rfl⟩⟩
  ·have HP:Hid (x.put b=x.refuse E):=by show x.put b=_;rw [HE.out,if_pos h0]
   have h0':((E:Int)==0)=false:=by simp;exact h0
   clear HE;go_wp2_with fail
   go_region_with (go_at_call 166;refine (HAP.out _).mono ?_;rintro e w2 ⟨rfl,hb2⟩)
   all_goals
    have HB2:Hid (Bh ρ w p x x L w2):=(HB1.out.drewN 1).below hb2;clear hb2;go_wp2_with fail
    refine (kv8 E (HB2.out.done rfl rfl rfl rfl ⟨rfl,rfl⟩).1).mono ?_;rintro v w3 ⟨rfl,h3,f3⟩;have HR:Hid (MM ρ w3 p (x.refuse E).1∧Fr (fun k=>1<=k∧k<=5) ρ w w3):=⟨h3,HB2.out.fr.trans f3⟩
    clear h3 f3;go_wp2_with fail
    go_ret
    unfold y0y;rw [HP.out];exact ⟨rfl,HR.out⟩
theorem MS.need_facts{k:Nat}:∀ (l:List Nat) {x:MS},x.rest=l->Ok x->Ok (MS.need k x).1∧((MS.need k x).2=0->k<=(MS.need k x).1.count∧((MS.need k x).1.count<=x.count∨(MS.need k x).1.count<k+8)∧(MS.need k x).1={ x with held:=(MS.need k x).1.held,count:=(MS.need k x).1.count,tk:=(MS.need k x).1.tk,rest:=(MS.need k x).1.rest }∧8*(MS.need k x).1.rest.length+(MS.need k x).1.count=8*x.rest.length+x.count)
 | [],x,e,ok=>by
  by_cases h:k<=x.count
  ·rw [MS.need_done h];exact ⟨ok,fun _=>⟨h,Or.inl (Nat.le_refl _),rfl,rfl⟩⟩
  ·rw [MS.need_nil h e];exact ⟨ok,fun h0=>by cases h0⟩
 | b :: l,x,e,ok=>by
  by_cases h:k<=x.count
  ·rw [MS.need_done h];exact ⟨ok,fun _=>⟨h,Or.inl (Nat.le_refl _),rfl,rfl⟩⟩
  ·rw [MS.need_cons h e];by_cases hs:x.sp<=x.tk+x.pu
   ·rw [if_pos hs];exact ⟨ok.refuse 16,fun h0=>by cases h0⟩
   ·rw [if_neg hs];obtain ⟨a,c⟩:=MS.need_facts (k:=k) l (x:=x.fed b l) rfl (ok.fed e hs);refine ⟨a,fun h0=>?_⟩;obtain ⟨c1,c2,c3,c4⟩:=c h0;refine ⟨c1,?_,?_,?_⟩
    ·rcases c2 with c2 | c2
     ·right
      have:(x.fed b l).count=x.count+8:=rfl;omega
     ·exact Or.inr c2
    ·rw [c3];rfl
    ·rw [c4,e];show 8*l.length+(x.count+8)=8*(b :: l).length+x.count;simp;omega
theorem MS.need_ok{k:Nat}{x:MS}(h:Ok x):Ok (MS.need k x).1:=(MS.need_facts (k:=k) x.rest rfl h).1
theorem MS.need_cnt{k:Nat}{x:MS}(h:Ok x)(h0:(MS.need k x).2=0):k<=(MS.need k x).1.count∧((MS.need k x).1.count<=x.count∨(MS.need k x).1.count<k+8):=⟨((MS.need_facts (k:=k) x.rest rfl h).2 h0).1,((MS.need_facts (k:=k) x.rest rfl h).2 h0).2.1⟩
theorem MS.need_same{k:Nat}{x:MS}(h:Ok x)(h0:(MS.need k x).2=0):(MS.need k x).1={ x with held:=(MS.need k x).1.held,count:=(MS.need k x).1.count,tk:=(MS.need k x).1.tk,rest:=(MS.need k x).1.rest }:=((MS.need_facts (k:=k) x.rest rfl h).2 h0).2.2.1
theorem MS.need_bits{k:Nat}{x:MS}(h:Ok x)(h0:(MS.need k x).2=0):8*(MS.need k x).1.rest.length+(MS.need k x).1.count=8*x.rest.length+x.count:=((MS.need_facts (k:=k) x.rest rfl h).2 h0).2.2.2
theorem zw3{ρ:Nat->Nat}{w:World}{p:Nat}{x:MS}(k:Nat)(h:MM ρ w p x)(ok:Ok x)(hk:k<=x.count)(hc:x.count<=63) :
  Calls Tryz.prog 134 #[.pointer (some ⟨p,14,none⟩), .int .i64 k] w fun v w'=>v= .returned (.int .i64 (x.num k))∧MM ρ w' p (x.rd k)∧Fr (fun k=>1<=k∧k<=5) ρ w w':=by
 obtain ⟨L,B,T⟩:=h;have c1:w.cell? ⟨p,14,none⟩=some (.int .u64 x.held):=B.row.cell (i:=14) (by omega);have c2:w.cell? ⟨p,14+1,none⟩=some (.int .i64 x.count):=B.row.cell (i:=15) (by omega);refine (zto p 14 x.held x.count k w hk hc ok.held c1 c2 (B.row.frozen 14) (B.row.frozen 15)).mono ?_;rintro v w' ⟨rfl,n,e⟩;refine ⟨rfl,?_⟩;have R:Bh ρ w p x x L w:=⟨B,T,Fr.refl _ _ _⟩
 rw [e];exact (((R.drewN n).set (z:={ x with held:=x.held / 2^k }) 14 _ rfl ⟨rfl,rfl⟩).set (z:=x.rd k) 15 _ rfl ⟨rfl,rfl⟩).done rfl rfl rfl rfl ⟨rfl,rfl⟩
def v5b(T:IntKind)(ρ:Nat->Nat)(w:World)(p:Nat)(r:MS×Nat×Nat)(e:Ending)(w':World):Prop:=e= .returned (.tuple #[.int T r.2.2, .int .i64 r.2.1])∧MM ρ w' p r.1∧Fr (fun k=>1<=k∧k<=5) ρ w w'
theorem kvg{ρ:Nat->Nat}{w:World}{p:Nat}{x:MS}(h:MM ρ w p x)(ok:Ok x)(hx:x.count<=8) :
  Calls Tryz.prog 160 #[.pointer (some ⟨p,0,none⟩)] w fun v w'=>v5b .u8 ρ w p x.takeHead v w':=by
 have HM:Hid (MM ρ w p x∧Ok x):=⟨h,ok⟩
 have HE:Hid (x.takeHead=if (MS.need 8 x).2≠0 then ((MS.need 8 x).1,(MS.need 8 x).2,0) else if (MS.need 8 x).1.head=(MS.need 8 x).1.he then (((MS.need 8 x).1.refuse 5).1,3,0) else ((MS.need 8 x).1.headRead,0,(MS.need 8 x).1.num 8)):=rfl;clear h ok;go_enter Tryz.func160,Tryz.ntmps160
 go_wp2_with fail
 refine (zvo 8 HM.out.1 HM.out.2 (by omega) (by omega)).mono ?_;rintro v w1 ⟨rfl,g1,g2⟩;by_cases h0:(MS.need 8 x).2=0
 ·have k1:=MS.need_cnt HM.out.2 h0;have k2:=MS.need_same HM.out.2 h0;have k3:=MS.need_ok (k:=8) HM.out.2;rw [h0];rw [if_neg (by rw [h0];simp)] at HE;obtain ⟨y,hy⟩:∃ y,y=(MS.need 8 x).1:=⟨_,rfl⟩
  rw [← hy] at g1 HE k1 k2 k3;have HY:Hid (MM ρ w1 p y∧Ok y∧Fr (fun k=>1<=k∧k<=5) ρ w w1):=⟨g1,k3,g2⟩
  have hu:=k3.hsum;have hh:=k3.hd;obtain ⟨L,B,T⟩:=g1;have c19:w1.cell? ⟨p,19,none⟩=some (.int .i64 y.head):=B.row.cell (i:=19) (by omega);have c5:w1.cell? ⟨p,5,none⟩=some (.int .i64 y.he):=B.row.cell (i:=5) (by omega);clear B T g2 hy k2 k3 h0;by_cases hq:y.head=y.he
  ·rw [if_pos hq] at HE;have hqd:((y.head:Int)==(y.he:Int))=true:=by simp [hq]
   clear hq;go_wp2_with fail
   go_quiet (fail)
   go_wp2_with fail
   refine (kv8 5 (HY.out.1.drewN _)).mono ?_;rintro v w2 ⟨rfl,g3,g4⟩;have HR:Hid (MM ρ w2 p (y.refuse 5).1∧Fr (fun k=>1<=k∧k<=5) ρ w w2):=⟨g3,(HY.out.2.2.drewN _).trans g4⟩
   clear g3 g4;go_wp2_with fail
   go_ret2
   unfold v5b;rw [HE.out];exact ⟨rfl,HR.out⟩
  ·rw [if_neg hq] at HE;have hqd:((y.head:Int)==(y.he:Int))=false:=by simp;omega
   have hh1:y.head+1<=9223372036854775807:=by omega
   clear hq;go_wp2_with fail
   go_quiet (fail)
   go_wp2_with fail
   refine (zw3 8 (HY.out.1.drewN _) HY.out.2.1 k1.1 (by omega)).mono ?_;rintro v w2 ⟨rfl,g3,g4⟩;have hn:y.num 8<256:=Nat.mod_lt _ (by decide);have hni:((y.num 8:Nat):Int)%256=((y.num 8:Nat):Int):=by omega
   obtain ⟨L,B,T⟩:=g3;have HB:Hid (Bh ρ w p (y.rd 8) (y.rd 8) L w2):=⟨B,T,(HY.out.2.2.drewN _).trans g4⟩
   have d19:w2.cell? ⟨p,19,none⟩=some (.int .i64 y.head):=B.row.cell (i:=19) (by omega);have d20:w2.cell? ⟨p,20,none⟩=some (.int .u8 y.hsum):=B.row.cell (i:=20) (by omega);have z19:=B.row.frozen 19;have z20:=B.row.frozen 20;have HB2:Hid (Bh ρ w p y.headRead (y.rd 8) L ((w2.setCell ⟨p,19,none⟩ (.int .i64 (y.head+1:Nat))).setCell ⟨p,20,none⟩ (.int .u8 ((y.hsum+y.num 8)%256:Nat)))):=(HB.out.set (z:={ y.rd 8 with head:=y.head+1 }) 19 _ rfl ⟨rfl,rfl⟩).set 20 _ rfl ⟨rfl,rfl⟩;have e1:((y.head+1:Nat):Int)=(y.head:Int)+1:=by omega
   rw [e1] at HB2;clear B T g4;obtain ⟨b,hb⟩:∃ b,b=y.num 8:=⟨_,rfl⟩
   rw [← hb] at hn hni HE HB2 ⊢;clear hb;go_wp2_with fail
   go_ret2
   unfold v5b;rw [HE.out];have e2:((y.hsum:Int)+b)%256=(((y.hsum+b)%256:Nat):Int):=by omega
   first
    | exact ⟨rfl,HB2.out.done rfl rfl rfl rfl ⟨rfl,rfl⟩⟩
    | (rw [e2];exact ⟨rfl,HB2.out.done rfl rfl rfl rfl ⟨rfl,rfl⟩⟩)
    | (rw [IntKind.wrap_u8,e2];exact ⟨rfl,HB2.out.done rfl rfl rfl rfl ⟨rfl,rfl⟩⟩)
 ·obtain ⟨t,ht⟩:∃ t,t=(MS.need 8 x).2:=⟨_,rfl⟩
  rw [if_pos h0] at HE;have HR:Hid (MM ρ w1 p (MS.need 8 x).1∧Fr (fun k=>1<=k∧k<=5) ρ w w1):=⟨g1,g2⟩
  rw [← ht] at h0 HE ⊢;have h0':((t:Int)==0)=false:=by simp;exact h0
  clear g1 g2 ht;go_wp2_with fail
  go_ret2
  unfold v5b;rw [HE.out];exact ⟨rfl,HR.out⟩
theorem Ok.headRead{y:MS}(h:Ok y)(h8:8<=y.count)(hq:y.head≠y.he):Ok y.headRead:=
 { h.rd h8 with hd:=⟨by have:=h.hd.1;show y.head+1<=y.he;omega,h.hd.2⟩,hsum:=Nat.mod_lt _ (by decide) }
theorem MS.takeHead_facts{x:MS}(ok:Ok x)(hx:x.count<=8):Ok x.takeHead.1∧(x.takeHead.2.1=0->x.takeHead.1.count<8∧x.takeHead.2.2<256∧x.takeHead.1.more<x.more∧x.takeHead.1={ x with held:=x.takeHead.1.held,count:=x.takeHead.1.count,tk:=x.takeHead.1.tk,rest:=x.takeHead.1.rest,head:=x.takeHead.1.head,hsum:=x.takeHead.1.hsum }):=by
 have k3:=MS.need_ok (k:=8) ok;unfold MS.takeHead;by_cases h0:(MS.need 8 x).2=0
 ·have k1:=MS.need_cnt ok h0;have k2:=MS.need_same ok h0;have k4:=MS.need_bits ok h0;rw [if_neg (by rw [h0];simp)];by_cases hq:(MS.need 8 x).1.head=(MS.need 8 x).1.he
  ·rw [if_pos hq];exact ⟨k3.refuse 5,fun h=>by cases h⟩
  ·rw [if_neg hq];refine ⟨k3.headRead k1.1 hq,fun _=>⟨?_,Nat.mod_lt _ (by decide),?_,?_⟩⟩
   ·show (MS.need 8 x).1.count - 8<8;omega
   ·show (MS.need 8 x).1.rest.length+((MS.need 8 x).1.count - 8) / 8<x.rest.length+x.count / 8;omega
   ·show ({ (MS.need 8 x).1.rd 8 with head:=_,hsum:=_ }:MS)=_;generalize MS.need 8 x=r at *;rw [k2];rfl
 ·rw [if_pos h0];exact ⟨k3,fun h=>absurd h h0⟩
theorem jn3{ρ:Nat->Nat}{w:World}{p:Nat}{x:MS}(want:Nat)(h:MM ρ w p x)(ok:Ok x)(hx:x.count<=8)(hw:want<256) :
  Calls Tryz.prog 159 #[.pointer (some ⟨p,0,none⟩), .int .u8 want] w fun v w'=>y0y ρ w p (MS.passByte want x) v w':=by
 have HM:Hid (MM ρ w p x∧Ok x):=⟨h,ok⟩
 have HE:Hid (MS.passByte want x=if x.takeHead.2.1=0 then (if x.takeHead.2.2=want then (x.takeHead.1,0) else x.takeHead.1.refuse 4) else (x.takeHead.1,x.takeHead.2.1)):=rfl;clear h ok;go_enter Tryz.func159,Tryz.ntmps159
 go_wp2_with fail
 refine (kvg HM.out.1 HM.out.2 hx).mono ?_;rintro v w1 ⟨rfl,g1,g2⟩;have k1:=(MS.takeHead_facts HM.out.2 hx).2;obtain ⟨y,t,b,hr⟩:∃ y t b,x.takeHead=(y,t,b):=⟨_,_,_,rfl⟩
 rw [hr] at g1 HE k1 ⊢;have HR:Hid (MM ρ w1 p y∧Fr (fun k=>1<=k∧k<=5) ρ w w1):=⟨g1,g2⟩
 clear g1 g2 hr;by_cases h0:t=0
 ·have hb:b<256:=(k1 h0).2.1;subst h0;rw [if_pos rfl] at HE;by_cases hbw:b=want
  ·rw [if_pos hbw] at HE;have hd:((b:Int)==(want:Int))=true:=by simp [hbw]
   clear hbw k1;go_wp2_with fail
   go_ret
   unfold y0y;rw [HE.out];exact ⟨rfl,HR.out⟩
  ·rw [if_neg hbw] at HE;have hd:((b:Int)==(want:Int))=false:=by simp;omega
   clear hbw k1;go_wp2_with fail
   refine (kv8 4 HR.out.1).mono ?_;rintro v w2 ⟨rfl,g3,g4⟩;have HR2:Hid (MM ρ w2 p (y.refuse 4).1∧Fr (fun k=>1<=k∧k<=5) ρ w w2):=⟨g3,HR.out.2.trans g4⟩
   clear g3 g4;go_wp2_with fail
   go_ret
   unfold y0y;rw [HE.out];exact ⟨rfl,HR2.out⟩
 ·rw [if_neg h0] at HE;have h0':((t:Int)==0)=false:=by simp;exact h0
  clear k1;go_wp2_with fail
  go_ret
  unfold y0y;rw [HE.out];exact ⟨rfl,HR.out⟩
theorem zmn{ρ:Nat->Nat}{w:World}{p:Nat}{x:MS}(want:Nat)(h:MM ρ w p x)(ok:Ok x)(hx:x.count<=8∨x.fm=0)(hw:want<256) :
  Calls Tryz.prog 129 #[.pointer (some ⟨p,0,none⟩), .int .u8 want] w fun v w'=>y0y ρ w p (MS.passFixed want x) v w':=by
 have HM:Hid (MM ρ w p x∧Ok x):=⟨h,ok⟩
 have c0:w.cell? ⟨p,0,none⟩=some (.int .i64 x.fm):=by obtain ⟨L,B,T⟩:=h;exact B.row.cell (i:=0) (by omega)
 have HE:Hid (MS.passFixed want x=if x.fm=0 then (x,0) else MS.passByte want x):=rfl;clear h ok;go_enter Tryz.func129,Tryz.ntmps129
 by_cases h0:x.fm=0
 ·rw [if_pos h0] at HE;have hd:((x.fm:Int)==0)=true:=by simp [h0]
  clear h0 hx;go_wp2_with fail
  go_ret
  unfold y0y;rw [HE.out];exact ⟨rfl,HM.out.1,Fr.refl _ _ _⟩
 ·rw [if_neg h0] at HE;have hd:((x.fm:Int)==0)=false:=by simp;exact h0
  have hx8:x.count<=8:=by omega
  clear h0 hx;go_wp2_with fail
  refine (jn3 want HM.out.1 HM.out.2 hx8 hw).mono ?_;rintro v w1 ⟨rfl,g1,g2⟩;have HR:Hid (MM ρ w1 p (MS.passByte want x).1∧Fr (fun k=>1<=k∧k<=5) ρ w w1):=⟨g1,g2⟩
  clear g1 g2;go_wp2_with fail
  go_ret
  unfold y0y;rw [HE.out];exact ⟨rfl,HR.out⟩
theorem xdp{ρ:Nat->Nat}{w:World}{p:Nat}{x:MS}(h:MM ρ w p x)(ok:Ok x)(hx:x.count<=8∨x.fm=0) :
  Calls Tryz.prog 130 #[.pointer (some ⟨p,0,none⟩)] w fun v w'=>y0y ρ w p x.passMarks v w':=by
 have HM:Hid (MM ρ w p x∧Ok x):=⟨h,ok⟩
 have c0:w.cell? ⟨p,0,none⟩=some (.int .i64 x.fm):=by obtain ⟨L,B,T⟩:=h;exact B.row.cell (i:=0) (by omega)
 have HE:Hid (x.passMarks=if x.fm=2 then (if x.takeHead.2.1=0 then (if 7<x.takeHead.2.2 then x.takeHead.1.refuse 4 else ({ x.takeHead.1 with marks:=x.takeHead.2.2 },0)) else (x.takeHead.1,x.takeHead.2.1)) else (x,0)):=rfl;clear h ok;go_enter Tryz.func130,Tryz.ntmps130
 by_cases h2:x.fm=2
 ·rw [if_pos h2] at HE;have hd:((x.fm:Int)==2)=true:=by simp;omega
  have hx8:x.count<=8:=by omega
  clear h2 hx;go_wp2_with fail
  refine (kvg HM.out.1 HM.out.2 hx8).mono ?_;rintro v w1 ⟨rfl,g1,g2⟩;have k1:=(MS.takeHead_facts HM.out.2 hx8).2;obtain ⟨y,t,b,hr⟩:∃ y t b,x.takeHead=(y,t,b):=⟨_,_,_,rfl⟩
  rw [hr] at g1 HE k1 ⊢;have HR:Hid (MM ρ w1 p y∧Fr (fun k=>1<=k∧k<=5) ρ w w1):=⟨g1,g2⟩
  clear g2 hr;by_cases h0:t=0
  ·have hb:b<256:=(k1 h0).2.1;subst h0;rw [if_pos rfl] at HE;by_cases hbw:7<b
   ·rw [if_pos hbw] at HE;have hbi:(7:Int)<b:=by omega
    clear k1 g1;go_wp2_with fail
    refine (kv8 4 HR.out.1).mono ?_;rintro v w2 ⟨rfl,g3,g4⟩;have HR2:Hid (MM ρ w2 p (y.refuse 4).1∧Fr (fun k=>1<=k∧k<=5) ρ w w2):=⟨g3,HR.out.2.trans g4⟩
    clear g3 g4;go_wp2_with fail
    go_ret
    unfold y0y;rw [HE.out];exact ⟨rfl,HR2.out⟩
   ·rw [if_neg hbw] at HE;have hbi:¬ (7:Int)<b:=by omega
    obtain ⟨L,B,T⟩:=g1;have c18:w1.cell? ⟨p,18,none⟩=some (.int .u8 y.marks):=B.row.cell (i:=18) (by omega);have z18:=B.row.frozen 18;have HB:Hid (Bh ρ w p { y with marks:=b } y L (w1.setCell ⟨p,18,none⟩ (.int .u8 b))):=(show Bh ρ w p y y L w1 from ⟨B,T,HR.out.2⟩).set 18 _ rfl ⟨rfl,rfl⟩;clear k1 B T;go_wp2_with fail
    go_ret
    unfold y0y;rw [HE.out];exact ⟨rfl,HB.out.done rfl rfl rfl rfl ⟨rfl,rfl⟩⟩
  ·rw [if_neg h0] at HE;have h0':((t:Int)==0)=false:=by simp;exact h0
   clear k1 g1;go_wp2_with fail
   go_ret
   unfold y0y;rw [HE.out];exact ⟨rfl,HR.out⟩
 ·rw [if_neg h2] at HE;have hd:((x.fm:Int)==2)=false:=by simp;omega
  clear h2 hx;go_wp2_with fail
  go_ret
  unfold y0y;rw [HE.out];exact ⟨rfl,HM.out.1,Fr.refl _ _ _⟩
end Go.Proofs.YtbcjmakpempkiaaGreatDoor
