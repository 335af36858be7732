import Derived.Test.YtbcjmakpempkiaaGreatDoorX06
set_option maxRecDepth 100000
set_option maxHeartbeats 8000000
set_option linter.all false
namespace Go.Proofs.YtbcjmakpempkiaaGreatDoor
open Go.RowKit
theorem z0q{ρ:Nat->Nat}{w:World}{p:Nat}{x:MS}(h:MM ρ w p x)(ok:Ok x)(hx:x.count<=32)(hst:x.st=24) :
  Calls Tryz.prog 105 #[.pointer (some ⟨p,0,none⟩)] w fun v w'=>y0y ρ w p x.e24 v w':=by
 have HM:Hid (MM ρ w p x∧Ok x):=⟨h,ok⟩
 have HE:Hid (x.e24=if (MS.need 8 x).2=0 then (if (MS.need 8 x).1.fm=2 then ({ (MS.need 8 x).1 with st:=0 },0) else (MS.need 8 x).1.refuse 14) else MS.need 8 x):=rfl;have c7:=h.cell7.1;rw [hst] at c7;clear h ok hst;go_enter Tryz.func105,Tryz.ntmps105
 go_wp2_with fail
 refine (zvo 8 HM.out.1 HM.out.2 (by omega) (by omega)).mono ?_;rintro v w1 ⟨rfl,g1,g2⟩;by_cases h0:(MS.need 8 x).2=0
 ·rw [h0];rw [if_pos h0] at HE;obtain ⟨y,hy⟩:∃ y,y=(MS.need 8 x).1:=⟨_,rfl⟩
  rw [← hy] at g1 HE;have HY:Hid (MM ρ w1 p y∧Fr (fun k=>1<=k∧k<=5) ρ w w1):=⟨g1,g2⟩
  have c0:=g1.cell0;have k7:=g1.cell7.1;have z7:=g1.cell7.2;clear g1 g2 hy h0;by_cases h2:y.fm=2
  ·rw [if_pos h2] at HE;have hd:((y.fm:Int)==2)=true:=by simp;omega
   have H0:Hid (MM ρ (w1.setCell ⟨p,7,none⟩ (.int .i64 0)) p { y with st:=0 }∧Fr (fun k=>1<=k∧k<=5) ρ w1 (w1.setCell ⟨p,7,none⟩ (.int .i64 0))):=HY.out.1.st 0;clear h2;go_wp2_with fail
   go_ret
   unfold y0y;rw [HE.out];exact ⟨rfl,H0.out.1,HY.out.2.trans H0.out.2⟩
  ·rw [if_neg h2] at HE;have hd:((y.fm:Int)==2)=false:=by simp;omega
   clear h2;go_wp2_with fail
   refine (kv8 14 HY.out.1).mono ?_;rintro v w4 ⟨rfl,g3,g4⟩;have HR2:Hid (MM ρ w4 p (y.refuse 14).1∧Fr (fun k=>1<=k∧k<=5) ρ w w4):=⟨g3,HY.out.2.trans g4⟩
   clear g3 g4;go_wp2_with fail
   go_ret
   unfold y0y;rw [HE.out];exact ⟨rfl,HR2.out⟩
 ·rw [if_neg h0] at HE;obtain ⟨t,ht⟩:∃ t,t=(MS.need 8 x).2:=⟨_,rfl⟩
  have HR:Hid (MM ρ w1 p (MS.need 8 x).1∧Fr (fun k=>1<=k∧k<=5) ρ w w1∧(MS.need 8 x).2=t):=⟨g1,g2,ht.symm⟩
  rw [← ht] at h0 ⊢;have h0':((t:Int)==0)=false:=by simp;exact h0
  clear g1 g2 ht;go_wp2_with fail
  go_ret
  unfold y0y;rw [HE.out,HR.out.2.2];exact ⟨rfl,HR.out.1,HR.out.2.1⟩
theorem MS.passSize_facts{x:MS}(ok:Ok x)(hx:x.count<=32)(h0:x.passSize.2=0):Ok x.passSize.1∧x.passSize.1.count<=32:=by
 have e:x.passSize=if x.fm=2 then (if (MS.need 16 x).2=0 then (if (MS.need 16 x).1.num 16=(MS.need 16 x).1.size then ((MS.need 16 x).1.rd 16,0) else ((MS.need 16 x).1.rd 16).refuse 13) else MS.need 16 x) else (x,0):=rfl;rw [e] at h0 ⊢;by_cases h2:x.fm=2
 ·rw [if_pos h2] at h0 ⊢;by_cases hn:(MS.need 16 x).2=0
  ·rw [if_pos hn] at h0 ⊢;by_cases he:(MS.need 16 x).1.num 16=(MS.need 16 x).1.size
   ·rw [if_pos he];have k:=MS.need_cnt ok hn;refine ⟨(MS.need_ok ok).rd k.1,?_⟩;show (MS.need 16 x).1.count - 16<=32;omega
   ·rw [if_neg he] at h0;cases h0
  ·rw [if_neg hn] at h0;exact absurd h0 hn
 ·rw [if_neg h2];exact ⟨ok,hx⟩
theorem MS.passSum_facts{x:MS}(ok:Ok x)(hx:x.count<=32)(h0:x.passSum.2=0):Ok x.passSum.1∧x.passSum.1.count<=32:=by
 have e:x.passSum=if x.fm=0 then (x,0) else (if (MS.need 32 x).2=0 then (if big4 (MS.need 32 x).1.held=65536*(MS.need 32 x).1.sy+(MS.need 32 x).1.sx then ((MS.need 32 x).1.rd 32,0) else ((MS.need 32 x).1.rd 32).refuse 12) else MS.need 32 x):=rfl;rw [e] at h0 ⊢;by_cases h2:x.fm=0
 ·rw [if_pos h2];exact ⟨ok,hx⟩
 ·rw [if_neg h2] at h0 ⊢;by_cases hn:(MS.need 32 x).2=0
  ·rw [if_pos hn] at h0 ⊢;by_cases he:big4 (MS.need 32 x).1.held=65536*(MS.need 32 x).1.sy+(MS.need 32 x).1.sx
   ·rw [if_pos he];have k:=MS.need_cnt ok hn;refine ⟨(MS.need_ok ok).rd k.1,?_⟩;show (MS.need 32 x).1.count - 32<=32;omega
   ·rw [if_neg he] at h0;cases h0
  ·rw [if_neg hn] at h0;exact absurd h0 hn
theorem j0c{ρ:Nat->Nat}{w:World}{p:Nat}{x:MS}(h:MM ρ w p x)(ok:Ok x)(hx:x.count<=32)(hst:x.st=23) :
  Calls Tryz.prog 105 #[.pointer (some ⟨p,0,none⟩)] w fun v w'=>y0y ρ w p x.e23 v w':=by
 have H23:Hid (MM ρ w p x∧Ok x∧x.count<=32∧Fr (fun k=>1<=k∧k<=5) ρ w w):=⟨h,ok,hx,Fr.refl _ _ _⟩
 have R:Hid (x.e23=MS.andThen x.passSize fun y=>MS.e24 { y with st:=24 }):=rfl;have c7:=h.cell7.1;rw [hst] at c7;clear h ok hst;go_enter Tryz.func105,Tryz.ntmps105
 go_wp2_with fail
 refine (jhs H23.out.1 H23.out.2.1 H23.out.2.2.1).mono ?_;rintro v wb ⟨rfl,g1,g2⟩;have R':Hid (x.e23=if (x.passSize).2=0 then MS.e24 { (x.passSize).1 with st:=24 } else x.passSize):=R.out;by_cases h0:(x.passSize).2=0
 ·rw [if_pos h0] at R';have k7:=g1.cell7.1;have z7:=g1.cell7.2;have F:=MS.passSize_facts H23.out.2.1 H23.out.2.2.1 h0;have H24:Hid (MM ρ (wb.setCell ⟨p,7,none⟩ (.int .i64 (24:Nat))) p { (x.passSize).1 with st:=24 }∧Ok { (x.passSize).1 with st:=24 }∧(x.passSize).1.count<=32∧Fr (fun k=>1<=k∧k<=5) ρ w (wb.setCell ⟨p,7,none⟩ (.int .i64 (24:Nat)))):=⟨(g1.st 24).1,F.1.st 24,F.2,(H23.out.2.2.2.trans g2).trans (g1.st 24).2⟩
  rw [h0];obtain ⟨x24,hx24⟩:∃ q:MS,q={ (x.passSize).1 with st:=24 }:=⟨_,rfl⟩
  have hcx:x24.count=(x.passSize).1.count:=by rw [hx24]
  rw [← hcx,← hx24] at H24;rw [← hx24] at R';clear g1 g2 R F hx24 hcx h0;have R:Hid (x.e23=MS.e24 x24):=R'.out;clear R';go_wp2_with fail
  refine (zvo 8 H24.out.1 H24.out.2.1 (by omega) (by have:=H24.out.2.2.1;omega)).mono ?_;rintro v wc ⟨rfl,g1,g2⟩;have HE:Hid (x.e23=if (MS.need 8 x24).2=0 then (if (MS.need 8 x24).1.fm=2 then ({ (MS.need 8 x24).1 with st:=0 },0) else (MS.need 8 x24).1.refuse 14) else MS.need 8 x24):=R.out;by_cases h0:(MS.need 8 x24).2=0
  ·rw [h0];rw [if_pos h0] at HE;obtain ⟨y,hy⟩:∃ y,y=(MS.need 8 x24).1:=⟨_,rfl⟩
   rw [← hy] at g1 HE;have HY:Hid (MM ρ wc p y∧Fr (fun k=>1<=k∧k<=5) ρ w wc):=⟨g1,H24.out.2.2.2.trans g2⟩
   have c0':=g1.cell0;have k7':=g1.cell7.1;have z7':=g1.cell7.2;clear g1 g2 hy h0;by_cases h2:y.fm=2
   ·rw [if_pos h2] at HE;have hd:((y.fm:Int)==2)=true:=by simp;omega
    have H0:Hid (MM ρ (wc.setCell ⟨p,7,none⟩ (.int .i64 0)) p { y with st:=0 }∧Fr (fun k=>1<=k∧k<=5) ρ wc (wc.setCell ⟨p,7,none⟩ (.int .i64 0))):=HY.out.1.st 0;clear h2;go_wp2_with fail
    go_ret
    unfold y0y;rw [HE.out];exact ⟨rfl,H0.out.1,HY.out.2.trans H0.out.2⟩
   ·rw [if_neg h2] at HE;have hd:((y.fm:Int)==2)=false:=by simp;omega
    clear h2;go_wp2_with fail
    refine (kv8 14 HY.out.1).mono ?_;rintro v w4 ⟨rfl,g3,g4⟩;have HR2:Hid (MM ρ w4 p (y.refuse 14).1∧Fr (fun k=>1<=k∧k<=5) ρ w w4):=⟨g3,HY.out.2.trans g4⟩
    clear g3 g4;go_wp2_with fail
    go_ret
    unfold y0y;rw [HE.out];exact ⟨rfl,HR2.out⟩
  ·rw [if_neg h0] at HE;obtain ⟨t,ht⟩:∃ t,t=(MS.need 8 x24).2:=⟨_,rfl⟩
   have HR:Hid (MM ρ wc p (MS.need 8 x24).1∧Fr (fun k=>1<=k∧k<=5) ρ w wc∧(MS.need 8 x24).2=t):=⟨g1,H24.out.2.2.2.trans g2,ht.symm⟩
   rw [← ht] at h0 ⊢;have h0':((t:Int)==0)=false:=by simp;exact h0
   clear g1 g2 ht;go_wp2_with fail
   go_ret
   unfold y0y;rw [HE.out,HR.out.2.2];exact ⟨rfl,HR.out.1,HR.out.2.1⟩
 ·rw [if_neg h0] at R';obtain ⟨t,ht⟩:∃ t,t=(x.passSize).2:=⟨_,rfl⟩
  have HR:Hid (MM ρ wb p (x.passSize).1∧Fr (fun k=>1<=k∧k<=5) ρ w wb∧(x.passSize).2=t):=⟨g1,H23.out.2.2.2.trans g2,ht.symm⟩
  rw [← ht] at h0 ⊢;have h0':((t:Int)==0)=false:=by simp;exact h0
  clear g1 g2 ht;go_wp2_with fail
  go_ret
  unfold y0y;rw [R'.out,HR.out.2.2];exact ⟨rfl,HR.out.1,HR.out.2.1⟩
theorem van{ρ:Nat->Nat}{w:World}{p:Nat}{x:MS}(h:MM ρ w p x)(ok:Ok x)(hx:x.count<=32)(hst:x.st=22) :
  Calls Tryz.prog 105 #[.pointer (some ⟨p,0,none⟩)] w fun v w'=>y0y ρ w p x.e22 v w':=by
 have H22:Hid (MM ρ w p x∧Ok x∧x.count<=32∧Fr (fun k=>1<=k∧k<=5) ρ w w):=⟨h,ok,hx,Fr.refl _ _ _⟩
 have R:Hid (x.e22=MS.andThen x.passSum fun y=>MS.e23 { y with st:=23 }):=rfl;have c7:=h.cell7.1;rw [hst] at c7;clear h ok hst;go_enter Tryz.func105,Tryz.ntmps105
 go_wp2_with fail
 refine (ycd H22.out.1 H22.out.2.1 H22.out.2.2.1).mono ?_;rintro v wa ⟨rfl,g1,g2⟩;have R':Hid (x.e22=if (x.passSum).2=0 then MS.e23 { (x.passSum).1 with st:=23 } else x.passSum):=R.out;by_cases h0:(x.passSum).2=0
 ·rw [if_pos h0] at R';have k7:=g1.cell7.1;have z7:=g1.cell7.2;have F:=MS.passSum_facts H22.out.2.1 H22.out.2.2.1 h0;have H23:Hid (MM ρ (wa.setCell ⟨p,7,none⟩ (.int .i64 (23:Nat))) p { (x.passSum).1 with st:=23 }∧Ok { (x.passSum).1 with st:=23 }∧(x.passSum).1.count<=32∧Fr (fun k=>1<=k∧k<=5) ρ w (wa.setCell ⟨p,7,none⟩ (.int .i64 (23:Nat)))):=⟨(g1.st 23).1,F.1.st 23,F.2,(H22.out.2.2.2.trans g2).trans (g1.st 23).2⟩
  rw [h0];obtain ⟨x23,hx23⟩:∃ q:MS,q={ (x.passSum).1 with st:=23 }:=⟨_,rfl⟩
  have hcx:x23.count=(x.passSum).1.count:=by rw [hx23]
  rw [← hcx,← hx23] at H23;rw [← hx23] at R';clear g1 g2 R F hx23 hcx h0;have R:Hid (x.e22=MS.e23 x23):=R'.out;clear R';go_wp2_with fail
  refine (jhs H23.out.1 H23.out.2.1 H23.out.2.2.1).mono ?_;rintro v wb ⟨rfl,g1,g2⟩;have R':Hid (x.e22=if (x23.passSize).2=0 then MS.e24 { (x23.passSize).1 with st:=24 } else x23.passSize):=R.out;by_cases h0:(x23.passSize).2=0
  ·rw [if_pos h0] at R';have k7:=g1.cell7.1;have z7:=g1.cell7.2;have F:=MS.passSize_facts H23.out.2.1 H23.out.2.2.1 h0;have H24:Hid (MM ρ (wb.setCell ⟨p,7,none⟩ (.int .i64 (24:Nat))) p { (x23.passSize).1 with st:=24 }∧Ok { (x23.passSize).1 with st:=24 }∧(x23.passSize).1.count<=32∧Fr (fun k=>1<=k∧k<=5) ρ w (wb.setCell ⟨p,7,none⟩ (.int .i64 (24:Nat)))):=⟨(g1.st 24).1,F.1.st 24,F.2,(H23.out.2.2.2.trans g2).trans (g1.st 24).2⟩
   rw [h0];obtain ⟨x24,hx24⟩:∃ q:MS,q={ (x23.passSize).1 with st:=24 }:=⟨_,rfl⟩
   have hcx:x24.count=(x23.passSize).1.count:=by rw [hx24]
   rw [← hcx,← hx24] at H24;rw [← hx24] at R';clear g1 g2 R F hx24 hcx h0;have R:Hid (x.e22=MS.e24 x24):=R'.out;clear R';go_wp2_with fail
   refine (zvo 8 H24.out.1 H24.out.2.1 (by omega) (by have:=H24.out.2.2.1;omega)).mono ?_;rintro v wc ⟨rfl,g1,g2⟩;have HE:Hid (x.e22=if (MS.need 8 x24).2=0 then (if (MS.need 8 x24).1.fm=2 then ({ (MS.need 8 x24).1 with st:=0 },0) else (MS.need 8 x24).1.refuse 14) else MS.need 8 x24):=R.out;by_cases h0:(MS.need 8 x24).2=0
   ·rw [h0];rw [if_pos h0] at HE;obtain ⟨y,hy⟩:∃ y,y=(MS.need 8 x24).1:=⟨_,rfl⟩
    rw [← hy] at g1 HE;have HY:Hid (MM ρ wc p y∧Fr (fun k=>1<=k∧k<=5) ρ w wc):=⟨g1,H24.out.2.2.2.trans g2⟩
    have c0':=g1.cell0;have k7':=g1.cell7.1;have z7':=g1.cell7.2;clear g1 g2 hy h0;by_cases h2:y.fm=2
    ·rw [if_pos h2] at HE;have hd:((y.fm:Int)==2)=true:=by simp;omega
     have H0:Hid (MM ρ (wc.setCell ⟨p,7,none⟩ (.int .i64 0)) p { y with st:=0 }∧Fr (fun k=>1<=k∧k<=5) ρ wc (wc.setCell ⟨p,7,none⟩ (.int .i64 0))):=HY.out.1.st 0;clear h2;go_wp2_with fail
     go_ret
     unfold y0y;rw [HE.out];exact ⟨rfl,H0.out.1,HY.out.2.trans H0.out.2⟩
    ·rw [if_neg h2] at HE;have hd:((y.fm:Int)==2)=false:=by simp;omega
     clear h2;go_wp2_with fail
     refine (kv8 14 HY.out.1).mono ?_;rintro v w4 ⟨rfl,g3,g4⟩;have HR2:Hid (MM ρ w4 p (y.refuse 14).1∧Fr (fun k=>1<=k∧k<=5) ρ w w4):=⟨g3,HY.out.2.trans g4⟩
     clear g3 g4;go_wp2_with fail
     go_ret
     unfold y0y;rw [HE.out];exact ⟨rfl,HR2.out⟩
   ·rw [if_neg h0] at HE;obtain ⟨t,ht⟩:∃ t,t=(MS.need 8 x24).2:=⟨_,rfl⟩
    have HR:Hid (MM ρ wc p (MS.need 8 x24).1∧Fr (fun k=>1<=k∧k<=5) ρ w wc∧(MS.need 8 x24).2=t):=⟨g1,H24.out.2.2.2.trans g2,ht.symm⟩
    rw [← ht] at h0 ⊢;have h0':((t:Int)==0)=false:=by simp;exact h0
    clear g1 g2 ht;go_wp2_with fail
    go_ret
    unfold y0y;rw [HE.out,HR.out.2.2];exact ⟨rfl,HR.out.1,HR.out.2.1⟩
  ·rw [if_neg h0] at R';obtain ⟨t,ht⟩:∃ t,t=(x23.passSize).2:=⟨_,rfl⟩
   have HR:Hid (MM ρ wb p (x23.passSize).1∧Fr (fun k=>1<=k∧k<=5) ρ w wb∧(x23.passSize).2=t):=⟨g1,H23.out.2.2.2.trans g2,ht.symm⟩
   rw [← ht] at h0 ⊢;have h0':((t:Int)==0)=false:=by simp;exact h0
   clear g1 g2 ht;go_wp2_with fail
   go_ret
   unfold y0y;rw [R'.out,HR.out.2.2];exact ⟨rfl,HR.out.1,HR.out.2.1⟩
 ·rw [if_neg h0] at R';obtain ⟨t,ht⟩:∃ t,t=(x.passSum).2:=⟨_,rfl⟩
  have HR:Hid (MM ρ wa p (x.passSum).1∧Fr (fun k=>1<=k∧k<=5) ρ w wa∧(x.passSum).2=t):=⟨g1,H22.out.2.2.2.trans g2,ht.symm⟩
  rw [← ht] at h0 ⊢;have h0':((t:Int)==0)=false:=by simp;exact h0
  clear g1 g2 ht;go_wp2_with fail
  go_ret
  unfold y0y;rw [R'.out,HR.out.2.2];exact ⟨rfl,HR.out.1,HR.out.2.1⟩
theorem Ok.putted{x:MS}(h:Ok x)(h0:x.putE=0)(b:Nat):Ok (x.putted b):=by
 have hs:¬ x.sp<=x.tk+x.pu:=fun hq=>by unfold MS.putE at h0;rw [if_pos hq] at h0;cases h0
 have g1:x.tk+(x.pu+1)<=x.sp:=by omega
 have g2:(x.sx+b)%65521<=65520:=by have:=Nat.mod_lt (x.sx+b) (show 0<65521 by decide);omega
 have g3:(x.sy+(x.sx+b)%65521)%65521<=65520:=by have:=Nat.mod_lt (x.sy+(x.sx+b)%65521) (show 0<65521 by decide);omega
 exact { h with steps:=g1,sum:=⟨g2,g3⟩,size:=Nat.mod_lt _ (by decide) }
theorem MS.put_facts{x:MS}(ok:Ok x)(b:Nat):Ok (x.put b).1∧((x.put b).2=0->(x.put b).1=x.putted b):=by
 unfold MS.put;by_cases h1:x.qa.length=64
 ·rw [if_pos h1];exact ⟨ok,fun h=>by cases h⟩
 ·rw [if_neg h1];by_cases h2:x.putE=0
  ·rw [if_neg (by rw [h2];simp)];exact ⟨ok.putted h2 b,fun _=>rfl⟩
  ·rw [if_pos h2];exact ⟨ok.refuse _,fun h=>by cases h⟩
theorem MM.cell25{ρ:Nat->Nat}{w:World}{p:Nat}{x:MS}(h:MM ρ w p x):w.cell? ⟨p,25,none⟩=some (.int .i64 x.left)∧w.frozen? ⟨p,25,none⟩=false:=by
 obtain ⟨L,B,T⟩:=h;exact ⟨B.row.cell (i:=25) (by omega),B.row.frozen 25⟩
theorem MM.cell14{ρ:Nat->Nat}{w:World}{p:Nat}{x:MS}(h:MM ρ w p x):w.cell? ⟨p,14,none⟩=some (.int .u64 x.held):=by
 obtain ⟨L,B,T⟩:=h;exact B.row.cell (i:=14) (by omega)
theorem MM.left{ρ:Nat->Nat}{w:World}{p:Nat}{x:MS}(h:MM ρ w p x)(n:Nat):MM ρ (w.setCell ⟨p,25,none⟩ (.int .i64 n)) p { x with left:=n }∧Fr (fun k=>1<=k∧k<=5) ρ w (w.setCell ⟨p,25,none⟩ (.int .i64 n)):=by
 obtain ⟨L,B,T⟩:=h;exact (((show Bh ρ w p x x L w from ⟨B,T,Fr.refl _ _ _⟩).set (z:={ x with left:=n }) 25 _ rfl ⟨rfl,rfl⟩).done rfl rfl rfl rfl ⟨rfl,rfl⟩)
structure Pw(ρ:Nat->Nat)(w:World)(p:Nat)(y:MS)(R:MS×Nat)(w':World):Prop where
 mm:MM ρ w' p y
 ok:Ok y
 eq:MS.plainL y.left y=R
 cnt:y.count<=32
 left:y.left<=65535
 fr:Fr (fun k=>1<=k∧k<=5) ρ w w'
theorem MS.plain_zero{y:MS}(h:y.left=0):MS.plainL y.left y=y.endBlock:=by rw [h];rfl
theorem MS.plain_succ{y:MS}{n:Nat}(h:y.left=n+1):MS.plainL y.left y=if (MS.need 8 y).2=0 then (if ((MS.need 8 y).1.put ((MS.need 8 y).1.num 8)).2=0 then MS.plainL n { ((MS.need 8 y).1.put ((MS.need 8 y).1.num 8)).1.rd 8 with left:=n } else (MS.need 8 y).1.put ((MS.need 8 y).1.num 8)) else MS.need 8 y:=by rw [h];rfl
theorem x1y{ρ:Nat->Nat}{w:World}{p:Nat}{x:MS}(h:MM ρ w p x)(ok:Ok x)(hx:x.count<=32)(hl:x.left<=65535)(hst:x.st=9) :
  Calls Tryz.prog 102 #[.pointer (some ⟨p,0,none⟩)] w fun v w'=>y0y ρ w p x.b9 v w':=by
 obtain ⟨R,hR⟩:∃ R,R=MS.plainL x.left x:=⟨_,rfl⟩
 have H0:Hid (∃ y,Pw ρ w p y R w):=⟨x,h,ok,hR.symm,hx,hl,Fr.refl _ _ _⟩
 have HF:Hid (x.b9=R):=by show x.b9=R;rw [hR];rfl
 have c7:=h.cell7.1;rw [hst] at c7;clear h ok hst hR hl hx;go_enter Tryz.func102,Tryz.ntmps102
 go_wp2_with fail
 go_loopw [] (fun wr=>Hid (∃ y,Pw ρ w p y R wr)) (fun wr=>xq0 wr p 25)
 case atStart=>exact H0
 case round=>
  clear H0;obtain ⟨y,Y⟩:=hrel.out;have c25:=Y.mm.cell25.1;have e25:=xv1 c25;have hl:=Y.left;have hcn:=Y.cnt;have HY:Hid (Pw ρ w p y R wr):=Y;clear Y hrel;by_cases hz:y.left=0
  ·have HZ:Hid (R=y.endBlock):=by show R=_;rw [← HY.out.eq,MS.plain_zero hz]
   rw [hz] at c25;clear hz;go_wp2_with fail
   refine (kbz HY.out.mm HY.out.ok (by omega)).mono ?_;rintro v w5 ⟨rfl,g1,g2⟩;have HR:Hid (MM ρ w5 p y.endBlock.1∧Fr (fun k=>1<=k∧k<=5) ρ w w5):=⟨g1,HY.out.fr.trans g2⟩
   clear g1 g2;go_wp2_with fail
   go_ret
   unfold y0y;rw [HF.out,HZ.out];exact ⟨rfl,HR.out⟩
  ·obtain ⟨n,hn⟩:∃ n,y.left=n+1:=⟨y.left - 1,by omega⟩
   have HS:Hid (R=if (MS.need 8 y).2=0 then (if ((MS.need 8 y).1.put ((MS.need 8 y).1.num 8)).2=0 then MS.plainL n { ((MS.need 8 y).1.put ((MS.need 8 y).1.num 8)).1.rd 8 with left:=n } else (MS.need 8 y).1.put ((MS.need 8 y).1.num 8)) else MS.need 8 y):=by show R=_;rw [← HY.out.eq,MS.plain_succ hn]
   have hpos:(0:Int)<y.left:=by omega
   clear hz;go_wp2_with fail
   refine (zvo 8 HY.out.mm HY.out.ok (by omega) (by omega)).mono ?_;rintro v w5 ⟨rfl,g1,g2⟩;by_cases h0:(MS.need 8 y).2=0
   ·have k1:=MS.need_cnt HY.out.ok h0;have k2:=MS.need_same HY.out.ok h0;have k3:=MS.need_ok (k:=8) HY.out.ok;rw [h0];rw [if_pos h0] at HS;obtain ⟨z,hzz⟩:∃ z,z=(MS.need 8 y).1:=⟨_,rfl⟩
    rw [← hzz] at g1 HS k1 k2 k3;have hzl:z.left=n+1:=by rw [k2];exact hn
    have HZ:Hid (MM ρ w5 p z∧Ok z∧Fr (fun k=>1<=k∧k<=5) ρ w w5):=⟨g1,k3,HY.out.fr.trans g2⟩
    have c14:=g1.cell14;have hb:z.num 8<256:=Nat.mod_lt _ (by decide);have hbi:(z.held:Int)%256=(z.num 8:Int):=by show _=((z.held%2^8:Nat):Int);omega
    have hhl:=k3.held;clear g1 g2 hzz k2 k3 h0;obtain ⟨P,hP⟩:∃ P,P=z.put (z.num 8):=⟨_,rfl⟩
    have HPF:=MS.put_facts HZ.out.2.1 (z.num 8);have HPT:Hid (Calls Tryz.prog 137 #[.pointer (some ⟨p,0,none⟩), .int .u8 (z.num 8)] w5 fun v w'=>y0y ρ w5 p P v w'):=by
     show Calls _ _ _ _ _;rw [hP];exact mPut (z.num 8) HZ.out.1 HZ.out.2.1 hb
    rw [← hP] at HS HPF;have HPF':Hid (Ok P.1∧(P.2=0->P.1=z.putted (z.num 8))):=HPF;clear hP HPF;obtain ⟨b,hb'⟩:∃ b,b=z.num 8:=⟨_,rfl⟩
    rw [← hb'] at hbi hb HPT HPF';clear hb';go_wp2_with fail
    refine HPT.out.mono ?_;rintro v w6 ⟨rfl,g1,g2⟩;by_cases h1:P.2=0
    ·have hPe:=HPF'.out.2 h1;have hPc:P.1.count=z.count:=by rw [hPe];rfl
     have hPl:P.1.left=n+1:=by rw [hPe];exact hzl
     rw [if_pos h1] at HS;have HQ:Hid (MM ρ w6 p P.1∧Ok P.1∧Fr (fun k=>1<=k∧k<=5) ρ w w6):=⟨g1,HPF'.out.1,HZ.out.2.2.trans g2⟩
     rw [h1];obtain ⟨Q,hQ⟩:∃ Q,Q=P.1:=⟨_,rfl⟩
     rw [← hQ] at HQ hPc hPl HS;clear g1 g2 hPe h1 hQ;go_wp2_with fail
     refine (zw3 8 HQ.out.1 HQ.out.2.1 (by omega) (by omega)).mono ?_;rintro v w7 ⟨rfl,g1,g2⟩;have HQ2:Hid (MM ρ w7 p (Q.rd 8)∧Ok (Q.rd 8)∧Fr (fun k=>1<=k∧k<=5) ρ w w7):=⟨g1,HQ.out.2.1.rd (by omega),HQ.out.2.2.trans g2⟩
     have d25:w7.cell? ⟨p,25,none⟩=some (.int .i64 (n+1:Nat)):=by rw [← hPl];exact g1.cell25.1
     have z25:=g1.cell25.2;have HL:=HQ2.out.1.left n;have HN:Hid (∃ y,Pw ρ w p y R (w7.setCell ⟨p,25,none⟩ (.int .i64 n))):=⟨{ Q.rd 8 with left:=n },HL.1,{ HQ2.out.2.1 with },HS.out.symm,by show Q.count - 8<=32;omega,by show n<=65535;omega,HQ2.out.2.2.trans HL.2⟩
     have eN:xq0 (w7.setCell ⟨p,25,none⟩ (.int .i64 n)) p 25=n:=xv1 HL.1.cell25.1;have hn1:((n+1:Nat):Int) - 1=(n:Int):=by omega
     clear g1 g2 HL;go_wp2_with fail
     go_roundw
     case rel=>exact HN
     case measure=>rw [e25,eN];omega
    ·rw [if_neg h1] at HS;obtain ⟨t,ht⟩:∃ t,t=P.2:=⟨_,rfl⟩
     have HR:Hid (MM ρ w6 p P.1∧Fr (fun k=>1<=k∧k<=5) ρ w w6∧P.2=t):=⟨g1,HZ.out.2.2.trans g2,ht.symm⟩
     rw [← ht] at h1 ⊢;have h0':((t:Int)==0)=false:=by simp;exact h1
     clear g1 g2 ht;go_wp2_with fail
     go_ret
     unfold y0y;rw [HF.out,HS.out,HR.out.2.2];exact ⟨rfl,HR.out.1,HR.out.2.1⟩
   ·rw [if_neg h0] at HS;obtain ⟨t,ht⟩:∃ t,t=(MS.need 8 y).2:=⟨_,rfl⟩
    have HR:Hid (MM ρ w5 p (MS.need 8 y).1∧Fr (fun k=>1<=k∧k<=5) ρ w w5∧(MS.need 8 y).2=t):=⟨g1,HY.out.fr.trans g2,ht.symm⟩
    rw [← ht] at h0 ⊢;have h0':((t:Int)==0)=false:=by simp;exact h0
    clear g1 g2 ht;go_wp2_with fail
    go_ret
    unfold y0y;rw [HF.out,HS.out,HR.out.2.2];exact ⟨rfl,HR.out.1,HR.out.2.1⟩
theorem xz4{ρ:Nat->Nat}{w:World}{p:Nat}{x:MS}(h:MM ρ w p x)(ok:Ok x)(hx:x.count<=32)(hst:x.st=8) :
  Calls Tryz.prog 102 #[.pointer (some ⟨p,0,none⟩)] w fun v w'=>y0y ρ w p x.b8 v w':=by
 have HM:Hid (MM ρ w p x∧Ok x):=⟨h,ok⟩
 have HE:Hid (x.b8=if (MS.need 32 x).2=0 then (if (MS.need 32 x).1.held / 65536%65536=65535 - (MS.need 32 x).1.num 16 then MS.b9 { (MS.need 32 x).1.rd 32 with left:=(MS.need 32 x).1.num 16,st:=9 } else ({ (MS.need 32 x).1.rd 32 with left:=(MS.need 32 x).1.num 16 }:MS).refuse 9) else MS.need 32 x):=rfl;have c7:=h.cell7.1;rw [hst] at c7;clear h ok hst;go_enter Tryz.func102,Tryz.ntmps102
 go_wp2_with fail
 refine (zvo 32 HM.out.1 HM.out.2 (by omega) (by omega)).mono ?_;rintro v w1 ⟨rfl,g1,g2⟩;by_cases h0:(MS.need 32 x).2=0
 ·have k1:=MS.need_cnt HM.out.2 h0;have k3:=MS.need_ok (k:=32) HM.out.2;rw [h0];rw [if_pos h0] at HE;obtain ⟨q,hq⟩:∃ q,q=(MS.need 32 x).1:=⟨_,rfl⟩
  rw [← hq] at g1 HE k1 k3;have HQ:Hid (MM ρ w1 p q∧Ok q∧Fr (fun k=>1<=k∧k<=5) ρ w w1):=⟨g1,k3,g2⟩
  clear g1 g2 hq k3 h0 HM c7;go_wp2_with fail
  refine (zw3 16 HQ.out.1 HQ.out.2.1 (by omega) (by omega)).mono ?_;rintro v w2 ⟨rfl,g1,g2⟩;have hv:q.num 16<65536:=Nat.mod_lt _ (by decide);have c25:=g1.cell25.1;have z25:=g1.cell25.2;have HL:=g1.left (q.num 16);have HQ2:Hid (MM ρ (w2.setCell ⟨p,25,none⟩ (.int .i64 (q.num 16:Nat))) p { q.rd 16 with left:=q.num 16 }∧Ok { q.rd 16 with left:=q.num 16 }∧Fr (fun k=>1<=k∧k<=5) ρ w (w2.setCell ⟨p,25,none⟩ (.int .i64 (q.num 16:Nat)))):=⟨HL.1,{ HQ.out.2.1.rd (k:=16) (by omega) with },(HQ.out.2.2.trans g2).trans HL.2⟩
  have HNB:Hid (({ q.rd 16 with left:=q.num 16 }:MS).num 16=q.held / 65536%65536∧({ q.rd 16 with left:=q.num 16 }:MS).rd 16={ q.rd 32 with left:=q.num 16 }∧({ q.rd 16 with left:=q.num 16 }:MS).count=q.count - 16):=by
   refine ⟨rfl,?_,rfl⟩;have:=MS.rd_rd q 16 16;unfold MS.rd at this ⊢;injection this;simp_all
  clear g1 g2 HL;obtain ⟨V,hV⟩:∃ V,V=q.num 16:=⟨_,rfl⟩
  rw [← hV] at HQ2 HNB HE hv ⊢;have HV:Hid (V=q.num 16):=hV;clear hV;obtain ⟨z,hz⟩:∃ z:MS,z={ q.rd 16 with left:=V }:=⟨_,rfl⟩
  rw [← hz] at HQ2 HNB;have hzl:z.left=V:=by rw [hz]
  clear hz;have HRD:Hid (∀ wq,MM ρ wq p z->Calls Tryz.prog 134 #[.pointer (some ⟨p,14,none⟩), .int .i64 (16:Nat)] wq fun v w'=>v= .returned (.int .i64 (z.num 16))∧MM ρ w' p (z.rd 16)∧Fr (fun k=>1<=k∧k<=5) ρ wq w'):=fun wq m=>zw3 16 m HQ2.out.2.1 (by have:=HNB.out.2.2;omega) (by have:=HNB.out.2.2;omega)
  have HN16:Hid (z.num 16=q.held / 65536%65536):=HNB.out.1;have hn16:z.num 16<65536:=Nat.mod_lt _ (by decide);obtain ⟨N,hN⟩:∃ N,N=z.num 16:=⟨_,rfl⟩
  rw [← hN] at HRD HN16 hn16;clear hN;rw [← HN16.out] at HE;have HOKZ:Hid (Ok (z.rd 16)):=HQ2.out.2.1.rd (by have:=HNB.out.2.2;omega);obtain ⟨u,hu⟩:∃ u,u=z.rd 16:=⟨_,rfl⟩
  rw [← hu] at HRD HOKZ;have HU:Hid (u={ q.rd 32 with left:=V }):=by show u=_;rw [hu];exact HNB.out.2.1
  clear hu;have huc:u.count<=32:=by rw [HU.out];show q.count - 32<=32;omega
  have hul:u.left=V:=by rw [HU.out]
  generalize hW2:w2.setCell ⟨p,25,none⟩ (.int .i64 (V:Nat))=W2 at *;have d25:W2.cell? ⟨p,25,none⟩=some (.int .i64 V):=by rw [← hzl];exact HQ2.out.1.cell25.1
  have hwv:IntKind.i64.wrap (65535 - (V:Int))=65535 - (V:Int):=by rw [IntWalk.i64_left,IntWalk.wrap64_in _ ⟨by omega,by omega⟩]
  by_cases he:N=65535 - V
  ·rw [if_pos he] at HE;have hed:((N:Int) !=IntKind.i64.wrap (65535 - (V:Int)))=false:=by rw [hwv];simp;omega
   have HF:Hid (x.b8=MS.b9 { u with st:=9 }):=by show x.b8=_;rw [HE.out,HU.out]
   clear he HE;go_wp2_with fail
   go_region_held3 (fun wv=>wv.cell? ⟨p,25,none⟩=some (.int .i64 V)) (first | exact d25 | exact e25') (first | (go_at_call 134;refine (HRD.out _ (HQ2.out.1.drewN 1)).mono ?_;rintro e w3 ⟨rfl,g1,g2⟩;have HR:Hid (MM ρ w3 p u∧Fr (fun k=>1<=k∧k<=5) ρ w w3):=⟨g1,(HQ2.out.2.2.drewN 1).trans g2⟩;have e25':w3.cell? ⟨p,25,none⟩=some (.int .i64 V):=by { rw [← hul];exact g1.cell25.1 };clear g1 g2))
   have k7:=HR.out.1.cell7.1;have z7:=HR.out.1.cell7.2;obtain ⟨R,hR⟩:∃ R,R=MS.b9 { u with st:=9 }:=⟨_,rfl⟩
   rw [← hR] at HF;have H0:Hid (∃ y,Pw ρ w p y R (w3.setCell ⟨p,7,none⟩ (.int .i64 9))):=⟨{ u with st:=9 },(HR.out.1.st 9).1,HOKZ.out.st 9,hR.symm,huc,by show u.left<=65535;omega,HR.out.2.trans (HR.out.1.st 9).2⟩
   clear hR HNB HU HV HN16 HRD HQ2 HQ d25 e25' hzl c25 z25 hul;go_wp2_with fail
   clear hwv hed;generalize (65535 - (V:Int))=vv;generalize ((N:Int) !=vv)=bb;go_loopw [] (fun wr=>Hid (∃ y,Pw ρ w p y R wr)) (fun wr=>xq0 wr p 25)
   case atStart=>exact H0
   case round=>
    clear H0;obtain ⟨y,Y⟩:=hrel.out;have c25:=Y.mm.cell25.1;have e25:=xv1 c25;have hl:=Y.left;have hcn:=Y.cnt;have HY:Hid (Pw ρ w p y R wr):=Y;clear Y hrel;by_cases hz:y.left=0
    ·have HZ:Hid (R=y.endBlock):=by show R=_;rw [← HY.out.eq,MS.plain_zero hz]
     rw [hz] at c25;clear hz;go_wp2_with fail
     refine (kbz HY.out.mm HY.out.ok (by omega)).mono ?_;rintro v w5 ⟨rfl,g1,g2⟩;have HR:Hid (MM ρ w5 p y.endBlock.1∧Fr (fun k=>1<=k∧k<=5) ρ w w5):=⟨g1,HY.out.fr.trans g2⟩
     clear g1 g2;go_wp2_with fail
     go_ret
     unfold y0y;rw [HF.out,HZ.out];exact ⟨rfl,HR.out⟩
    ·obtain ⟨n,hn⟩:∃ n,y.left=n+1:=⟨y.left - 1,by omega⟩
     have HS:Hid (R=if (MS.need 8 y).2=0 then (if ((MS.need 8 y).1.put ((MS.need 8 y).1.num 8)).2=0 then MS.plainL n { ((MS.need 8 y).1.put ((MS.need 8 y).1.num 8)).1.rd 8 with left:=n } else (MS.need 8 y).1.put ((MS.need 8 y).1.num 8)) else MS.need 8 y):=by show R=_;rw [← HY.out.eq,MS.plain_succ hn]
     have hpos:(0:Int)<y.left:=by omega
     clear hz;go_wp2_with fail
     refine (zvo 8 HY.out.mm HY.out.ok (by omega) (by omega)).mono ?_;rintro v w5 ⟨rfl,g1,g2⟩;by_cases h0:(MS.need 8 y).2=0
     ·have k1:=MS.need_cnt HY.out.ok h0;have k2:=MS.need_same HY.out.ok h0;have k3:=MS.need_ok (k:=8) HY.out.ok;rw [h0];rw [if_pos h0] at HS;obtain ⟨z,hzz⟩:∃ z,z=(MS.need 8 y).1:=⟨_,rfl⟩
      rw [← hzz] at g1 HS k1 k2 k3;have hzl:z.left=n+1:=by rw [k2];exact hn
      have HZ:Hid (MM ρ w5 p z∧Ok z∧Fr (fun k=>1<=k∧k<=5) ρ w w5):=⟨g1,k3,HY.out.fr.trans g2⟩
      have c14:=g1.cell14;have hb:z.num 8<256:=Nat.mod_lt _ (by decide);have hbi:(z.held:Int)%256=(z.num 8:Int):=by show _=((z.held%2^8:Nat):Int);omega
      have hhl:=k3.held;clear g1 g2 hzz k2 k3 h0;obtain ⟨P,hP⟩:∃ P,P=z.put (z.num 8):=⟨_,rfl⟩
      have HPF:=MS.put_facts HZ.out.2.1 (z.num 8);have HPT:Hid (Calls Tryz.prog 137 #[.pointer (some ⟨p,0,none⟩), .int .u8 (z.num 8)] w5 fun v w'=>y0y ρ w5 p P v w'):=by
       show Calls _ _ _ _ _;rw [hP];exact mPut (z.num 8) HZ.out.1 HZ.out.2.1 hb
      rw [← hP] at HS HPF;have HPF':Hid (Ok P.1∧(P.2=0->P.1=z.putted (z.num 8))):=HPF;clear hP HPF;obtain ⟨b,hb'⟩:∃ b,b=z.num 8:=⟨_,rfl⟩
      rw [← hb'] at hbi hb HPT HPF';clear hb';go_wp2_with fail
      refine HPT.out.mono ?_;rintro v w6 ⟨rfl,g1,g2⟩;by_cases h1:P.2=0
      ·have hPe:=HPF'.out.2 h1;have hPc:P.1.count=z.count:=by rw [hPe];rfl
       have hPl:P.1.left=n+1:=by rw [hPe];exact hzl
       rw [if_pos h1] at HS;have HQ:Hid (MM ρ w6 p P.1∧Ok P.1∧Fr (fun k=>1<=k∧k<=5) ρ w w6):=⟨g1,HPF'.out.1,HZ.out.2.2.trans g2⟩
       rw [h1];obtain ⟨Q,hQ⟩:∃ Q,Q=P.1:=⟨_,rfl⟩
       rw [← hQ] at HQ hPc hPl HS;clear g1 g2 hPe h1 hQ;go_wp2_with fail
       refine (zw3 8 HQ.out.1 HQ.out.2.1 (by omega) (by omega)).mono ?_;rintro v w7 ⟨rfl,g1,g2⟩;have HQ2:Hid (MM ρ w7 p (Q.rd 8)∧Ok (Q.rd 8)∧Fr (fun k=>1<=k∧k<=5) ρ w w7):=⟨g1,HQ.out.2.1.rd (by omega),HQ.out.2.2.trans g2⟩
       have d25:w7.cell? ⟨p,25,none⟩=some (.int .i64 (n+1:Nat)):=by rw [← hPl];exact g1.cell25.1
       have z25:=g1.cell25.2;have HL:=HQ2.out.1.left n;have HN:Hid (∃ y,Pw ρ w p y R (w7.setCell ⟨p,25,none⟩ (.int .i64 n))):=⟨{ Q.rd 8 with left:=n },HL.1,{ HQ2.out.2.1 with },HS.out.symm,by show Q.count - 8<=32;omega,by show n<=65535;omega,HQ2.out.2.2.trans HL.2⟩
       have eN:xq0 (w7.setCell ⟨p,25,none⟩ (.int .i64 n)) p 25=n:=xv1 HL.1.cell25.1;have hn1:((n+1:Nat):Int) - 1=(n:Int):=by omega
       clear g1 g2 HL;go_wp2_with fail
       go_roundw
       case rel=>exact HN
       case measure=>rw [e25,eN];omega
      ·rw [if_neg h1] at HS;obtain ⟨t,ht⟩:∃ t,t=P.2:=⟨_,rfl⟩
       have HR:Hid (MM ρ w6 p P.1∧Fr (fun k=>1<=k∧k<=5) ρ w w6∧P.2=t):=⟨g1,HZ.out.2.2.trans g2,ht.symm⟩
       rw [← ht] at h1 ⊢;have h0':((t:Int)==0)=false:=by simp;exact h1
       clear g1 g2 ht;go_wp2_with fail
       go_ret
       unfold y0y;rw [HF.out,HS.out,HR.out.2.2];exact ⟨rfl,HR.out.1,HR.out.2.1⟩
     ·rw [if_neg h0] at HS;obtain ⟨t,ht⟩:∃ t,t=(MS.need 8 y).2:=⟨_,rfl⟩
      have HR:Hid (MM ρ w5 p (MS.need 8 y).1∧Fr (fun k=>1<=k∧k<=5) ρ w w5∧(MS.need 8 y).2=t):=⟨g1,HY.out.fr.trans g2,ht.symm⟩
      rw [← ht] at h0 ⊢;have h0':((t:Int)==0)=false:=by simp;exact h0
      clear g1 g2 ht;go_wp2_with fail
      go_ret
      unfold y0y;rw [HF.out,HS.out,HR.out.2.2];exact ⟨rfl,HR.out.1,HR.out.2.1⟩
  ·rw [if_neg he] at HE;have hed:((N:Int) !=IntKind.i64.wrap (65535 - (V:Int)))=true:=by rw [hwv];simp;omega
   have HF:Hid (x.b8=u.refuse 9):=by show x.b8=_;rw [HE.out,HU.out]
   clear he HE;go_wp2_with fail
   go_region_held3 (fun wv=>wv.cell? ⟨p,25,none⟩=some (.int .i64 V)) (first | exact d25 | exact e25') (first | (go_at_call 134;refine (HRD.out _ (HQ2.out.1.drewN 1)).mono ?_;rintro e w3 ⟨rfl,g1,g2⟩;have HR:Hid (MM ρ w3 p u∧Fr (fun k=>1<=k∧k<=5) ρ w w3):=⟨g1,(HQ2.out.2.2.drewN 1).trans g2⟩;have e25':w3.cell? ⟨p,25,none⟩=some (.int .i64 V):=by { rw [← hul];exact g1.cell25.1 };clear g1 g2))
   go_wp2_with fail
   refine (kv8 9 HR.out.1).mono ?_;rintro v w4 ⟨rfl,g3,g4⟩;have HR2:Hid (MM ρ w4 p (u.refuse 9).1∧Fr (fun k=>1<=k∧k<=5) ρ w w4):=⟨g3,HR.out.2.trans g4⟩
   clear g3 g4;go_wp2_with fail
   go_ret
   unfold y0y;rw [HF.out];exact ⟨rfl,HR2.out⟩
 ·rw [if_neg h0] at HE;obtain ⟨t,ht⟩:∃ t,t=(MS.need 32 x).2:=⟨_,rfl⟩
  have HR:Hid (MM ρ w1 p (MS.need 32 x).1∧Fr (fun k=>1<=k∧k<=5) ρ w w1∧(MS.need 32 x).2=t):=⟨g1,g2,ht.symm⟩
  rw [← ht] at h0 ⊢;have h0':((t:Int)==0)=false:=by simp;exact h0
  clear g1 g2 ht;go_wp2_with fail
  go_ret
  unfold y0y;rw [HE.out,HR.out.2.2];exact ⟨rfl,HR.out.1,HR.out.2.1⟩
theorem MM.new{ρ:Nat->Nat}{w:World}{p:Nat}{x:MS}(h:MM ρ w p x)(k:Nat)(hk:w.heap.size<=k):ρ k=0:=by
 obtain ⟨L,B,T⟩:=h;apply Classical.byContradiction;intro hn;have:=T.lt k hn;omega
theorem Fr.cell{R:Nat->Prop}{ρ:Nat->Nat}{w w':World}(f:Fr R ρ w w'){g i:Nat}{v:Value}(h:w.cell? ⟨g,i,none⟩=some v)(hg:g<w.heap.size)(hr:¬ R (ρ g)):w'.cell? ⟨g,i,none⟩=some v:=by
 unfold World.cell? at h ⊢;rw [f.kp.block g hg hr];exact h
theorem Fr.lt{R:Nat->Prop}{ρ:Nat->Nat}{w w':World}(f:Fr R ρ w w'){g:Nat}(h:g<w.heap.size):g<w'.heap.size:=Nat.lt_of_lt_of_le h f.kp.size
theorem no0:¬ (1<=0∧0<=5):=by decide
theorem xh4{ρ:Nat->Nat}{w:World}{p:Nat}{x:MS}(least bits:Nat)(h:MM ρ w p x)(ok:Ok x)(hx:x.count<=40)(hb:bits<=16)(hl:least<=1000000) :
  Calls Tryz.prog 141 #[.pointer (some ⟨p,0,none⟩), .agg #[.int .i64 least, .int .i64 bits]] w fun v w'=>v5b .i64 ρ w p (x.spanR least bits) v w':=by
 have r0:ρ w.heap.size=0:=h.new _ (Nat.le_refl _);have b0:Below w.heap.size w (w.alloc (.cells #[.int .i64 least, .int .i64 bits] 125)):=(Below.refl _ _).alloc (Nat.le_refl _) _;have HM:Hid (MM ρ (w.alloc (.cells #[.int .i64 least, .int .i64 bits] 125)) p x∧Ok x∧Fr (fun k=>1<=k∧k<=5) ρ w (w.alloc (.cells #[.int .i64 least, .int .i64 bits] 125))∧ρ w.heap.size=0):=⟨h.below b0,ok,Fr.below b0,r0⟩
 have HE:Hid (x.spanR least bits=if (MS.need bits x).2=0 then ((MS.need bits x).1.rd bits,0,least+(MS.need bits x).1.num bits) else ((MS.need bits x).1,(MS.need bits x).2,0)):=rfl;have c0:(w.alloc (.cells #[.int .i64 least, .int .i64 bits] 125)).cell? ⟨w.heap.size,0,none⟩=some (.int .i64 least):=by simp
 have c1:(w.alloc (.cells #[.int .i64 least, .int .i64 bits] 125)).cell? ⟨w.heap.size,1,none⟩=some (.int .i64 bits):=by simp
 have hg:w.heap.size<(w.alloc (.cells #[.int .i64 least, .int .i64 bits] 125)).heap.size:=by simp
 clear h ok b0 r0;go_enter Tryz.func141,Tryz.ntmps141
 go_wp2_with fail
 generalize w.alloc (.cells #[.int .i64 least, .int .i64 bits] 125)=W at *;refine (zvo bits HM.out.1 HM.out.2.1 (by omega) (by omega)).mono ?_;rintro v w1 ⟨rfl,g1,g2⟩;by_cases h0:(MS.need bits x).2=0
 ·have k1:=MS.need_cnt HM.out.2.1 h0;have k3:=MS.need_ok (k:=bits) HM.out.2.1;rw [h0];rw [if_pos h0] at HE;obtain ⟨y,hy⟩:∃ y,y=(MS.need bits x).1:=⟨_,rfl⟩
  rw [← hy] at g1 HE k1 k3;have HY:Hid (MM ρ w1 p y∧Ok y∧Fr (fun k=>1<=k∧k<=5) ρ w w1∧ρ w.heap.size=0):=⟨g1,k3,HM.out.2.2.1.trans g2,HM.out.2.2.2⟩
  have d0:=g2.cell c0 hg (by rw [HM.out.2.2.2];exact no0);have d1:=g2.cell c1 hg (by rw [HM.out.2.2.2];exact no0);have hg1:=g2.lt hg;clear g1 g2 hy h0 c0 c1 k3;have HRD:Hid (∀ n,Calls Tryz.prog 134 #[.pointer (some ⟨p,14,none⟩), .int .i64 bits] (w1.drewN n) fun v w'=>v= .returned (.int .i64 (y.num bits))∧MM ρ w' p (y.rd bits)∧Fr (fun k=>1<=k∧k<=5) ρ (w1.drewN n) w'):=fun n=>zw3 bits (HY.out.1.drewN n) HY.out.2.1 k1.1 (by omega)
  have hnum:y.num bits<65536:=Nat.lt_of_lt_of_le (Nat.mod_lt _ (Nat.two_pow_pos bits)) (by
   have:2^bits<=2^16:=Nat.pow_le_pow_right (by decide) hb;simpa using this)
  obtain ⟨m,hm⟩:∃ m,m=y.num bits:=⟨_,rfl⟩
  rw [← hm] at HRD HE hnum;clear hm;have hw:IntKind.i64.wrap ((least:Int)+m)=((least+m:Nat):Int):=by rw [IntWalk.i64_left,IntWalk.wrap64_in _ ⟨by omega,by omega⟩];omega
  have HW:Hid (IntKind.i64.wrap ((least:Int)+m)=((least+m:Nat):Int)):=hw;clear hw;go_wp2_with fail
  go_region_held3 (fun wv=>wv.cell? ⟨w.heap.size,0,none⟩=some (.int .i64 least)∧wv.cell? ⟨w.heap.size,1,none⟩=some (.int .i64 bits)) (first | exact ⟨d0,d1⟩ | exact ⟨e0,e1⟩)
   (first | (go_at_call 134;refine (HRD.out 1).mono ?_;rintro e w2 ⟨rfl,g1,g2⟩;have HR:Hid (MM ρ w2 p (y.rd bits)∧Fr (fun k=>1<=k∧k<=5) ρ w w2):=⟨g1,(HY.out.2.2.1.drewN 1).trans g2⟩;have e0:=g2.cell d0 hg1 (by rw [HY.out.2.2.2];exact no0);have e1:=g2.cell d1 hg1 (by rw [HY.out.2.2.2];exact no0);clear g1 g2))
  all_goals
   go_wp2_with fail
   go_ret2
   unfold v5b;rw [HE.out];first
    | (rw [HW.out];exact ⟨rfl,HR.out⟩)
    | (
      have e9:((least+m:Nat):Int)=(least:Int)+m:=by omega
      rw [e9];exact ⟨rfl,HR.out⟩)
    | (rw [← HW.out];exact ⟨rfl,HR.out⟩)
 ·obtain ⟨t,ht⟩:∃ t,t=(MS.need bits x).2:=⟨_,rfl⟩
  rw [if_neg h0] at HE;have HR:Hid (MM ρ w1 p (MS.need bits x).1∧Fr (fun k=>1<=k∧k<=5) ρ w w1):=⟨g1,HM.out.2.2.1.trans g2⟩
  rw [← ht] at h0 HE ⊢;have h0':((t:Int)==0)=false:=by simp;exact h0
  clear g1 g2 ht;go_wp2_with fail
  go_ret2
  unfold v5b;rw [HE.out];exact ⟨rfl,HR.out⟩
namespace LiteralT
theorem four(k:Nat):∃ (v1:Int) (v2:Int) (v3 v4:Int),litC k=#[.int .i64 v1, .int .u8 v2, .int .i64 v3, .int .i64 v4]:=by
 unfold litC;(repeat' split) <;> exact ⟨_,_,_,_,rfl⟩
def newW(wr:World)(p n:Nat)(l:List Int):World:=
 (((wr.setCell ⟨p,37,none⟩ (.slice (some ⟨wr.heap.size,0,none⟩) n n)).alloc (.cells (madeCells #[.int .i64 0, .int .u8 0, .int .i64 0, .int .i64 0] (n*4)) 218)).alloc (.cells (arr (fun _=>0)) 197)).setRow (wr.heap.size+1) (arr (bsum l))
def zero4(j:Nat):Value:=if j%4=1 then .int .u8 0 else .int .i64 0
theorem made4(w:World)(n:Nat)(t:TypeId):(w.alloc (.cells (madeCells #[.int .i64 0, .int .u8 0, .int .i64 0, .int .i64 0] (n*4)) t)).rowIs w.heap.size t (n*4) zero4:=by
 have:=World.rowIs_alloc w (madeCells #[.int .i64 0, .int .u8 0, .int .i64 0, .int .i64 0] (n*4)) t zero4 (fun i hi=>by
  have h2:i<n*4:=by simpa [size_madeCells] using hi
  have h3:i%4=0∨i%4=1∨i%4=2∨i%4=3:=by omega
  rcases h3 with h3 | h3 | h3 | h3 <;> simp [madeCells,zero4,h2,h3])
 rwa [size_madeCells] at this
theorem newW_at(wr:World)(p n:Nat):((((wr.setCell ⟨p,37,none⟩ (.slice (some ⟨wr.heap.size,0,none⟩) n n)).alloc (.cells (madeCells #[.int .i64 0, .int .u8 0, .int .i64 0, .int .i64 0] (n*4)) 218)).alloc (.cells (arr (fun _=>0)) 197)).heap[wr.heap.size+1]?)=some (.cells (arr (fun _=>0)) 197):=by
 have:=heap_alloc2_new (wr.setCell ⟨p,37,none⟩ (.slice (some ⟨wr.heap.size,0,none⟩) n n)) (.cells (madeCells #[.int .i64 0, .int .u8 0, .int .i64 0, .int .i64 0] (n*4)) 218) (.cells (arr (fun _=>0)) 197);simpa using this
theorem newW_facts{w wr:World}{p n:Nat}{l:List Int}{cnt fst:Nat->Int}{lg:Nat}(h:wr.rowIs p 268 38 (bfv cnt fst (bgTo l 12) lg (.slice none 0 0)))(hb:Below w.heap.size w wr)(hp:w.heap.size<=p) :
  (newW wr p n l).rowIs p 268 38 (bfv cnt fst (bgTo l 12) lg (.slice (some ⟨wr.heap.size,0,none⟩) n n))∧(newW wr p n l).rowIs wr.heap.size 218 (n*4) zero4∧
  (newW wr p n l).rowIs (wr.heap.size+1) 197 12 (fun j=> .int .i64 (bsum l j))∧Below w.heap.size w (newW wr p n l):=by
 have hl:=h.lt;have hz:(wr.setCell ⟨p,37,none⟩ (.slice (some ⟨wr.heap.size,0,none⟩) n n)).heap.size=wr.heap.size:=by simp
 have hs:=hb.size;refine ⟨?_,?_,?_,?_⟩
 ·exact (((jb3 _ h).alloc _).alloc _).of_block (setRow_other _ _ _ _ (by omega))
 ·have:=(made4 (wr.setCell ⟨p,37,none⟩ (.slice (some ⟨wr.heap.size,0,none⟩) n n)) n 218).alloc (.cells (arr (fun _=>0)) 197);rw [hz] at this;exact this.of_block (setRow_other _ _ _ _ (by omega))
 ·exact ⟨arr (bsum l),setRow_heap _ _ _ _ _ _ (newW_at wr p n),rfl,fun i hi=>zge _ _ hi⟩
 ·exact below_setRow (((hb.setCell (p:=⟨p,37,none⟩) hp _).alloc (by rw [hz];exact hs) _).alloc (by simp;omega) _) (by omega) _
def Filled(l:List Int)(f:Nat->Value)(k:Nat):Prop:=∀ i,i<k->0<l.getD i 0->#[f (pos l i*4),f (pos l i*4+1),f (pos l i*4+2),f (pos l i*4+3)]=litC i
theorem Filled.skip{l:List Int}{f:Nat->Value}{k:Nat}(h:Filled l f k)(e0:l.getD k 0=0):Filled l f (k+1):=fun i hi h0=>by
 by_cases e:i=k
 ·subst e;omega
 ·exact h i (by omega) h0
theorem Filled.step{l:List Int}{f:Nat->Value}{k x:Nat}{v1 v2 v3 v4:Value}(h:Filled l f k)(hl:l.length<=269)(hr:inRange l=true)(hk:k<l.length)(hx:l[k]=(x:Int))(h0:0<x)(h12:x<12)(hv:litC k=#[v1,v2,v3,v4]) :
  Filled l (fun j=>if j=pos l k*4+3 then v4 else if j=pos l k*4+2 then v3 else if j=pos l k*4+1 then v2 else if j=pos l k*4 then v1 else f j) (k+1):=fun i hi hp=>by
 by_cases e:i=k
 ·subst e;simp [hv]
 ·have hi':i<k:=by omega
  have hil:i<l.length:=by omega
  obtain ⟨y,hy,hy12⟩:∃ y:Nat,l[i]=(y:Int)∧y<12:=by
   have:=(vto l).1 hr l[i] (List.getElem_mem hil);exact ⟨l[i].toNat,by omega,by omega⟩
  have hg:l.getD i 0=(y:Int):=by simp [hil,hy]
  have ne:=z4t hi' hk hil hy hx hl (by omega) hy12 h0 h12;have hh:=h i hi' hp;rw [← hh];have q:∀ j,pos l i*4<=j->j<pos l i*4+4->(if j=pos l k*4+3 then v4 else if j=pos l k*4+2 then v3 else if j=pos l k*4+1 then v2 else if j=pos l k*4 then v1 else f j)=f j:=fun j h1 h2=>by
   rw [if_neg (by omega),if_neg (by omega),if_neg (by omega),if_neg (by omega)]
  have c4:∀ a b c d a' b' c' d':Value,a=a'->b=b'->c=c'->d=d'->#[a,b,c,d]=#[a',b',c',d']:=by intro a b c d a' b' c' d' h1 h2 h3 h4;rw [h1,h2,h3,h4]
  exact c4 _ _ _ _ _ _ _ _ (q _ (by omega) (by omega)) (q _ (by omega) (by omega)) (q _ (by omega) (by omega)) (q _ (by omega) (by omega))
theorem four_set_cell{w:World}{m i j k l:Nat}{v u x y:Value}{q:Addr}(h:q.block≠m):((((w.setCell ⟨m,i,none⟩ v).setCell ⟨m,j,none⟩ u).setCell ⟨m,k,none⟩ x).setCell ⟨m,l,none⟩ y).cell? q=w.cell? q:=
 (((World.cell?_setCell_far _ _ _ _ (Ne.symm h)).trans (World.cell?_setCell_far _ _ _ _ (Ne.symm h))).trans (World.cell?_setCell_far _ _ _ _ (Ne.symm h))).trans (World.cell?_setCell_far _ _ _ _ (Ne.symm h))
theorem new_round{w wr w7:World}{p m n k x P:Nat}{l:List Int}{F:Nat->Value}{f:Nat->Value}{v1 v2 v3 v4:Value}(q1:wr.rowIs p 268 38 F)(q2:wr.rowIs m 218 (n*4) f)(q4:wr.rowIs (m+1) 197 12 (fun j=> .int .i64 (bsum l j+cn (l.take k) j)))
  (q5:Below w.heap.size w wr) (hb:Below wr.heap.size wr w7) (hk:k<l.length) (hx:l[k]=(x:Int)) (h0:0<x) (_h12:x<12) (hpm:p≠m) (hpm2:p≠m+1) (_hp:w.heap.size<=p) (hm:w.heap.size<=m) (hN:bsum l x+cn (l.take k) x=(pos l k:Int)) (hP:P=pos l k) :
  (((((w7.setCell ⟨m,P*4,none⟩ v1).setCell ⟨m,P*4+1,none⟩ v2).setCell ⟨m,P*4+2,none⟩ v3).setCell ⟨m,P*4+3,none⟩ v4).setCell ⟨m+1,x,none⟩ (.int .i64 (P+1))).rowIs p 268 38 F∧
  (((((w7.setCell ⟨m,P*4,none⟩ v1).setCell ⟨m,P*4+1,none⟩ v2).setCell ⟨m,P*4+2,none⟩ v3).setCell ⟨m,P*4+3,none⟩ v4).setCell ⟨m+1,x,none⟩ (.int .i64 (P+1))).rowIs m 218 (n*4) (fun j=>if j=P*4+3 then v4 else if j=P*4+2 then v3 else if j=P*4+1 then v2 else if j=P*4 then v1 else f j)∧
  (((((w7.setCell ⟨m,P*4,none⟩ v1).setCell ⟨m,P*4+1,none⟩ v2).setCell ⟨m,P*4+2,none⟩ v3).setCell ⟨m,P*4+3,none⟩ v4).setCell ⟨m+1,x,none⟩ (.int .i64 (P+1))).rowIs (m+1) 197 12 (fun j=> .int .i64 (bsum l j+cn (l.take (k+1)) j))∧
  Below w.heap.size w (((((w7.setCell ⟨m,P*4,none⟩ v1).setCell ⟨m,P*4+1,none⟩ v2).setCell ⟨m,P*4+2,none⟩ v3).setCell ⟨m,P*4+3,none⟩ v4).setCell ⟨m+1,x,none⟩ (.int .i64 (P+1))):=by
 have e:(P:Int)+1=bsum l x+cn (l.take k) x+1:=by omega
 refine ⟨?_,?_,?_,?_⟩
 ·exact (((((j96 q1 hb q1.lt).setOther (a:=⟨m,P*4,none⟩) hpm _).setOther (a:=⟨m,P*4+1,none⟩) hpm _).setOther (a:=⟨m,P*4+2,none⟩) hpm _).setOther (a:=⟨m,P*4+3,none⟩) hpm _).setOther (a:=⟨m+1,x,none⟩) hpm2 _
 ·exact (((((j96 q2 hb q2.lt).set (P*4) _).set (P*4+1) _).set (P*4+2) _).set (P*4+3) _).setOther (a:=⟨m+1,x,none⟩) (by simp) _
 ·rw [e];exact jr9 hk hx h0 (((((j96 q4 hb q4.lt).setOther (a:=⟨m,P*4,none⟩) (by simp) _).setOther (a:=⟨m,P*4+1,none⟩) (by simp) _).setOther (a:=⟨m,P*4+2,none⟩) (by simp) _).setOther (a:=⟨m,P*4+3,none⟩) (by simp) _)
 ·exact (((((q5.trans (hb.mono q5.size)).setCell (p:=⟨m,P*4,none⟩) hm _).setCell (p:=⟨m,P*4+1,none⟩) hm _).setCell (p:=⟨m,P*4+2,none⟩) hm _).setCell (p:=⟨m,P*4+3,none⟩) hm _).setCell (p:=⟨m+1,x,none⟩) (by show w.heap.size<=m+1;omega) _
theorem info':(Tryz.prog.info? 218).map (fun i=>(i.zero,i.size,i.bytes))=some (some (.agg #[.int .i64 0, .int .u8 0, .int .i64 0, .int .i64 0]),4,32):=by kernel_rfl
theorem make(n:Nat)(hn:n<=12000000)(w:World):(Instr.makeSlice 266 (.int .i64 (n:Int)) (.int .i64 (n:Int))).run Tryz.prog w= .ok (.slice (some ⟨w.heap.size,0,none⟩) n n) (w.alloc (.cells (madeCells #[.int .i64 0, .int .u8 0, .int .i64 0, .int .i64 0] (n*4)) 218)):=by
 obtain ⟨i,hi,hz⟩:=Option.map_eq_some_iff.1 info';simp only [Prod.mk.injEq] at hz;have hr:=run_make (P:=Tryz.prog) w 266 218 i _ Tryz.underlying266 hi hz.1 .i64 .i64 n n (by omega) (Int.le_refl _) (by rw [hz.2.2];omega) (by omega);simp only [Int.toNat_natCast,hz.2.1] at hr;exact hr
theorem tab_build(f g:Nat->Int)(w:World):(Instr.build 268 #[(0, .agg (arr f)),(1, .agg (arr g))]).run Tryz.prog w= .ok (.agg (tab0 f g)) w:=by kernel_rfl
theorem tab_box(f g:Nat->Int)(w:World):(Instr.box 268 (.agg (tab0 f g))).run Tryz.prog w= .ok (.pointer (some ⟨w.heap.size,0,none⟩)) (w.alloc (.cells (tab0 f g) 268)):=by kernel_rfl
theorem newTable(ad:Option Addr)(cap:Nat)(l:List Int)(w:World)(hl16:l.length<=269)(hc:xin w ad l)(hr:inRange l=true) :
  Calls Tryz.prog 191 #[.slice ad l.length cap, .func (.func 192) #[] #[]] w fun e w'=>∃ (p m n:Nat) (f:Nat->Value),e= .returned (.pointer (some ⟨p,0,none⟩))∧bsum l 12=n∧
   TabI w' 268 4 p m n (cn l) (fc (cn l)) (bgTo l 12) (lgTo l 12) (fun j=>[f (j*4),f (j*4+1),f (j*4+2),f (j*4+3)])∧Filled l f l.length∧w.heap.size<=p∧w.heap.size<=m∧Below w.heap.size w w':=by
 have hl:l.length<=269:=by omega
 have HC:Hid (xin w ad l):=hc;have HB:Hid (∀ j,j<12->0<=cn l j∧cn l j<=1000000):=z7r hl;go_enter Tryz.func191,Tryz.ntmps191
 go_wp2_with fail
 refine (v5q ad cap l _ (by omega) hc hr).mono ?_;rintro e w1 ⟨rfl,hb1⟩;have HG1:Hid (Below w.heap.size w w1):=hb1;clear hb1 hc;go_wp2_with (first | (refine wpList_store_row rfl 199 _ _ rfl _ _ rfl rfl 199 _ (heap_alloc_new _ _) (zvc _) rfl (yui _) ?_;rw [World.setRow_alloc_new]))
 have hW:(w1.alloc (.cells (arr (cn l)) 199)).heap[w1.heap.size]?=some (.cells (arr (cn l)) 199):=heap_alloc_new _ _;have HW:Hid (Below w.heap.size w (w1.alloc (.cells (arr (cn l)) 199))):=HG1.out.alloc HG1.out.size _;have hWs:w1.heap.size<(w1.alloc (.cells (arr (cn l)) 199)).heap.size:=by simp
 generalize w1.alloc (.cells (arr (cn l)) 199)=W at *;have hbd:=tab_build (cn l) (fc (cn l));have hbx:=tab_box (cn l) (fc (cn l));unfold arr at hbd;generalize hg:w1.heap.size=g at *;clear hg;go_region_held3 (fun wv=>wv.cell? ⟨g,0,none⟩=some (.int .i64 (cn l 0))∧wv.cell? ⟨g,1,none⟩=some (.int .i64 (cn l 1))∧wv.cell? ⟨g,2,none⟩=some (.int .i64 (cn l 2))∧wv.cell? ⟨g,3,none⟩=some (.int .i64 (cn l 3))∧wv.cell? ⟨g,4,none⟩=some (.int .i64 (cn l 4))∧wv.cell? ⟨g,5,none⟩=some (.int .i64 (cn l 5))∧wv.cell? ⟨g,6,none⟩=some (.int .i64 (cn l 6))∧wv.cell? ⟨g,7,none⟩=some (.int .i64 (cn l 7))∧wv.cell? ⟨g,8,none⟩=some (.int .i64 (cn l 8))∧wv.cell? ⟨g,9,none⟩=some (.int .i64 (cn l 9))∧wv.cell? ⟨g,10,none⟩=some (.int .i64 (cn l 10))∧wv.cell? ⟨g,11,none⟩=some (.int .i64 (cn l 11))) (first | exact xwb (w:=W.drew) hW | exact xwb hh3 | exact xwb ((Go.heap_alloc_old _ _ hg3).trans hh3))
  (first | (go_at_call 151;refine (jgl (cn l) _ HB.out).mono ?_;rintro e w3 ⟨rfl,hb3⟩;have hh3:=(hb3.block _ hWs).trans hW;have hg3:g<w3.heap.size:=Nat.lt_of_lt_of_le hWs hb3.size;unfold arr))
 have HG4:Hid (Below w.heap.size w w3):=HW.out.drew.trans (hb3.mono HW.out.size);have HS3:Hid (w3.heap[g]?=some (.cells (arr (cn l)) 199)):=hh3;clear hb3 hh3 hW hbd hbx HW HG1;have hp3:(w3.alloc (.cells (tab0 (cn l) (fc (cn l))) 268)).rowIs w3.heap.size 268 38 (bfv (cn l) (fc (cn l)) (bgTo l 0) (lgTo l 0) (.slice none 0 0)):=jnz _ _ _;have h4g:(w3.alloc (.cells (tab0 (cn l) (fc (cn l))) 268)).heap[g]?=some (.cells (arr (cn l)) 199):=(Go.heap_alloc_old _ _ hg3).trans HS3.out;have HG5:Hid (Below w.heap.size w (w3.alloc (.cells (tab0 (cn l) (fc (cn l))) 268))):=HG4.out.alloc HG4.out.size _;have hpW:w.heap.size<=w3.heap.size:=HG4.out.size;have hi:=idx (cn l);unfold tab0 at *;generalize w3.alloc _=w4 at *;generalize w3.heap.size=p at *;go_wp2_with (refine wpList_load_row rfl 197 _ rfl _ rfl 199 (arr (cn l)) (0,0) _ h4g Tryz.underlying197 rfl (xz2 _) ?_)
 go_loopw [7,22] (fun t i wr=>∃ k:Nat,k<=12∧i= .int .i64 k∧t= .int .i64 (bsum l k)∧wr.rowIs p 268 38 (bfv (cn l) (fc (cn l)) (bgTo l k) (lgTo l k) (.slice none 0 0))∧Below w.heap.size w wr) (fun _ i _=>12 - (intOf i).toNat)
 case atStart=>exact ⟨0,Nat.zero_le _,rfl,rfl,hp3,HG5.out⟩
 case round=>
  obtain ⟨k,hk,rfl,rfl,hrow,hbel⟩:=hrel;by_cases hlt:k<12
  ·have hik:=hi k hlt;have ⟨b1,b2⟩:=ysr hl k hk;have ⟨b3,b4⟩:=HB.out k hlt;have g1:=hrow.cell (i:=24+k) (by omega);have g2:=hrow.frozen (24+k);have g3:=hrow.cell (i:=36) (by omega);have g4:=hrow.frozen 36;have R:=jnr k (bsum l k) hlt hrow;rw [xp6] at R;have R1:=hbel.setCell (p:=⟨p,24+k,none⟩) hpW (.int .i64 (bsum l k));by_cases hpos:0<cn l k
   ·have R2:=zta k R;have e2:lgTo l (k+1)=k:=if_pos hpos;go_wp2
    go_roundw
    case rel=>exact ⟨k+1,by omega,by go_num,rfl,by rw [e2];exact R2,R1.setCell (p:=⟨p,36,none⟩) hpW _⟩
    case measure=>simp [intOf];omega
   ·have e2:lgTo l k=lgTo l (k+1):=(if_neg hpos).symm;rw [e2] at R;go_wp2
    go_roundw
    case rel=>exact ⟨k+1,by omega,by go_num,rfl,R,R1⟩
    case measure=>simp [intOf];omega
  ·obtain rfl:k=12:=by omega
   have HR:Hid (wr.rowIs p 268 38 (bfv (cn l) (fc (cn l)) (bgTo l 12) (lgTo l 12) (.slice none 0 0))∧Below w.heap.size w wr):=⟨hrow,hbel⟩
   obtain ⟨n,hn⟩:∃ n:Nat,bsum l 12=n:=⟨(bsum l 12).toNat,by have:=(ysr hl 12 (by omega)).1;omega⟩
   have hn2:n<=12000000:=by have:=(ysr hl 12 (by omega)).2;omega
   rw [hn];have g1:=hrow.cell (i:=37) (by omega);have g2:=hrow.frozen 37;have hmk:=make n hn2;clear hi;have r5:((wr.setCell ⟨p,37,none⟩ (.slice (some ⟨wr.heap.size,0,none⟩) n n)).alloc (.cells (madeCells #[.int .i64 0, .int .u8 0, .int .i64 0, .int .i64 0] (n*4)) 218)).rowIs p 268 38 (bfv (cn l) (fc (cn l)) (bgTo l 12) (lgTo l 12) (.slice (some ⟨wr.heap.size,0,none⟩) n n)):=(jb3 _ hrow).alloc _;have m5:=xfg r5;have hpl:=hrow.lt;have h6:=newW_at wr p n;have NF:=newW_facts (n:=n) hrow hbel hpW;unfold newW at NF;rw [show arr (fun _=>0)=#[.int .i64 0, .int .i64 0, .int .i64 0, .int .i64 0, .int .i64 0, .int .i64 0, .int .i64 0, .int .i64 0, .int .i64 0, .int .i64 0, .int .i64 0, .int .i64 0] from rfl] at NF;have HNF:Hid _:=NF;clear NF;go_wp2_with (first | (refine wpList_load_mid rfl 197 _ rfl p 24 rfl (arr (bsum l)).toList _ m5 Tryz.underlying197 rfl (xz2 (bsum l)) ?_;rw [Array.toArray_toList]) | (refine wpList_store_row rfl 197 _ _ rfl (wr.heap.size+1) (arr (bsum l)) rfl rfl 197 _ h6 (xz2 _) rfl (yui _) ?_))
   have hmW:w.heap.size<=wr.heap.size:=hbel.size;clear h6 m5 r5 g1 g2 hmk hrow h4g hbel HR;generalize (((wr.setCell ⟨p,37,none⟩ (.slice (some ⟨wr.heap.size,0,none⟩) n n)).alloc (.cells (madeCells #[.int .i64 0, .int .u8 0, .int .i64 0, .int .i64 0] (n*4)) 218)).alloc (.cells #[.int .i64 0, .int .i64 0, .int .i64 0, .int .i64 0, .int .i64 0, .int .i64 0, .int .i64 0, .int .i64 0, .int .i64 0, .int .i64 0, .int .i64 0, .int .i64 0] 197)).setRow (wr.heap.size+1) (arr (bsum l))=w6 at *;generalize wr.heap.size=m at *;go_loopw [53] (fun i wx=>∃ (k:Nat) (f:Nat->Value),k<=l.length∧i= .int .i64 k∧wx.rowIs p 268 38 (bfv (cn l) (fc (cn l)) (bgTo l 12) (lgTo l 12) (.slice (some ⟨m,0,none⟩) n n))∧wx.rowIs m 218 (n*4) f∧Filled l f k∧wx.rowIs (m+1) 197 12 (fun j=> .int .i64 (bsum l j+cn (l.take k) j))∧Below w.heap.size w wx) (fun i _=>l.length - (intOf i).toNat)
   case atStart=>exact ⟨0,zero4,Nat.zero_le _,rfl,HNF.out.1,HNF.out.2.1,fun i hi=>absurd hi (by omega),HNF.out.2.2.1.congr fun i _=>by simp [j3h],HNF.out.2.2.2⟩
   case round=>
    obtain ⟨k,f,hk,rfl,q1,q2,q3,q4,q5⟩:=hrel;by_cases hlt:k<l.length
    ·obtain ⟨b,o,x,rfl,g,hx12,hx⟩:=(HC.out.below q5 (Nat.le_refl _)).atNat hr hlt;have HQ:Hid (wr.rowIs p 268 38 (bfv (cn l) (fc (cn l)) (bgTo l 12) (lgTo l 12) (.slice (some ⟨m,0,none⟩) n n))∧wr.rowIs m 218 (n*4) f∧wr.rowIs (m+1) 197 12 (fun j=> .int .i64 (bsum l j+cn (l.take k) j))∧Below w.heap.size w wr):=⟨q1,q2,q4,q5⟩
     have HF:Hid (Filled l f k):=q3;clear q3;by_cases hpos:0<x
     ·have e1:=k44 hlt hx.out hl (by omega);have e2:=vil hlt hx.out hl hpos (by omega);rw [hn] at e2;have hpn:pos l k<n:=by omega
      have c1:wr.cell? ⟨p,37,none⟩=some (.slice (some ⟨m,0,none⟩) n n):=q1.cell (i:=37) (by omega);have c2:wr.cell? ⟨m+1,x,none⟩=some (.int .i64 (pos l k)):=by rw [q4.cell (i:=x) (by omega),e1]
      have HN:Hid (bsum l x+cn (l.take k) x=(pos l k:Int)):=e1.symm;obtain ⟨v1,v2,v3,v4,hv⟩:=four k;have HFS:=HF.out.step hl hr hlt hx.out hpos (by omega) hv;have HFT:Hid _:=HFS;clear HFS e1;have HNX:Hid ((wr:World)=wr):=rfl;obtain ⟨P,hP⟩:∃ P,P=pos l k:=⟨_,rfl⟩
      have l1:=q1.lt;have l2:=q2.lt;have l3:=q4.lt;have hPi:(P:Int)<n:=by omega
      have hx12':(x:Int)<12:=by omega
      have k1:=q2.cell (i:=P*4) (by omega);have k2:=q2.cell (i:=P*4+1) (by omega);have k3:=q2.cell (i:=P*4+2) (by omega);have k4:=q2.cell (i:=P*4+3) (by omega);have y1:=q2.frozen (P*4);have y2:=q2.frozen (P*4+1);have y4:=q2.frozen (P*4+2);have y5:=q2.frozen (P*4+3);have HCT:Hid (∀ w:World,Calls Tryz.prog 192 #[.int .i64 k] w fun x w'=>x= .returned (.agg #[.int .i64 v1, .int .u8 v2, .int .i64 v3, .int .i64 v4])∧Below w.heap.size w w'):=fun w=>by rw [← hv];exact k82 k w (by omega)
      clear hv;rw [← hP] at c2;have HP:Hid (P=pos l k):=hP;have hpm:p≠m:=by omega
      have hpm2:p≠m+1:=by omega
      have y3:=q4.frozen x;clear q1 q2 q4 q5 hP;go_wp2_with fail
      go_region_held3 (fun wv=>wv.cell? ⟨p,37,none⟩=some (.slice (some ⟨m,0,none⟩) n n)∧wv.cell? ⟨m+1,x,none⟩=some (.int .i64 P)) (first | exact ⟨c1,c2⟩ | exact ⟨d1,d2⟩ | exact ⟨(four_set_cell (q:=⟨p,37,none⟩) hpm).trans d1,(four_set_cell (q:=⟨m+1,x,none⟩) (by simp)).trans d2⟩)
       (first | (go_at_call 192;refine (HCT.out _).mono ?_;rintro e w7 ⟨rfl,hb7⟩;have d1:=(hb7.cell l1).trans c1;have d2:=(hb7.cell l3).trans c2;have d3:w7.cell? ⟨m,P*4,none⟩=some (f (P*4)):=(hb7.cell l2).trans k1;have d4:w7.cell? ⟨m,P*4+1,none⟩=some (f (P*4+1)):=(hb7.cell l2).trans k2;have e3:w7.cell? ⟨m,P*4+2,none⟩=some (f (P*4+2)):=(hb7.cell l2).trans k3;have e4:w7.cell? ⟨m,P*4+3,none⟩=some (f (P*4+3)):=(hb7.cell l2).trans k4;have d5:w7.frozen? ⟨m,P*4,none⟩=false:=(hb7.frozen l2).trans y1;have d6:w7.frozen? ⟨m,P*4+1,none⟩=false:=(hb7.frozen l2).trans y2;have e5:w7.frozen? ⟨m,P*4+2,none⟩=false:=(hb7.frozen l2).trans y4;have e6:w7.frozen? ⟨m,P*4+3,none⟩=false:=(hb7.frozen l2).trans y5;have d7:w7.frozen? ⟨m+1,x,none⟩=false:=(hb7.frozen l3).trans y3;have HB7:Hid (Below wr.heap.size wr w7):=⟨hb7.os,hb7.tape,hb7.output,hb7.size,hb7.block⟩;clear hb7))
      have T:=new_round (v1:= .int .i64 v1) (v2:= .int .u8 v2) (v3:= .int .i64 v3) (v4:= .int .i64 v4) HQ.out.1 HQ.out.2.1 HQ.out.2.2.1 HQ.out.2.2.2 HB7.out hlt hx.out hpos (by omega) hpm hpm2 hpW hmW HN.out HP.out;have HT:Hid _:=T;clear T k1 k2 k3 k4 y1 y2 y3 y4 y5;go_wp2
      go_roundw
      case rel=>exact ⟨k+1,_,by omega,by go_num,HT.out.1,HT.out.2.1,by rw [HP.out];exact HFT.out,HT.out.2.2.1,HT.out.2.2.2⟩
      case measure=>simp [intOf];omega
     ·obtain rfl:x=0:=by omega
      have R:=zlc hlt hx.out q4;have e0:l.getD k 0=0:=by have:=hx.out;simp [hlt];simpa using this
      have HF2:Hid (Filled l f (k+1)):=HF.out.skip e0;go_wp2
      go_roundw
      case rel=>exact ⟨k+1,f,by omega,by go_num,q1,q2,HF2.out,R,q5⟩
      case measure=>simp [intOf];omega
    ·obtain rfl:k=l.length:=by omega
     go_wp2
     go_ret
     refine ⟨p,m,n,f,rfl,hn,⟨q1,fun j hj=>⟨rfl,?_⟩,q1.lt,q2.lt⟩,q3,hpW,hmW,q5⟩;intro t v hv;have ht:t=0∨t=1∨t=2∨t=3:=by have:=(List.getElem?_eq_some_iff.1 hv).1;simp at this;omega
     rcases ht with rfl | rfl | rfl | rfl
     ·rw [← Option.some.inj hv];exact q2.cell (i:=j*4) (by omega)
     ·rw [← Option.some.inj hv];exact q2.cell (i:=j*4+1) (by omega)
     ·rw [← Option.some.inj hv];exact q2.cell (i:=j*4+2) (by omega)
     ·rw [← Option.some.inj hv];exact q2.cell (i:=j*4+3) (by omega)
end LiteralT
namespace HelperT
theorem four(k:Nat):∃ (v1:Int) (v2:Bool) (v3 v4:Int),v3q k=#[.int .i64 v1, .bool v2, .int .i64 v3, .int .i64 v4]:=by
 unfold v3q;(repeat' split) <;> exact ⟨_,_,_,_,rfl⟩
def newW(wr:World)(p n:Nat)(l:List Int):World:=
 (((wr.setCell ⟨p,37,none⟩ (.slice (some ⟨wr.heap.size,0,none⟩) n n)).alloc (.cells (madeCells #[.int .i64 0, .bool false, .int .i64 0, .int .i64 0] (n*4)) 127)).alloc (.cells (arr (fun _=>0)) 197)).setRow (wr.heap.size+1) (arr (bsum l))
def zero4(j:Nat):Value:=if j%4=1 then .bool false else .int .i64 0
theorem made4(w:World)(n:Nat)(t:TypeId):(w.alloc (.cells (madeCells #[.int .i64 0, .bool false, .int .i64 0, .int .i64 0] (n*4)) t)).rowIs w.heap.size t (n*4) zero4:=by
 have:=World.rowIs_alloc w (madeCells #[.int .i64 0, .bool false, .int .i64 0, .int .i64 0] (n*4)) t zero4 (fun i hi=>by
  have h2:i<n*4:=by simpa [size_madeCells] using hi
  have h3:i%4=0∨i%4=1∨i%4=2∨i%4=3:=by omega
  rcases h3 with h3 | h3 | h3 | h3 <;> simp [madeCells,zero4,h2,h3])
 rwa [size_madeCells] at this
theorem newW_at(wr:World)(p n:Nat):((((wr.setCell ⟨p,37,none⟩ (.slice (some ⟨wr.heap.size,0,none⟩) n n)).alloc (.cells (madeCells #[.int .i64 0, .bool false, .int .i64 0, .int .i64 0] (n*4)) 127)).alloc (.cells (arr (fun _=>0)) 197)).heap[wr.heap.size+1]?)=some (.cells (arr (fun _=>0)) 197):=by
 have:=heap_alloc2_new (wr.setCell ⟨p,37,none⟩ (.slice (some ⟨wr.heap.size,0,none⟩) n n)) (.cells (madeCells #[.int .i64 0, .bool false, .int .i64 0, .int .i64 0] (n*4)) 127) (.cells (arr (fun _=>0)) 197);simpa using this
theorem newW_facts{w wr:World}{p n:Nat}{l:List Int}{cnt fst:Nat->Int}{lg:Nat}(h:wr.rowIs p 265 38 (bfv cnt fst (bgTo l 12) lg (.slice none 0 0)))(hb:Below w.heap.size w wr)(hp:w.heap.size<=p) :
  (newW wr p n l).rowIs p 265 38 (bfv cnt fst (bgTo l 12) lg (.slice (some ⟨wr.heap.size,0,none⟩) n n))∧(newW wr p n l).rowIs wr.heap.size 127 (n*4) zero4∧
  (newW wr p n l).rowIs (wr.heap.size+1) 197 12 (fun j=> .int .i64 (bsum l j))∧Below w.heap.size w (newW wr p n l):=by
 have hl:=h.lt;have hz:(wr.setCell ⟨p,37,none⟩ (.slice (some ⟨wr.heap.size,0,none⟩) n n)).heap.size=wr.heap.size:=by simp
 have hs:=hb.size;refine ⟨?_,?_,?_,?_⟩
 ·exact (((jb3 _ h).alloc _).alloc _).of_block (setRow_other _ _ _ _ (by omega))
 ·have:=(made4 (wr.setCell ⟨p,37,none⟩ (.slice (some ⟨wr.heap.size,0,none⟩) n n)) n 127).alloc (.cells (arr (fun _=>0)) 197);rw [hz] at this;exact this.of_block (setRow_other _ _ _ _ (by omega))
 ·exact ⟨arr (bsum l),setRow_heap _ _ _ _ _ _ (newW_at wr p n),rfl,fun i hi=>zge _ _ hi⟩
 ·exact below_setRow (((hb.setCell (p:=⟨p,37,none⟩) hp _).alloc (by rw [hz];exact hs) _).alloc (by simp;omega) _) (by omega) _
def Filled(l:List Int)(f:Nat->Value)(k:Nat):Prop:=∀ i,i<k->0<l.getD i 0->#[f (pos l i*4),f (pos l i*4+1),f (pos l i*4+2),f (pos l i*4+3)]=v3q i
theorem Filled.skip{l:List Int}{f:Nat->Value}{k:Nat}(h:Filled l f k)(e0:l.getD k 0=0):Filled l f (k+1):=fun i hi h0=>by
 by_cases e:i=k
 ·subst e;omega
 ·exact h i (by omega) h0
theorem Filled.step{l:List Int}{f:Nat->Value}{k x:Nat}{v1 v2 v3 v4:Value}(h:Filled l f k)(hl:l.length<=269)(hr:inRange l=true)(hk:k<l.length)(hx:l[k]=(x:Int))(h0:0<x)(h12:x<12)(hv:v3q k=#[v1,v2,v3,v4]) :
  Filled l (fun j=>if j=pos l k*4+3 then v4 else if j=pos l k*4+2 then v3 else if j=pos l k*4+1 then v2 else if j=pos l k*4 then v1 else f j) (k+1):=fun i hi hp=>by
 by_cases e:i=k
 ·subst e;simp [hv]
 ·have hi':i<k:=by omega
  have hil:i<l.length:=by omega
  obtain ⟨y,hy,hy12⟩:∃ y:Nat,l[i]=(y:Int)∧y<12:=by
   have:=(vto l).1 hr l[i] (List.getElem_mem hil);exact ⟨l[i].toNat,by omega,by omega⟩
  have hg:l.getD i 0=(y:Int):=by simp [hil,hy]
  have ne:=z4t hi' hk hil hy hx hl (by omega) hy12 h0 h12;have hh:=h i hi' hp;rw [← hh];have q:∀ j,pos l i*4<=j->j<pos l i*4+4->(if j=pos l k*4+3 then v4 else if j=pos l k*4+2 then v3 else if j=pos l k*4+1 then v2 else if j=pos l k*4 then v1 else f j)=f j:=fun j h1 h2=>by
   rw [if_neg (by omega),if_neg (by omega),if_neg (by omega),if_neg (by omega)]
  have c4:∀ a b c d a' b' c' d':Value,a=a'->b=b'->c=c'->d=d'->#[a,b,c,d]=#[a',b',c',d']:=by intro a b c d a' b' c' d' h1 h2 h3 h4;rw [h1,h2,h3,h4]
  exact c4 _ _ _ _ _ _ _ _ (q _ (by omega) (by omega)) (q _ (by omega) (by omega)) (q _ (by omega) (by omega)) (q _ (by omega) (by omega))
theorem four_set_cell{w:World}{m i j k l:Nat}{v u x y:Value}{q:Addr}(h:q.block≠m):((((w.setCell ⟨m,i,none⟩ v).setCell ⟨m,j,none⟩ u).setCell ⟨m,k,none⟩ x).setCell ⟨m,l,none⟩ y).cell? q=w.cell? q:=
 (((World.cell?_setCell_far _ _ _ _ (Ne.symm h)).trans (World.cell?_setCell_far _ _ _ _ (Ne.symm h))).trans (World.cell?_setCell_far _ _ _ _ (Ne.symm h))).trans (World.cell?_setCell_far _ _ _ _ (Ne.symm h))
theorem new_round{w wr w7:World}{p m n k x P:Nat}{l:List Int}{F:Nat->Value}{f:Nat->Value}{v1 v2 v3 v4:Value}(q1:wr.rowIs p 265 38 F)(q2:wr.rowIs m 127 (n*4) f)(q4:wr.rowIs (m+1) 197 12 (fun j=> .int .i64 (bsum l j+cn (l.take k) j)))
  (q5:Below w.heap.size w wr) (hb:Below wr.heap.size wr w7) (hk:k<l.length) (hx:l[k]=(x:Int)) (h0:0<x) (_h12:x<12) (hpm:p≠m) (hpm2:p≠m+1) (_hp:w.heap.size<=p) (hm:w.heap.size<=m) (hN:bsum l x+cn (l.take k) x=(pos l k:Int)) (hP:P=pos l k) :
  (((((w7.setCell ⟨m,P*4,none⟩ v1).setCell ⟨m,P*4+1,none⟩ v2).setCell ⟨m,P*4+2,none⟩ v3).setCell ⟨m,P*4+3,none⟩ v4).setCell ⟨m+1,x,none⟩ (.int .i64 (P+1))).rowIs p 265 38 F∧
  (((((w7.setCell ⟨m,P*4,none⟩ v1).setCell ⟨m,P*4+1,none⟩ v2).setCell ⟨m,P*4+2,none⟩ v3).setCell ⟨m,P*4+3,none⟩ v4).setCell ⟨m+1,x,none⟩ (.int .i64 (P+1))).rowIs m 127 (n*4) (fun j=>if j=P*4+3 then v4 else if j=P*4+2 then v3 else if j=P*4+1 then v2 else if j=P*4 then v1 else f j)∧
  (((((w7.setCell ⟨m,P*4,none⟩ v1).setCell ⟨m,P*4+1,none⟩ v2).setCell ⟨m,P*4+2,none⟩ v3).setCell ⟨m,P*4+3,none⟩ v4).setCell ⟨m+1,x,none⟩ (.int .i64 (P+1))).rowIs (m+1) 197 12 (fun j=> .int .i64 (bsum l j+cn (l.take (k+1)) j))∧
  Below w.heap.size w (((((w7.setCell ⟨m,P*4,none⟩ v1).setCell ⟨m,P*4+1,none⟩ v2).setCell ⟨m,P*4+2,none⟩ v3).setCell ⟨m,P*4+3,none⟩ v4).setCell ⟨m+1,x,none⟩ (.int .i64 (P+1))):=by
 have e:(P:Int)+1=bsum l x+cn (l.take k) x+1:=by omega
 refine ⟨?_,?_,?_,?_⟩
 ·exact (((((j96 q1 hb q1.lt).setOther (a:=⟨m,P*4,none⟩) hpm _).setOther (a:=⟨m,P*4+1,none⟩) hpm _).setOther (a:=⟨m,P*4+2,none⟩) hpm _).setOther (a:=⟨m,P*4+3,none⟩) hpm _).setOther (a:=⟨m+1,x,none⟩) hpm2 _
 ·exact (((((j96 q2 hb q2.lt).set (P*4) _).set (P*4+1) _).set (P*4+2) _).set (P*4+3) _).setOther (a:=⟨m+1,x,none⟩) (by simp) _
 ·rw [e];exact jr9 hk hx h0 (((((j96 q4 hb q4.lt).setOther (a:=⟨m,P*4,none⟩) (by simp) _).setOther (a:=⟨m,P*4+1,none⟩) (by simp) _).setOther (a:=⟨m,P*4+2,none⟩) (by simp) _).setOther (a:=⟨m,P*4+3,none⟩) (by simp) _)
 ·exact (((((q5.trans (hb.mono q5.size)).setCell (p:=⟨m,P*4,none⟩) hm _).setCell (p:=⟨m,P*4+1,none⟩) hm _).setCell (p:=⟨m,P*4+2,none⟩) hm _).setCell (p:=⟨m,P*4+3,none⟩) hm _).setCell (p:=⟨m+1,x,none⟩) (by show w.heap.size<=m+1;omega) _
theorem info':(Tryz.prog.info? 127).map (fun i=>(i.zero,i.size,i.bytes))=some (some (.agg #[.int .i64 0, .bool false, .int .i64 0, .int .i64 0]),4,32):=by kernel_rfl
theorem make(n:Nat)(hn:n<=12000000)(w:World):(Instr.makeSlice 263 (.int .i64 (n:Int)) (.int .i64 (n:Int))).run Tryz.prog w= .ok (.slice (some ⟨w.heap.size,0,none⟩) n n) (w.alloc (.cells (madeCells #[.int .i64 0, .bool false, .int .i64 0, .int .i64 0] (n*4)) 127)):=by
 obtain ⟨i,hi,hz⟩:=Option.map_eq_some_iff.1 info';simp only [Prod.mk.injEq] at hz;have hr:=run_make (P:=Tryz.prog) w 263 127 i _ Tryz.underlying263 hi hz.1 .i64 .i64 n n (by omega) (Int.le_refl _) (by rw [hz.2.2];omega) (by omega);simp only [Int.toNat_natCast,hz.2.1] at hr;exact hr
theorem tab_build(f g:Nat->Int)(w:World):(Instr.build 265 #[(0, .agg (arr f)),(1, .agg (arr g))]).run Tryz.prog w= .ok (.agg (tab0 f g)) w:=by kernel_rfl
theorem tab_box(f g:Nat->Int)(w:World):(Instr.box 265 (.agg (tab0 f g))).run Tryz.prog w= .ok (.pointer (some ⟨w.heap.size,0,none⟩)) (w.alloc (.cells (tab0 f g) 265)):=by kernel_rfl
theorem newTable(ad:Option Addr)(cap:Nat)(l:List Int)(w:World)(hl16:l.length<=269)(hc:xin w ad l)(hr:inRange l=true) :
  Calls Tryz.prog 168 #[.slice ad l.length cap, .func (.func 169) #[] #[]] w fun e w'=>∃ (p m n:Nat) (f:Nat->Value),e= .returned (.pointer (some ⟨p,0,none⟩))∧bsum l 12=n∧
   TabI w' 265 4 p m n (cn l) (fc (cn l)) (bgTo l 12) (lgTo l 12) (fun j=>[f (j*4),f (j*4+1),f (j*4+2),f (j*4+3)])∧Filled l f l.length∧w.heap.size<=p∧w.heap.size<=m∧Below w.heap.size w w':=by
 have hl:l.length<=269:=by omega
 have HC:Hid (xin w ad l):=hc;have HB:Hid (∀ j,j<12->0<=cn l j∧cn l j<=1000000):=z7r hl;go_enter Tryz.func168,Tryz.ntmps168
 go_wp2_with fail
 refine (v5q ad cap l _ (by omega) hc hr).mono ?_;rintro e w1 ⟨rfl,hb1⟩;have HG1:Hid (Below w.heap.size w w1):=hb1;clear hb1 hc;go_wp2_with (first | (refine wpList_store_row rfl 199 _ _ rfl _ _ rfl rfl 199 _ (heap_alloc_new _ _) (zvc _) rfl (yui _) ?_;rw [World.setRow_alloc_new]))
 have hW:(w1.alloc (.cells (arr (cn l)) 199)).heap[w1.heap.size]?=some (.cells (arr (cn l)) 199):=heap_alloc_new _ _;have HW:Hid (Below w.heap.size w (w1.alloc (.cells (arr (cn l)) 199))):=HG1.out.alloc HG1.out.size _;have hWs:w1.heap.size<(w1.alloc (.cells (arr (cn l)) 199)).heap.size:=by simp
 generalize w1.alloc (.cells (arr (cn l)) 199)=W at *;have hbd:=tab_build (cn l) (fc (cn l));have hbx:=tab_box (cn l) (fc (cn l));unfold arr at hbd;generalize hg:w1.heap.size=g at *;clear hg;go_region_held3 (fun wv=>wv.cell? ⟨g,0,none⟩=some (.int .i64 (cn l 0))∧wv.cell? ⟨g,1,none⟩=some (.int .i64 (cn l 1))∧wv.cell? ⟨g,2,none⟩=some (.int .i64 (cn l 2))∧wv.cell? ⟨g,3,none⟩=some (.int .i64 (cn l 3))∧wv.cell? ⟨g,4,none⟩=some (.int .i64 (cn l 4))∧wv.cell? ⟨g,5,none⟩=some (.int .i64 (cn l 5))∧wv.cell? ⟨g,6,none⟩=some (.int .i64 (cn l 6))∧wv.cell? ⟨g,7,none⟩=some (.int .i64 (cn l 7))∧wv.cell? ⟨g,8,none⟩=some (.int .i64 (cn l 8))∧wv.cell? ⟨g,9,none⟩=some (.int .i64 (cn l 9))∧wv.cell? ⟨g,10,none⟩=some (.int .i64 (cn l 10))∧wv.cell? ⟨g,11,none⟩=some (.int .i64 (cn l 11))) (first | exact xwb (w:=W.drew) hW | exact xwb hh3 | exact xwb ((Go.heap_alloc_old _ _ hg3).trans hh3))
  (first | (go_at_call 151;refine (jgl (cn l) _ HB.out).mono ?_;rintro e w3 ⟨rfl,hb3⟩;have hh3:=(hb3.block _ hWs).trans hW;have hg3:g<w3.heap.size:=Nat.lt_of_lt_of_le hWs hb3.size;unfold arr))
 have HG4:Hid (Below w.heap.size w w3):=HW.out.drew.trans (hb3.mono HW.out.size);have HS3:Hid (w3.heap[g]?=some (.cells (arr (cn l)) 199)):=hh3;clear hb3 hh3 hW hbd hbx HW HG1;have hp3:(w3.alloc (.cells (tab0 (cn l) (fc (cn l))) 265)).rowIs w3.heap.size 265 38 (bfv (cn l) (fc (cn l)) (bgTo l 0) (lgTo l 0) (.slice none 0 0)):=jnz _ _ _;have h4g:(w3.alloc (.cells (tab0 (cn l) (fc (cn l))) 265)).heap[g]?=some (.cells (arr (cn l)) 199):=(Go.heap_alloc_old _ _ hg3).trans HS3.out;have HG5:Hid (Below w.heap.size w (w3.alloc (.cells (tab0 (cn l) (fc (cn l))) 265))):=HG4.out.alloc HG4.out.size _;have hpW:w.heap.size<=w3.heap.size:=HG4.out.size;have hi:=idx (cn l);unfold tab0 at *;generalize w3.alloc _=w4 at *;generalize w3.heap.size=p at *;go_wp2_with (refine wpList_load_row rfl 197 _ rfl _ rfl 199 (arr (cn l)) (0,0) _ h4g Tryz.underlying197 rfl (xz2 _) ?_)
 go_loopw [7,22] (fun t i wr=>∃ k:Nat,k<=12∧i= .int .i64 k∧t= .int .i64 (bsum l k)∧wr.rowIs p 265 38 (bfv (cn l) (fc (cn l)) (bgTo l k) (lgTo l k) (.slice none 0 0))∧Below w.heap.size w wr) (fun _ i _=>12 - (intOf i).toNat)
 case atStart=>exact ⟨0,Nat.zero_le _,rfl,rfl,hp3,HG5.out⟩
 case round=>
  obtain ⟨k,hk,rfl,rfl,hrow,hbel⟩:=hrel;by_cases hlt:k<12
  ·have hik:=hi k hlt;have ⟨b1,b2⟩:=ysr hl k hk;have ⟨b3,b4⟩:=HB.out k hlt;have g1:=hrow.cell (i:=24+k) (by omega);have g2:=hrow.frozen (24+k);have g3:=hrow.cell (i:=36) (by omega);have g4:=hrow.frozen 36;have R:=jnr k (bsum l k) hlt hrow;rw [xp6] at R;have R1:=hbel.setCell (p:=⟨p,24+k,none⟩) hpW (.int .i64 (bsum l k));by_cases hpos:0<cn l k
   ·have R2:=zta k R;have e2:lgTo l (k+1)=k:=if_pos hpos;go_wp2
    go_roundw
    case rel=>exact ⟨k+1,by omega,by go_num,rfl,by rw [e2];exact R2,R1.setCell (p:=⟨p,36,none⟩) hpW _⟩
    case measure=>simp [intOf];omega
   ·have e2:lgTo l k=lgTo l (k+1):=(if_neg hpos).symm;rw [e2] at R;go_wp2
    go_roundw
    case rel=>exact ⟨k+1,by omega,by go_num,rfl,R,R1⟩
    case measure=>simp [intOf];omega
  ·obtain rfl:k=12:=by omega
   have HR:Hid (wr.rowIs p 265 38 (bfv (cn l) (fc (cn l)) (bgTo l 12) (lgTo l 12) (.slice none 0 0))∧Below w.heap.size w wr):=⟨hrow,hbel⟩
   obtain ⟨n,hn⟩:∃ n:Nat,bsum l 12=n:=⟨(bsum l 12).toNat,by have:=(ysr hl 12 (by omega)).1;omega⟩
   have hn2:n<=12000000:=by have:=(ysr hl 12 (by omega)).2;omega
   rw [hn];have g1:=hrow.cell (i:=37) (by omega);have g2:=hrow.frozen 37;have hmk:=make n hn2;clear hi;have r5:((wr.setCell ⟨p,37,none⟩ (.slice (some ⟨wr.heap.size,0,none⟩) n n)).alloc (.cells (madeCells #[.int .i64 0, .bool false, .int .i64 0, .int .i64 0] (n*4)) 127)).rowIs p 265 38 (bfv (cn l) (fc (cn l)) (bgTo l 12) (lgTo l 12) (.slice (some ⟨wr.heap.size,0,none⟩) n n)):=(jb3 _ hrow).alloc _;have m5:=xfg r5;have hpl:=hrow.lt;have h6:=newW_at wr p n;have NF:=newW_facts (n:=n) hrow hbel hpW;unfold newW at NF;rw [show arr (fun _=>0)=#[.int .i64 0, .int .i64 0, .int .i64 0, .int .i64 0, .int .i64 0, .int .i64 0, .int .i64 0, .int .i64 0, .int .i64 0, .int .i64 0, .int .i64 0, .int .i64 0] from rfl] at NF;have HNF:Hid _:=NF;clear NF;go_wp2_with (first | (refine wpList_load_mid rfl 197 _ rfl p 24 rfl (arr (bsum l)).toList _ m5 Tryz.underlying197 rfl (xz2 (bsum l)) ?_;rw [Array.toArray_toList]) | (refine wpList_store_row rfl 197 _ _ rfl (wr.heap.size+1) (arr (bsum l)) rfl rfl 197 _ h6 (xz2 _) rfl (yui _) ?_))
   have hmW:w.heap.size<=wr.heap.size:=hbel.size;clear h6 m5 r5 g1 g2 hmk hrow h4g hbel HR;generalize (((wr.setCell ⟨p,37,none⟩ (.slice (some ⟨wr.heap.size,0,none⟩) n n)).alloc (.cells (madeCells #[.int .i64 0, .bool false, .int .i64 0, .int .i64 0] (n*4)) 127)).alloc (.cells #[.int .i64 0, .int .i64 0, .int .i64 0, .int .i64 0, .int .i64 0, .int .i64 0, .int .i64 0, .int .i64 0, .int .i64 0, .int .i64 0, .int .i64 0, .int .i64 0] 197)).setRow (wr.heap.size+1) (arr (bsum l))=w6 at *;generalize wr.heap.size=m at *;go_loopw [53] (fun i wx=>∃ (k:Nat) (f:Nat->Value),k<=l.length∧i= .int .i64 k∧wx.rowIs p 265 38 (bfv (cn l) (fc (cn l)) (bgTo l 12) (lgTo l 12) (.slice (some ⟨m,0,none⟩) n n))∧wx.rowIs m 127 (n*4) f∧Filled l f k∧wx.rowIs (m+1) 197 12 (fun j=> .int .i64 (bsum l j+cn (l.take k) j))∧Below w.heap.size w wx) (fun i _=>l.length - (intOf i).toNat)
   case atStart=>exact ⟨0,zero4,Nat.zero_le _,rfl,HNF.out.1,HNF.out.2.1,fun i hi=>absurd hi (by omega),HNF.out.2.2.1.congr fun i _=>by simp [j3h],HNF.out.2.2.2⟩
   case round=>
    obtain ⟨k,f,hk,rfl,q1,q2,q3,q4,q5⟩:=hrel;by_cases hlt:k<l.length
    ·obtain ⟨b,o,x,rfl,g,hx12,hx⟩:=(HC.out.below q5 (Nat.le_refl _)).atNat hr hlt;have HQ:Hid (wr.rowIs p 265 38 (bfv (cn l) (fc (cn l)) (bgTo l 12) (lgTo l 12) (.slice (some ⟨m,0,none⟩) n n))∧wr.rowIs m 127 (n*4) f∧wr.rowIs (m+1) 197 12 (fun j=> .int .i64 (bsum l j+cn (l.take k) j))∧Below w.heap.size w wr):=⟨q1,q2,q4,q5⟩
     have HF:Hid (Filled l f k):=q3;clear q3;by_cases hpos:0<x
     ·have e1:=k44 hlt hx.out hl (by omega);have e2:=vil hlt hx.out hl hpos (by omega);rw [hn] at e2;have hpn:pos l k<n:=by omega
      have c1:wr.cell? ⟨p,37,none⟩=some (.slice (some ⟨m,0,none⟩) n n):=q1.cell (i:=37) (by omega);have c2:wr.cell? ⟨m+1,x,none⟩=some (.int .i64 (pos l k)):=by rw [q4.cell (i:=x) (by omega),e1]
      have HN:Hid (bsum l x+cn (l.take k) x=(pos l k:Int)):=e1.symm;obtain ⟨v1,v2,v3,v4,hv⟩:=four k;have HFS:=HF.out.step hl hr hlt hx.out hpos (by omega) hv;have HFT:Hid _:=HFS;clear HFS e1;have HNX:Hid ((wr:World)=wr):=rfl;obtain ⟨P,hP⟩:∃ P,P=pos l k:=⟨_,rfl⟩
      have l1:=q1.lt;have l2:=q2.lt;have l3:=q4.lt;have hPi:(P:Int)<n:=by omega
      have hx12':(x:Int)<12:=by omega
      have k1:=q2.cell (i:=P*4) (by omega);have k2:=q2.cell (i:=P*4+1) (by omega);have k3:=q2.cell (i:=P*4+2) (by omega);have k4:=q2.cell (i:=P*4+3) (by omega);have y1:=q2.frozen (P*4);have y2:=q2.frozen (P*4+1);have y4:=q2.frozen (P*4+2);have y5:=q2.frozen (P*4+3);have HCT:Hid (∀ w:World,Calls Tryz.prog 169 #[.int .i64 k] w fun x w'=>x= .returned (.agg #[.int .i64 v1, .bool v2, .int .i64 v3, .int .i64 v4])∧Below w.heap.size w w'):=fun w=>by rw [← hv];exact yhm k w
      clear hv;rw [← hP] at c2;have HP:Hid (P=pos l k):=hP;have hpm:p≠m:=by omega
      have hpm2:p≠m+1:=by omega
      have y3:=q4.frozen x;clear q1 q2 q4 q5 hP;go_wp2_with fail
      go_region_held3 (fun wv=>wv.cell? ⟨p,37,none⟩=some (.slice (some ⟨m,0,none⟩) n n)∧wv.cell? ⟨m+1,x,none⟩=some (.int .i64 P)) (first | exact ⟨c1,c2⟩ | exact ⟨d1,d2⟩ | exact ⟨(four_set_cell (q:=⟨p,37,none⟩) hpm).trans d1,(four_set_cell (q:=⟨m+1,x,none⟩) (by simp)).trans d2⟩)
       (first | (go_at_call 169;refine (HCT.out _).mono ?_;rintro e w7 ⟨rfl,hb7⟩;have d1:=(hb7.cell l1).trans c1;have d2:=(hb7.cell l3).trans c2;have d3:w7.cell? ⟨m,P*4,none⟩=some (f (P*4)):=(hb7.cell l2).trans k1;have d4:w7.cell? ⟨m,P*4+1,none⟩=some (f (P*4+1)):=(hb7.cell l2).trans k2;have e3:w7.cell? ⟨m,P*4+2,none⟩=some (f (P*4+2)):=(hb7.cell l2).trans k3;have e4:w7.cell? ⟨m,P*4+3,none⟩=some (f (P*4+3)):=(hb7.cell l2).trans k4;have d5:w7.frozen? ⟨m,P*4,none⟩=false:=(hb7.frozen l2).trans y1;have d6:w7.frozen? ⟨m,P*4+1,none⟩=false:=(hb7.frozen l2).trans y2;have e5:w7.frozen? ⟨m,P*4+2,none⟩=false:=(hb7.frozen l2).trans y4;have e6:w7.frozen? ⟨m,P*4+3,none⟩=false:=(hb7.frozen l2).trans y5;have d7:w7.frozen? ⟨m+1,x,none⟩=false:=(hb7.frozen l3).trans y3;have HB7:Hid (Below wr.heap.size wr w7):=⟨hb7.os,hb7.tape,hb7.output,hb7.size,hb7.block⟩;clear hb7))
      have T:=new_round (v1:= .int .i64 v1) (v2:= .bool v2) (v3:= .int .i64 v3) (v4:= .int .i64 v4) HQ.out.1 HQ.out.2.1 HQ.out.2.2.1 HQ.out.2.2.2 HB7.out hlt hx.out hpos (by omega) hpm hpm2 hpW hmW HN.out HP.out;have HT:Hid _:=T;clear T k1 k2 k3 k4 y1 y2 y3 y4 y5;go_wp2
      go_roundw
      case rel=>exact ⟨k+1,_,by omega,by go_num,HT.out.1,HT.out.2.1,by rw [HP.out];exact HFT.out,HT.out.2.2.1,HT.out.2.2.2⟩
      case measure=>simp [intOf];omega
     ·obtain rfl:x=0:=by omega
      have R:=zlc hlt hx.out q4;have e0:l.getD k 0=0:=by have:=hx.out;simp [hlt];simpa using this
      have HF2:Hid (Filled l f (k+1)):=HF.out.skip e0;go_wp2
      go_roundw
      case rel=>exact ⟨k+1,f,by omega,by go_num,q1,q2,HF2.out,R,q5⟩
      case measure=>simp [intOf];omega
    ·obtain rfl:k=l.length:=by omega
     go_wp2
     go_ret
     refine ⟨p,m,n,f,rfl,hn,⟨q1,fun j hj=>⟨rfl,?_⟩,q1.lt,q2.lt⟩,q3,hpW,hmW,q5⟩;intro t v hv;have ht:t=0∨t=1∨t=2∨t=3:=by have:=(List.getElem?_eq_some_iff.1 hv).1;simp at this;omega
     rcases ht with rfl | rfl | rfl | rfl
     ·rw [← Option.some.inj hv];exact q2.cell (i:=j*4) (by omega)
     ·rw [← Option.some.inj hv];exact q2.cell (i:=j*4+1) (by omega)
     ·rw [← Option.some.inj hv];exact q2.cell (i:=j*4+2) (by omega)
     ·rw [← Option.some.inj hv];exact q2.cell (i:=j*4+3) (by omega)
end HelperT
theorem xdo(x:Int)(l:List Int)(k:Nat):bsum (x :: l) k=bsum l k+(if 0<x∧x<k then 1 else 0):=by
 induction k with
 | zero=>simp [bsum];omega
 | succ k ih=>
  simp only [bsum];rw [ih,zah];by_cases h1:0<x∧x<k
  ·rw [if_pos h1,if_neg (by omega),if_pos (by omega)];omega
  ·rw [if_neg h1];by_cases h2:0<x∧x=k
   ·rw [if_pos h2,if_pos (by omega)];omega
   ·rw [if_neg h2,if_neg (by omega)];omega
theorem yz8(l:List Int)(k:Nat):bsum l k<=l.length:=by
 induction l with
 | nil=>
  have:∀ k,bsum [] k=0:=fun k=>by
   induction k with
   | zero=>rfl
   | succ k ih=>simp only [bsum];rw [ih,j3h];rfl
  rw [this];simp
 | cons x l ih=>
  rw [xdo];simp only [List.length_cons];split <;> omega
theorem v0q(l:List Int)(k:Nat):0<=fc (cn l) k∧fc (cn l) k<=2^k*bsum l k:=by
 induction k with
 | zero=>simp [fc,bsum]
 | succ k ih=>
  have h1:=v4o l k;have h2:(1:Int)<=2^k:=by have:=Int.pow_pos (n:=(2:Int)) (m:=k) (by decide);omega
  have h3:cn l k<=2^k*cn l k:=by
   have:=Int.mul_le_mul_of_nonneg_right h2 h1;omega
  simp only [fc,bsum];rw [Int.pow_succ,Int.mul_add,Int.mul_assoc,Int.mul_assoc];have e1:(2:Int)^k*(2*bsum l k)=2*(2^k*bsum l k):=by rw [← Int.mul_assoc,Int.mul_comm (2^k) 2,Int.mul_assoc]
  have e2:(2:Int)^k*(2*cn l k)=2*(2^k*cn l k):=by rw [← Int.mul_assoc,Int.mul_comm (2^k) 2,Int.mul_assoc]
  rw [e1,e2];omega
theorem k04{l:List Int}(hl:l.length<=269){k:Nat}(hk:k<12):0<=fc (cn l) k∧fc (cn l) k<=1000000:=by
 have h1:=v0q l k;have h2:=yz8 l k;refine ⟨h1.1,?_⟩;have h3:(2:Int)^k<=2^11:=by
  have:2^k<=2^11:=Nat.pow_le_pow_right (by decide) (by omega);exact_mod_cast this
 have h4:(0:Int)<=2^k:=Int.le_of_lt (Int.pow_pos (by decide));have h5:(2:Int)^k*bsum l k<=2^k*269:=Int.mul_le_mul_of_nonneg_left (by omega) h4;have h6:(2:Int)^11=2048:=by decide
 omega
theorem kc4{l:List Int}(hr:inRange l=true)(hl:l.length<=269){n:Nat}(hn:0<n)(h12:n<12){c:Nat}(h:0<=find (rset l) n (c:Int)) :
  (fc (cn l) n<=c∧(c:Int) - fc (cn l) n<cn l n)∧(find (rset l) n (c:Int)).toNat<l.length∧0<l.getD (find (rset l) n (c:Int)).toNat 0∧bgTo l 12 n+((c:Int) - fc (cn l) n)=(pos l (find (rset l) n (c:Int)).toNat:Int)∧(pos l (find (rset l) n (c:Int)).toNat:Int)<bsum l 12:=by
 have hc:fc (cn l) n<=c∧(c:Int)<fc (cn l) n+cn l n:=by
  apply Classical.byContradiction;intro hc;have:=zr0 (S:=rset l) hr hn (c:=(c:Int)) (by show (c:Int)<fc (cn l) n∨fc (cn l) n+cn l n<=c;omega);omega
 obtain ⟨i,hi,h2,h3,h4⟩:=k5a (S:=rset l) hr hn hc.1 hc.2;have hi':i<l.length:=hi;have h2':l[i]=(n:Int):=h2;have e:(find (rset l) n (c:Int)).toNat=i:=by rw [h4];simp
 rw [e];refine ⟨⟨hc.1,by omega⟩,hi',by simp [hi',h2'];omega,?_,vil hi' h2' hl hn h12⟩;rw [k44 hi' h2' hl h12];have h3':cn (l.take i) n=(c:Int) - fc (cn l) n:=h3;rw [h3'];unfold bgTo;rw [if_pos h12]
theorem xzd{l:List Int}(hr:inRange l=true){n:Nat}(hn:0<n){c:Nat}(h:¬ 0<=find (rset l) n (c:Int)):¬ (fc (cn l) n<=c∧(c:Int) - fc (cn l) n<cn l n):=fun hc=>by
 obtain ⟨i,hi,h2,h3,h4⟩:=k5a (S:=rset l) hr hn hc.1 (by show (c:Int)<fc (cn l) n+cn l n;omega);rw [h4] at h;omega
theorem zgh{w:World}{g T:Nat}{f:Nat->Value}(h:w.rowIs g T 4 f):w.heap[g]?=some (.cells #[f 0,f 1,f 2,f 3] T):=by
 obtain ⟨c,hc,hn,hv⟩:=h;rw [hc];have h0:=hv 0 (by omega);have h1:=hv 1 (by omega);have h2:=hv 2 (by omega);have h3:=hv 3 (by omega);have:c=#[f 0,f 1,f 2,f 3]:=by
  apply Array.ext
  ·simpa using hn
  ·intro i h4 h5;have:i=0∨i=1∨i=2∨i=3:=by simp at h5;omega
   rcases this with rfl | rfl | rfl | rfl
   ·rw [Array.getElem?_eq_getElem h4] at h0;simpa using h0
   ·rw [Array.getElem?_eq_getElem h4] at h1;simpa using h1
   ·rw [Array.getElem?_eq_getElem h4] at h2;simpa using h2
   ·rw [Array.getElem?_eq_getElem h4] at h3;simpa using h3
 rw [this]
theorem SpanT.four(k:Nat):∃ v1 v2:Int,vtb 1 k=#[.int .i64 v1, .int .i64 v2]:=⟨_,_,rfl⟩
theorem vh0(c b:Nat)(hc:c<1000000)(hb:b<2):bits .or .i64 ((c:Int)*2) (b:Int)=((2*c+b:Nat):Int):=by
 have h1:(2:Int)^62=4611686018427387904:=by decide
 have h2:(2:Int)^1=2:=by decide
 rw [bits_join .i64 62 (by decide) veq 1 ((c:Int)*2) (b:Int) (by omega) (by rw [h2];omega) (by omega) (by omega) (by rw [h2];omega) (by omega)];omega
theorem mAt{ρ:Nat->Nat}{w:World}{p:Nat}{x:MS}(k:Nat)(h:MM ρ w p x)(ok:Ok x)(hk:k<x.count)(hc:x.count<=63) :
  Calls Tryz.prog 171 #[.pointer (some ⟨p,14,none⟩), .int .i64 k] w fun v w'=>v= .returned (.int .i64 (x.held / 2^k%2:Nat))∧MM ρ w' p x∧Fr (fun k=>1<=k∧k<=5) ρ w w':=by
 refine (yci p 14 x.held x.count k w hk hc ok.held h.cell14).mono ?_;rintro v w' ⟨rfl,n,e⟩;rw [e];exact ⟨rfl,h.drewN n,(Fr.refl _ _ _).drewN n⟩
theorem zdb{ρ:Nat->Nat}{w:World}{t:Nat}{l:List Int}(h:TabS ρ w 271 2 (fun i=>(vtb 1 i).toList) t l)(c n:Nat)(hc:c<=1000000)(hn:0<n)(h12:n<12) :
  (0<=find (rset l) n (c:Int)->Calls Tryz.prog 177 #[.pointer (some ⟨t,0,none⟩), .int .i64 c, .int .i64 n] w fun x w'=>x= .returned (.tuple #[.agg (vtb 1 (find (rset l) n (c:Int)).toNat), .bool true])∧Below w.heap.size w w')∧
  (¬ 0<=find (rset l) n (c:Int)->Calls Tryz.prog 177 #[.pointer (some ⟨t,0,none⟩), .int .i64 c, .int .i64 n] w fun x w'=>x= .returned (.tuple #[.agg #[.int .i64 0, .int .i64 0], .bool false])∧Below w.heap.size w w'):=by
 obtain ⟨m,N,mg,I,h1,h2,h3⟩:=h.tab;refine ⟨fun hf=>?_,fun hf=>x82 c n I hc h12 (k04 h.len h12) (xzd h.rng hn hf)⟩;obtain ⟨g1,g2,g3,g4,g5⟩:=kc4 h.rng h.len hn h12 hf;obtain ⟨v1,v2,hv⟩:=SpanT.four (find (rset l) n (c:Int)).toNat;have hb:=yz8 l 12;have hlen:=h.len;have:=kkr c n I hc h12 (k04 h.len h12) g1 (pos l (find (rset l) n (c:Int)).toNat) g4 (by omega) (by omega) v1 v2 (by rw [h2 _ g2 g3,hv]);rw [hv];exact this
theorem zxb{ρ:Nat->Nat}{w:World}{t:Nat}{l:List Int}(h:TabS ρ w 268 4 (fun i=>(litC i).toList) t l)(c n:Nat)(hc:c<=1000000)(hn:0<n)(h12:n<12) :
  (0<=find (rset l) n (c:Int)->Calls Tryz.prog 175 #[.pointer (some ⟨t,0,none⟩), .int .i64 c, .int .i64 n] w fun x w'=>x= .returned (.tuple #[.agg (litC (find (rset l) n (c:Int)).toNat), .bool true])∧Below w.heap.size w w')∧
  (¬ 0<=find (rset l) n (c:Int)->Calls Tryz.prog 175 #[.pointer (some ⟨t,0,none⟩), .int .i64 c, .int .i64 n] w fun x w'=>x= .returned (.tuple #[.agg #[.int .i64 0, .int .u8 0, .int .i64 0, .int .i64 0], .bool false])∧Below w.heap.size w w'):=by
 obtain ⟨m,N,mg,I,h1,h2,h3⟩:=h.tab;refine ⟨fun hf=>?_,fun hf=>vrp c n I hc h12 (k04 h.len h12) (xzd h.rng hn hf)⟩;obtain ⟨g1,g2,g3,g4,g5⟩:=kc4 h.rng h.len hn h12 hf;obtain ⟨v1,v2,v3,v4,hv⟩:=LiteralT.four (find (rset l) n (c:Int)).toNat;have hb:=yz8 l 12;have hlen:=h.len;have:=j98 c n I hc h12 (k04 h.len h12) g1 (pos l (find (rset l) n (c:Int)).toNat) g4 (by omega) (by omega) v1 v2 v3 v4 (by rw [h2 _ g2 g3,hv]);rw [hv];exact this
theorem jr4{ρ:Nat->Nat}{w:World}{t:Nat}{l:List Int}(h:TabS ρ w 265 4 (fun i=>(v3q i).toList) t l)(c n:Nat)(hc:c<=1000000)(hn:0<n)(h12:n<12) :
  (0<=find (rset l) n (c:Int)->Calls Tryz.prog 172 #[.pointer (some ⟨t,0,none⟩), .int .i64 c, .int .i64 n] w fun x w'=>x= .returned (.tuple #[.agg (v3q (find (rset l) n (c:Int)).toNat), .bool true])∧Below w.heap.size w w')∧
  (¬ 0<=find (rset l) n (c:Int)->Calls Tryz.prog 172 #[.pointer (some ⟨t,0,none⟩), .int .i64 c, .int .i64 n] w fun x w'=>x= .returned (.tuple #[.agg #[.int .i64 0, .bool false, .int .i64 0, .int .i64 0], .bool false])∧Below w.heap.size w w'):=by
 obtain ⟨m,N,mg,I,h1,h2,h3⟩:=h.tab;refine ⟨fun hf=>?_,fun hf=>j90 c n I hc h12 (k04 h.len h12) (xzd h.rng hn hf)⟩;obtain ⟨g1,g2,g3,g4,g5⟩:=kc4 h.rng h.len hn h12 hf;obtain ⟨v1,v2,v3,v4,hv⟩:=HelperT.four (find (rset l) n (c:Int)).toNat;have hb:=yz8 l 12;have hlen:=h.len;have:=vsr c n I hc h12 (k04 h.len h12) g1 (pos l (find (rset l) n (c:Int)).toNat) g4 (by omega) (by omega) v1 v2 v3 v4 (by rw [h2 _ g2 g3,hv]);rw [hv];exact this
theorem vux(l:List Int)(k:Nat):lgTo l k=lng l k:=by
 induction k with
 | zero=>rfl
 | succ k ih=>rw [lgTo,lng,ih]
theorem j6p(l:List Int):lgTo l 12<=11:=by rw [vux];exact y4h l 11
def SymE(ρ:Nat->Nat)(w:World)(p:Nat)(mean:Nat->Array Value)(zero:Array Value)(r:MS×Nat×Nat)(e:Ending)(w':World):Prop:=e= .returned (.tuple #[.agg (if r.2.1=0 then mean r.2.2 else zero), .int .i64 r.2.1])∧MM ρ w' p r.1∧Fr (fun k=>1<=k∧k<=5) ρ w w'
structure Sw(ρ:Nat->Nat)(w:World)(p:Nat)(T TT:TypeId)(k:Nat)(z:Nat->Value)(mean:Nat->List Value)(t:Nat)(l:List Int)(R:MS×Nat×Nat)(code n r:Nat)(y:MS)(wr:World):Prop where
 mm:MM ρ wr p y
 ok:Ok y
 cnt:y.count<=40
 eq:MS.symL l r n code y=R
 n1:1<=n
 nr:n+r=lgTo l 12+1
 code:code<2^(n - 1)
 b4:wr.rowIs w.heap.size T k z
 b6:wr.rowIs (w.heap.size+1) T k z
 tab:TabS ρ wr TT k mean t l
 r4:ρ w.heap.size=0
 r6:ρ (w.heap.size+1)=0
 fr:Fr (fun k=>1<=k∧k<=5) ρ w wr
structure Sk(ρ:Nat->Nat)(w:World)(p:Nat)(T TT:TypeId)(k:Nat)(z:Nat->Value)(mean:Nat->List Value)(t:Nat)(l:List Int)(y:MS)(wr:World):Prop where
 mm:MM ρ wr p y
 ok:Ok y
 b4:wr.rowIs w.heap.size T k z
 b6:wr.rowIs (w.heap.size+1) T k z
 tab:TabS ρ wr TT k mean t l
 r4:ρ w.heap.size=0
 r6:ρ (w.heap.size+1)=0
 fr:Fr (fun k=>1<=k∧k<=5) ρ w wr
theorem Sw.sk{ρ:Nat->Nat}{w:World}{p:Nat}{T TT:TypeId}{k:Nat}{z:Nat->Value}{mean:Nat->List Value}{t:Nat}{l:List Int}{R:MS×Nat×Nat}{code n r:Nat}{y:MS}{wr:World}(h:Sw ρ w p T TT k z mean t l R code n r y wr):Sk ρ w p T TT k z mean t l y wr:=⟨h.mm,h.ok,h.b4,h.b6,h.tab,h.r4,h.r6,h.fr⟩
theorem Sk.next{ρ:Nat->Nat}{w:World}{p:Nat}{T TT:TypeId}{k:Nat}{z:Nat->Value}{mean:Nat->List Value}{t:Nat}{l:List Int}{y y':MS}{wr w2:World}(h:Sk ρ w p T TT k z mean t l y wr)(m:MM ρ w2 p y')(o:Ok y')(f:Fr (fun k=>1<=k∧k<=5) ρ wr w2):Sk ρ w p T TT k z mean t l y' w2:=⟨m,o,zlz h.b4 f.kp (by rw [h.r4];exact no0),zlz h.b6 f.kp (by rw [h.r6];exact no0),h.tab.fr f.kp (by decide),h.r4,h.r6,h.fr.trans f⟩
theorem Sk.below{ρ:Nat->Nat}{w:World}{p:Nat}{T TT:TypeId}{k:Nat}{z:Nat->Value}{mean:Nat->List Value}{t:Nat}{l:List Int}{y:MS}{wr w2:World}(h:Sk ρ w p T TT k z mean t l y wr)(b:Below wr.heap.size wr w2):Sk ρ w p T TT k z mean t l y w2:=h.next (h.mm.below b) h.ok (Fr.below b)
theorem Sk.drewN{ρ:Nat->Nat}{w:World}{p:Nat}{T TT:TypeId}{k:Nat}{z:Nat->Value}{mean:Nat->List Value}{t:Nat}{l:List Int}{y:MS}{wr:World}(h:Sk ρ w p T TT k z mean t l y wr)(n:Nat):Sk ρ w p T TT k z mean t l y (wr.drewN n):=h.next (h.mm.drewN n) h.ok ((Fr.refl _ _ _).drewN n)
theorem MM.fr0{ρ:Nat->Nat}{w w':World}{p:Nat}{x:MS}(h:MM ρ w p x)(f:Kp (fun r=>r=0) ρ w w'):MM ρ w' p x:=by
 obtain ⟨L,B,T⟩:=h;obtain ⟨o,g,k⟩:=B.ra;obtain ⟨o2,g2,k2⟩:=B.rc;obtain ⟨r1,r2,r3,r4⟩:=B.rl;exact ⟨L,⟨zlz B.row f (by rw [B.rp];decide),⟨o,g,k.kp f (by rw [r1];decide) (by rw [r2];decide)⟩,⟨o2,g2,k2.kp f (by rw [r3];decide) (by rw [r4];decide)⟩,B.rp,B.rl⟩,T.fr f (fun r e=>by omega)⟩
theorem MM.setNew{ρ:Nat->Nat}{w:World}{p:Nat}{x:MS}(h:MM ρ w p x)(g i:Nat)(v:Value)(hg:ρ g=0):MM ρ (w.setCell ⟨g,i,none⟩ v) p x:=h.fr0 (Kp.of_set w _ _ hg)
theorem Fr.setNew{R:Nat->Prop}{ρ:Nat->Nat}{w w':World}(h:Fr R ρ w w')(g i:Nat)(v:Value)(hg:w.heap.size<=g):Fr R ρ w (w'.setCell ⟨g,i,none⟩ v):=⟨⟨by simpa [World.setCell] using h.kp.size,fun k hk hr=>by rw [Below.heap_setCell _ _ _ _ (by show k≠g;omega)];exact h.kp.block k hk hr⟩,h.os,h.tape,h.output⟩
theorem v2g{c n b:Nat}(hn:1<=n)(hc:c<2^(n - 1))(hb:b<2):2*c+b<2^(n+1 - 1):=by
 rw [show n+1 - 1=(n - 1)+1 by omega,Nat.pow_succ];omega
theorem kdd{ρ:Nat->Nat}{w:World}{p t:Nat}{x:MS}{l:List Int}(h:MM ρ w p x)(ok:Ok x)(hx:x.count<=40)(ht:TabS ρ w 271 2 (fun i=>(vtb 1 i).toList) t l) :
  Calls Tryz.prog 149 #[.pointer (some ⟨p,0,none⟩), .pointer (some ⟨t,0,none⟩)] w fun v w'=>SymE ρ w p (vtb 1) #[.int .i64 0, .int .i64 0] (x.sym l) v w':=by
 obtain ⟨R,hR⟩:∃ R,R=x.sym l:=⟨_,rfl⟩
 have hlg:=j6p l;have b0:Below w.heap.size w ((w.alloc (.cells #[.int .i64 0, .int .i64 0] 125)).alloc (.cells #[.int .i64 0, .int .i64 0] 125)):=((Below.refl _ _).alloc (Nat.le_refl _) _).alloc (by simp) _;have H0:Hid (∃ r,Sw ρ w p 125 271 2 (lrow [.int .i64 0, .int .i64 0]) (fun i=>(vtb 1 i).toList) t l R 0 1 r x ((w.alloc (.cells #[.int .i64 0, .int .i64 0] 125)).alloc (.cells #[.int .i64 0, .int .i64 0] 125))):=by
  refine ⟨lgTo l 12,h.below b0,ok,hx,hR.symm,Nat.le_refl _,by omega,by decide,?_,?_,ht.fr (R:=fun _=>False) (Kp.of_below b0) (fun e=>e),h.new _ (Nat.le_refl _),h.new _ (by omega),Fr.below b0⟩
  ·exact (World.rowIs_alloc w #[.int .i64 0, .int .i64 0] 125 (lrow [.int .i64 0, .int .i64 0]) (fun i hi=>by
    have:i=0∨i=1:=by have:i<2:=hi;omega
    rcases this with rfl | rfl <;> rfl)).alloc _
  ·have:=World.rowIs_alloc (w.alloc (.cells #[.int .i64 0, .int .i64 0] 125)) #[.int .i64 0, .int .i64 0] 125 (lrow [.int .i64 0, .int .i64 0]) (fun i hi=>by
    have:i=0∨i=1:=by have:i<2:=hi;omega
    rcases this with rfl | rfl <;> rfl)
   simpa using this
 rw [← hR];clear h ok hx ht hR b0;go_enter Tryz.func149,Tryz.ntmps149
 go_wp2_with fail
 go_loopw [7,8] (fun c n wr=>∃ (code len:Nat),c= .int .i64 code∧n= .int .i64 len∧Hid (∃ r y,Sw ρ w p 125 271 2 (lrow [.int .i64 0, .int .i64 0]) (fun i=>(vtb 1 i).toList) t l R code len r y wr)) (fun _ n _=>13 - (intOf n).toNat)
 case atStart=>exact ⟨0,1,rfl,rfl,by obtain ⟨r,h⟩:=H0.out;exact ⟨r,x,h⟩⟩
 case round=>
  clear H0;obtain ⟨code,len,rfl,rfl,HH⟩:=hrel;obtain ⟨r,y,Y⟩:=HH.out;have hn1:=Y.n1;have hnr:=Y.nr;have hcd:=Y.code;have hcnt:=Y.cnt;have HK:Hid (Sk ρ w p 125 271 2 (lrow [.int .i64 0, .int .i64 0]) (fun i=>(vtb 1 i).toList) t l y wr):=Y.sk;have HEQ:Hid (MS.symL l r len code y=R):=Y.eq;have HLG:Hid (Calls Tryz.prog 176 #[.pointer (some ⟨t,0,none⟩)] wr fun x w'=>x= .returned (.int .i64 (lgTo l 12))∧wr=w'):=by
   obtain ⟨m,N,mg,I,_,_,_⟩:=Y.tab.tab;exact ysa I
  clear Y HH;obtain ⟨lg,hlgE⟩:∃ lg,lg=lgTo l 12:=⟨_,rfl⟩
  rw [← hlgE] at HLG hnr hlg;have HLGE:Hid (lg=lgTo l 12):=hlgE;clear hlgE;go_wp2_with fail
  refine HLG.out.mono ?_;rintro e w' ⟨rfl,rfl⟩;by_cases hlt:len<=lg
  ·obtain ⟨r,rfl⟩:∃ q,r=q+1:=⟨r - 1,by omega⟩
   have hlti:(len:Int)<=lg:=by omega
   have hcode:code<2048:=by
    have:2^(len - 1)<=2^11:=Nat.pow_le_pow_right (by decide) (by omega);have e:2^11=2048:=by decide
    omega
   have HST:Hid (R=if (MS.need len y).2≠0 then ((MS.need len y).1,(MS.need len y).2,0) else if 0<=find (rset l) len ((2*code+(MS.need len y).1.held / 2^(len - 1)%2:Nat):Int) then ((MS.need len y).1.rd len,0,(find (rset l) len ((2*code+(MS.need len y).1.held / 2^(len - 1)%2:Nat):Int)).toNat) else MS.symL l r (len+1) (2*code+(MS.need len y).1.held / 2^(len - 1)%2) (MS.need len y).1):=HEQ.out.symm;clear HEQ;go_wp2_with fail
   refine (zvo len HK.out.mm HK.out.ok (by omega) (by omega)).mono ?_;rintro v w1 ⟨rfl,g1,g2⟩;by_cases h0:(MS.need len y).2=0
   ·have k1:=MS.need_cnt HK.out.ok h0;have k3:=MS.need_ok (k:=len) HK.out.ok;rw [h0];rw [if_neg (by rw [h0];simp)] at HST;obtain ⟨z,hz⟩:∃ z,z=(MS.need len y).1:=⟨_,rfl⟩
    rw [← hz] at g1 HST k1 k3;have HZ:Hid (Sk ρ w p 125 271 2 (lrow [.int .i64 0, .int .i64 0]) (fun i=>(vtb 1 i).toList) t l z w1):=HK.out.next g1 k3 g2;clear g1 g2 hz h0 k3;obtain ⟨d,hd⟩:∃ d,d=len - 1:=⟨_,rfl⟩
    have hdi:(len:Int) - 1=(d:Int):=by omega
    have hdl:d<z.count:=by omega
    rw [← hd] at HST;have HD:Hid (d=len - 1):=hd;clear hd;have hb2:z.held / 2^d%2<2:=Nat.mod_lt _ (by decide);have HAT:Hid (Calls Tryz.prog 171 #[.pointer (some ⟨p,14,none⟩), .int .i64 d] w1 fun v w'=>v= .returned (.int .i64 (z.held / 2^d%2:Nat))∧MM ρ w' p z∧Fr (fun k=>1<=k∧k<=5) ρ w1 w'):=mAt d HZ.out.mm HZ.out.ok hdl (by omega);obtain ⟨b,hb⟩:∃ b,b=z.held / 2^d%2:=⟨_,rfl⟩
    rw [← hb] at HST hb2 HAT;clear hb;obtain ⟨c2,hc2⟩:∃ c2,c2=2*code+b:=⟨_,rfl⟩
    have hor:bits .or .i64 ((code:Int)*2) (b:Int)=(c2:Int):=by rw [hc2];exact vh0 code b (by omega) hb2
    have hpw:c2<2^(len+1 - 1):=by rw [hc2];exact v2g hn1 hcd hb2
    have hc2b:c2<=1000000:=by omega
    rw [← hc2] at HST;clear hc2;go_wp2_with fail
    refine HAT.out.mono ?_;rintro v w2 ⟨rfl,g1,g2⟩;have H2:Hid (Sk ρ w p 125 271 2 (lrow [.int .i64 0, .int .i64 0]) (fun i=>(vtb 1 i).toList) t l z w2):=HZ.out.next g1 HZ.out.ok g2;have TF:=zdb H2.out.tab c2 len hc2b (by omega) (by omega);have HPW:Hid (c2<2^(len+1 - 1)):=hpw;clear g1 g2 HAT HZ hpw;by_cases hf:0<=find (rset l) len (c2:Int)
    ·rw [if_pos hf] at HST;obtain ⟨i,hi⟩:∃ i,i=(find (rset l) len (c2:Int)).toNat:=⟨_,rfl⟩
     have HF:=TF.1 hf;rw [← hi] at HST HF;obtain ⟨v1,v2,hv⟩:=SpanT.four i;have HV:Hid (vtb 1 i=#[.int .i64 v1, .int .i64 v2]):=hv;rw [hv] at HF;have HFF:Hid (Calls Tryz.prog 177 #[.pointer (some ⟨t,0,none⟩), .int .i64 c2, .int .i64 len] w2 fun x w'=>x= .returned (.tuple #[.agg #[.int .i64 v1, .int .i64 v2], .bool true])∧Below w2.heap.size w2 w'):=HF;clear HF TF hf hi hv;go_wp2_with fail
     refine HFF.out.mono ?_;rintro e w3 ⟨rfl,b3⟩;have H3:Hid (Sk ρ w p 125 271 2 (lrow [.int .i64 0, .int .i64 0]) (fun i=>(vtb 1 i).toList) t l z w3):=H2.out.below b3;have b4:Below w3.heap.size w3 (w3.alloc (.cells #[.int .i64 v1, .int .i64 v2] 125)):=(Below.refl _ _).alloc (Nat.le_refl _) _;have H4:Hid (Sk ρ w p 125 271 2 (lrow [.int .i64 0, .int .i64 0]) (fun i=>(vtb 1 i).toList) t l z (w3.alloc (.cells #[.int .i64 v1, .int .i64 v2] 125))):=H3.out.below b4;have q0:(w3.alloc (.cells #[.int .i64 v1, .int .i64 v2] 125)).cell? ⟨w3.heap.size,0,none⟩=some (.int .i64 v1):=by simp
     have q1:(w3.alloc (.cells #[.int .i64 v1, .int .i64 v2] 125)).cell? ⟨w3.heap.size,1,none⟩=some (.int .i64 v2):=by simp
     have hq:w3.heap.size<(w3.alloc (.cells #[.int .i64 v1, .int .i64 v2] 125)).heap.size:=by simp
     have rq:ρ w3.heap.size=0:=H3.out.mm.new _ (Nat.le_refl _);have hgq:w3.heap.size≠w.heap.size:=by have:=H3.out.b4.lt;omega
     clear b3 b4 H2;go_wp2_with fail
     generalize w3.alloc (.cells #[.int .i64 v1, .int .i64 v2] 125)=W3 at *;refine (zw3 len H4.out.mm H4.out.ok k1.1 (by omega)).mono ?_;rintro e w5 ⟨rfl,g1,g2⟩;have s0:=g2.cell q0 hq (by rw [rq];exact no0);have s1:=g2.cell q1 hq (by rw [rq];exact no0);have H5:Hid (Sk ρ w p 125 271 2 (lrow [.int .i64 0, .int .i64 0]) (fun i=>(vtb 1 i).toList) t l (z.rd len) w5):=H4.out.next g1 (H4.out.ok.rd k1.1) g2;have u0:w5.cell? ⟨w.heap.size,0,none⟩=some (.int .i64 0):=H5.out.b4.cell (i:=0) (by omega);have u1:w5.cell? ⟨w.heap.size,1,none⟩=some (.int .i64 0):=H5.out.b4.cell (i:=1) (by omega);have x0:=H5.out.b4.frozen 0;have x1:=H5.out.b4.frozen 1;have HFIN:Hid ((((w5.setCell ⟨w.heap.size,0,none⟩ (.int .i64 v1)).setCell ⟨w.heap.size,1,none⟩ (.int .i64 v2)).heap[w.heap.size]?=some (.cells #[.int .i64 v1, .int .i64 v2] 125))∧MM ρ ((w5.setCell ⟨w.heap.size,0,none⟩ (.int .i64 v1)).setCell ⟨w.heap.size,1,none⟩ (.int .i64 v2)) p (z.rd len)∧Fr (fun k=>1<=k∧k<=5) ρ w ((w5.setCell ⟨w.heap.size,0,none⟩ (.int .i64 v1)).setCell ⟨w.heap.size,1,none⟩ (.int .i64 v2))):=by
      refine ⟨xch (((H5.out.b4).set 0 (.int .i64 v1)).set 1 (.int .i64 v2)),((H5.out.mm).setNew w.heap.size 0 (.int .i64 v1) H5.out.r4).setNew w.heap.size 1 (.int .i64 v2) H5.out.r4,((H5.out.fr).setNew w.heap.size 0 (.int .i64 v1) (Nat.le_refl _)).setNew w.heap.size 1 (.int .i64 v2) (Nat.le_refl _)⟩
     clear g1 g2;go_wp2_with fail
     refine bodyPost_ret (v7f Tryz.results149 _ _ _ _ _ _ _ rfl HFIN.out.1 Tryz.underlying125 rfl (xtd _ rfl)) rfl ?_;unfold SymE;rw [HST.out];exact ⟨by rw [← HV.out];rfl,HFIN.out.2⟩
    ·rw [if_neg hf] at HST;have HFF:Hid (Calls Tryz.prog 177 #[.pointer (some ⟨t,0,none⟩), .int .i64 c2, .int .i64 len] w2 fun x w'=>x= .returned (.tuple #[.agg #[.int .i64 0, .int .i64 0], .bool false])∧Below w2.heap.size w2 w'):=TF.2 hf;clear TF hf;go_wp2_with fail
     refine HFF.out.mono ?_;rintro e w3 ⟨rfl,b3⟩;have H3:Hid (Sk ρ w p 125 271 2 (lrow [.int .i64 0, .int .i64 0]) (fun i=>(vtb 1 i).toList) t l z w3):=H2.out.below b3;have b4:Below w3.heap.size w3 (w3.alloc (.cells #[.int .i64 0, .int .i64 0] 125)):=(Below.refl _ _).alloc (Nat.le_refl _) _;have H4:Hid (Sk ρ w p 125 271 2 (lrow [.int .i64 0, .int .i64 0]) (fun i=>(vtb 1 i).toList) t l z (w3.alloc (.cells #[.int .i64 0, .int .i64 0] 125))):=H3.out.below b4;clear b3 b4 H2;have HN:Hid (∃ r y,Sw ρ w p 125 271 2 (lrow [.int .i64 0, .int .i64 0]) (fun i=>(vtb 1 i).toList) t l R c2 (len+1) r y (w3.alloc (.cells #[.int .i64 0, .int .i64 0] 125))):=⟨r,z,H4.out.mm,H4.out.ok,by omega,HST.out.symm,by omega,by have:=HLGE.out;omega,HPW.out,H4.out.b4,H4.out.b6,H4.out.tab,H4.out.r4,H4.out.r6,H4.out.fr⟩
     go_wp2_with fail
     go_roundw
     case rel=>exact ⟨c2,len+1,rfl,by go_num,HN⟩
     case measure=>simp [intOf];omega
   ·rw [if_pos h0] at HST;obtain ⟨e,he⟩:∃ e,e=(MS.need len y).2:=⟨_,rfl⟩
    have HZ:Hid (Sk ρ w p 125 271 2 (lrow [.int .i64 0, .int .i64 0]) (fun i=>(vtb 1 i).toList) t l (MS.need len y).1 w1):=HK.out.next g1 (MS.need_ok HK.out.ok) g2;rw [← he] at h0 HST ⊢;have h0':((e:Int)==0)=false:=by simp;exact h0
    clear g1 g2 he;have u0:w1.cell? ⟨w.heap.size,0,none⟩=some (.int .i64 0):=HZ.out.b4.cell (i:=0) (by omega);have u1:w1.cell? ⟨w.heap.size,1,none⟩=some (.int .i64 0):=HZ.out.b4.cell (i:=1) (by omega);have x0:=HZ.out.b4.frozen 0;have x1:=HZ.out.b4.frozen 1;have s0:w1.cell? ⟨w.heap.size+1,0,none⟩=some (.int .i64 0):=HZ.out.b6.cell (i:=0) (by omega);have s1:w1.cell? ⟨w.heap.size+1,1,none⟩=some (.int .i64 0):=HZ.out.b6.cell (i:=1) (by omega);have HFIN:Hid ((((w1.setCell ⟨w.heap.size,0,none⟩ (.int .i64 0)).setCell ⟨w.heap.size,1,none⟩ (.int .i64 0)).heap[w.heap.size]?=some (.cells #[.int .i64 0, .int .i64 0] 125))∧MM ρ ((w1.setCell ⟨w.heap.size,0,none⟩ (.int .i64 0)).setCell ⟨w.heap.size,1,none⟩ (.int .i64 0)) p (MS.need len y).1∧Fr (fun k=>1<=k∧k<=5) ρ w ((w1.setCell ⟨w.heap.size,0,none⟩ (.int .i64 0)).setCell ⟨w.heap.size,1,none⟩ (.int .i64 0))):=by
     refine ⟨xch (((HZ.out.b4).set 0 (.int .i64 0)).set 1 (.int .i64 0)),((HZ.out.mm).setNew w.heap.size 0 (.int .i64 0) HZ.out.r4).setNew w.heap.size 1 (.int .i64 0) HZ.out.r4,((HZ.out.fr).setNew w.heap.size 0 (.int .i64 0) (Nat.le_refl _)).setNew w.heap.size 1 (.int .i64 0) (Nat.le_refl _)⟩
    go_wp2_with fail
    refine bodyPost_ret (v7f Tryz.results149 _ _ _ _ _ _ _ rfl HFIN.out.1 Tryz.underlying125 rfl (xtd _ rfl)) rfl ?_;unfold SymE;rw [HST.out];exact ⟨by rw [if_neg h0];rfl,HFIN.out.2⟩
  ·obtain rfl:r=0:=by omega
   have hlti:¬ (len:Int)<=lg:=by omega
   have HST:Hid (R=((y.refuse 11).1,3,0)):=HEQ.out.symm;clear HEQ;have s0:wr.cell? ⟨w.heap.size+1,0,none⟩=some (.int .i64 0):=HK.out.b6.cell (i:=0) (by omega);have s1:wr.cell? ⟨w.heap.size+1,1,none⟩=some (.int .i64 0):=HK.out.b6.cell (i:=1) (by omega);go_wp2_with fail
   go_region_held3 (fun wv=>wv.cell? ⟨w.heap.size+1,0,none⟩=some (.int .i64 0)∧wv.cell? ⟨w.heap.size+1,1,none⟩=some (.int .i64 0)) (first | exact ⟨s0,s1⟩ | exact ⟨a0,a1⟩ | exact ⟨(jq1 (q:=⟨w.heap.size+1,0,none⟩) (by simp)).trans a0,(jq1 (q:=⟨w.heap.size+1,1,none⟩) (by simp)).trans a1⟩)
    (first | (go_at_call 79;refine (kv8 11 (HK.out.mm.drewN 1)).mono ?_;rintro e w2 ⟨rfl,g1,g2⟩;have H2:Hid (Sk ρ w p 125 271 2 (lrow [.int .i64 0, .int .i64 0]) (fun i=>(vtb 1 i).toList) t l (y.refuse 11).1 w2):=(HK.out.drewN 1).next g1 (HK.out.ok.refuse 11) g2;have a0:w2.cell? ⟨w.heap.size+1,0,none⟩=some (.int .i64 0):=H2.out.b6.cell (i:=0) (by omega);have u0:w2.cell? ⟨w.heap.size,0,none⟩=some (.int .i64 0):=H2.out.b4.cell (i:=0) (by omega);have x0:=H2.out.b4.frozen 0;have a1:w2.cell? ⟨w.heap.size+1,1,none⟩=some (.int .i64 0):=H2.out.b6.cell (i:=1) (by omega);have u1:w2.cell? ⟨w.heap.size,1,none⟩=some (.int .i64 0):=H2.out.b4.cell (i:=1) (by omega);have x1:=H2.out.b4.frozen 1;clear g1 g2))
   all_goals
    have HFIN:Hid ((((w2.setCell ⟨w.heap.size,0,none⟩ (.int .i64 0)).setCell ⟨w.heap.size,1,none⟩ (.int .i64 0)).heap[w.heap.size]?=some (.cells #[.int .i64 0, .int .i64 0] 125))∧MM ρ ((w2.setCell ⟨w.heap.size,0,none⟩ (.int .i64 0)).setCell ⟨w.heap.size,1,none⟩ (.int .i64 0)) p (y.refuse 11).1∧Fr (fun k=>1<=k∧k<=5) ρ w ((w2.setCell ⟨w.heap.size,0,none⟩ (.int .i64 0)).setCell ⟨w.heap.size,1,none⟩ (.int .i64 0))):=by
     refine ⟨xch (((H2.out.b4).set 0 (.int .i64 0)).set 1 (.int .i64 0)),((H2.out.mm).setNew w.heap.size 0 (.int .i64 0) H2.out.r4).setNew w.heap.size 1 (.int .i64 0) H2.out.r4,((H2.out.fr).setNew w.heap.size 0 (.int .i64 0) (Nat.le_refl _)).setNew w.heap.size 1 (.int .i64 0) (Nat.le_refl _)⟩
    go_wp2_with fail
    refine bodyPost_ret (v7f Tryz.results149 _ _ _ _ _ _ _ rfl HFIN.out.1 Tryz.underlying125 rfl (xtd _ rfl)) rfl ?_;unfold SymE;rw [HST.out];exact ⟨rfl,HFIN.out.2⟩
end Go.Proofs.YtbcjmakpempkiaaGreatDoor
