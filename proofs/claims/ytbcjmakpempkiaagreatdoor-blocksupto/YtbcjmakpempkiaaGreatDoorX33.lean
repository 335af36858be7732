import Derived.Test.YtbcjmakpempkiaaGreatDoorX32
set_option maxRecDepth 100000
set_option maxHeartbeats 8000000
set_option linter.all false
namespace Go.Proofs.YtbcjmakpempkiaaGreatDoor
open Go.RowKit
theorem Tr.mu_le_cost{t:Tr}{K:Nat}(h:t.cost<=K):66*t.mu<=K:=by unfold Tr.cost at h;omega
theorem xq7{B p:Nat}{vo va vs:Value}{t:Tr}(w:World)(h:TrI B p vo va vs t w)(hf:t.Fine)(hs:t.s.size<=maxLen)(hc:t.cost<=900000000000)(hb:xeo t)(hO:y4t w B) :
  Calls Tryz.prog 184 #[.pointer (some ⟨p,0,none⟩)] w fun x w'=>x= .returned (.tuple #[])∧∃ vo' va',jkl B p vo va vs vo' va' t.member w w':=by
 have hmu:=Tr.mu_le_cost hc;have z:=Tr.zero_facts t;have hd:=Tr.headed_facts t;obtain ⟨M,hM⟩:∃ M,M=t.mu:=⟨_,rfl⟩
 have hd2:=hd.2.2.1;rw [← hM] at hmu z hd2;have HM3:Hid (M+3<=1000000000000000):=by show M+3<=_;omega
 have HD:Hid (Tr.Fwd t t.headed∧t.headed.Fine∧Tr.Low (M+2) t.headed):=⟨hd.1,hd.2.1 hf,hd2⟩
 have f10:=h.row.frozen 10;have f11:=h.row.frozen 11;have c10:=h.row.cell (i:=10) (by omega);have c11:=h.row.cell (i:=11) (by omega);have K0:Kept B p vo va vs { t with head:=0,many:=0 } w ((w.setCell ⟨p,10,none⟩ (.int .i64 0)).setCell ⟨p,11,none⟩ (.int .i64 0)):=k6k (ka2 (Kept.refl h) 0) 0;obtain ⟨W0,hW0⟩:∃ W0,W0=(w.setCell ⟨p,10,none⟩ (.int .i64 0)).setCell ⟨p,11,none⟩ (.int .i64 0):=⟨_,rfl⟩
 rw [← hW0] at K0;obtain ⟨tz,htz⟩:∃ tz:Tr,tz={ t with head:=0,many:=0 }:=⟨_,rfl⟩
 rw [← htz] at K0 z;have HK0:Hid (Kept B p vo va vs tz w W0∧tz.s.size<=maxLen∧Tr.Low M tz):=⟨K0,by rw [z.1.s];exact hs,z.2.2⟩
 have HHD:Hid (t.headed=(tz.isB 76).isB 2):=by show _=_;rw [htz];rfl
 have HS1:Hid ((tz.isB 76).s.size<=maxLen∧Tr.Low (M+1) (tz.isB 76)):=⟨by rw [(Tr.fwd_isB tz 76).s,z.1.s];exact hs,z.2.2.isB 76⟩
 have HZ:Hid (t.s.size<=maxLen∧t.cost<=900000000000∧xeo t∧t.Fine):=⟨hs,hc,hb,hf⟩
 have HO:Hid (y4t w B):=hO;have HME:Hid (True->t.member=(t.headed.crown.2.marked t.headed.crown.1).blocks.sum.sized):=fun _=>rfl
 clear h hf hs hc hb hO z hd K0 htz hmu hd2 hM;go_enter Tryz.func184,Tryz.ntmps184
 go_wp2_with fail
 rw [← hW0];clear hW0 f10 f11 c10 c11;refine (trIs M 76 _ HK0.out.1.inv HK0.out.2.1 HK0.out.2.2 (by have:=HM3.out;omega)).mono ?_;rintro e w1 ⟨rfl,k1⟩;have HK1:Hid (Kept B p vo va vs (tz.isB 76) w w1):=HK0.out.1.trans k1;clear k1;go_wp2_with fail
 refine (trIs (M+1) 2 _ HK1.out.inv HS1.out.1 HS1.out.2 (by have:=HM3.out;omega)).mono ?_;rintro e w2 ⟨rfl,k2⟩;have HK2:Hid (Kept B p vo va vs t.headed w w2):=by show Kept _ _ _ _ _ _ _ _;rw [HHD.out];exact HK1.out.trans k2
 clear k2 HK1 HK0;have HS2:Hid (t.headed.s.size<=maxLen):=by show _<=_;rw [HD.out.1.s];exact HZ.out.1
 go_wp2_with fail
 refine (xdt (M+2) _ HK2.out.inv HS2.out HD.out.2.2 (by have:=HM3.out;omega)).mono ?_;rintro e w3 ⟨rfl,k3⟩;have HK3:Hid (Kept B p vo va vs t.headed.crown.2 w w3):=HK2.out.trans k3;have hm:t.headed.crown.1<256:=Tr.octet_lt t.headed;have HF3:Hid (Tr.Fwd t t.headed.crown.2∧t.headed.crown.2.Fine∧Tr.Low (M+3) t.headed.crown.2):=⟨HD.out.1.trans (Tr.fwd_crown _),HD.out.2.1.crown,HD.out.2.2.crown⟩
 clear k3 HK2;generalize t.headed.crown=c at *;obtain ⟨T2,hT2⟩:∃ T2,T2=(if 7<c.1 then c.2.fail 4 else c.2):=⟨_,rfl⟩
 obtain ⟨T3,hT3⟩:∃ T3,T3=(if c.1%2=1 then T2.text else T2):=⟨_,rfl⟩
 obtain ⟨T4,hT4⟩:∃ T4,T4=(if c.1 / 2%2=1 then T3.text else T3):=⟨_,rfl⟩
 obtain ⟨T5,hT5⟩:∃ T5,T5=(if c.1 / 4=1 then T4.isB T4.head else T4):=⟨_,rfl⟩
 have HMK:Hid (True->c.2.marked c.1=T5):=fun _=>by rw [hT5,hT4,hT3,hT2];rfl
 have G2:Tr.Fwd t T2∧T2.Fine∧Tr.Low (M+3) T2:=by
  rw [hT2];split
  ·exact ⟨HF3.out.1.trans (Tr.fwd_fail _ (by decide)),HF3.out.2.1.fail (by decide),HF3.out.2.2.fail (by decide)⟩
  ·exact HF3.out
 have G3:Tr.Fwd t T3∧T3.Fine∧Tr.Low (M+3) T3:=by
  rw [hT3];split
  ·exact ⟨G2.1.trans (Tr.fwd_text _),G2.2.1.text,G2.2.2.text⟩
  ·exact G2
 have G4:Tr.Fwd t T4∧T4.Fine∧Tr.Low (M+3) T4:=by
  rw [hT4];split
  ·exact ⟨G3.1.trans (Tr.fwd_text _),G3.2.1.text,G3.2.2.text⟩
  ·exact G3
 have G5:Tr.Fwd t T5∧T5.Fine:=by
  rw [hT5];split
  ·exact ⟨G4.1.trans (Tr.fwd_isB _ _),G4.2.1.isB _⟩
  ·exact ⟨G4.1,G4.2.1⟩
 have HG:Hid ((Tr.Fwd t T2∧T2.Fine∧Tr.Low (M+3) T2)∧(Tr.Fwd t T3∧T3.Fine∧Tr.Low (M+3) T3)∧(Tr.Fwd t T4∧T4.Fine∧Tr.Low (M+3) T4)∧(Tr.Fwd t T5∧T5.Fine)):=⟨G2,G3,G4,G5⟩
 have HSZ:Hid (∀ x:Tr,Tr.Fwd t x->x.s.size<=maxLen):=fun x f=>by rw [f.s];exact HZ.out.1
 have HH2:Hid (True->T2=(if 7<c.1 then c.2.fail 4 else c.2)):=fun _=>hT2
 have HH3:Hid (True->T3=(if c.1%2=1 then T2.text else T2)):=fun _=>hT3
 have HH4:Hid (True->T4=(if c.1 / 2%2=1 then T3.text else T3)):=fun _=>hT4
 have HH5:Hid (True->T5=(if c.1 / 4=1 then T4.isB T4.head else T4)):=fun _=>hT5
 clear G2 G3 G4 G5 hT2 hT3 hT4 hT5;generalize c.1=m at *;go_upto_if 19 with fail
 go_cut [2] (fun s2 wx=>s2= .int .i64 m∧Hid (Kept B p vo va vs T2 w wx))
 case first=>
  by_cases h7:7<m
  ·have hT2:=(HH2.out trivial)
   rw [if_pos h7] at hT2;have HT:Hid (T2=c.2.fail 4):=hT2;clear hT2;go_wp2_with fail
   refine (j0n 4 _ HK3.out.inv).mono ?_;rintro e w4 ⟨rfl,k4⟩;have HQ:Hid (Kept B p vo va vs T2 w w4):=by show Kept _ _ _ _ _ _ _ _;rw [HT.out];exact HK3.out.trans k4
   clear k4;go_wp2_with fail
   go_meet
   exact ⟨rfl,HQ⟩
  ·have hT2:=(HH2.out trivial)
   rw [if_neg h7] at hT2;have HQ:Hid (Kept B p vo va vs T2 w w3):=by show Kept _ _ _ _ _ _ _ _;rw [hT2];exact HK3.out
   clear hT2;go_wp2_with fail
   go_meet
   exact ⟨rfl,HQ⟩
 case rest=>
 obtain ⟨rfl,HQ2⟩:=hcut;clear HK3;go_upto_if 24 with fail
 go_cut [2,24] (fun s2 _ wx=>s2= .int .i64 m∧Hid (Kept B p vo va vs T3 w wx))
 case first=>
  by_cases h1:m%2=1
  ·have hT3:=(HH3.out trivial)
   rw [if_pos h1] at hT3;have HT:Hid (T3=T2.text):=hT3;have hd:((m:Int)%2==1)=true:=by simp;omega
   clear hT3 h1;go_wp2_with fail
   refine (ztx (M+3) _ HQ2.out.inv (HSZ.out _ HG.out.1.1) HG.out.1.2.2 (by have:=HM3.out;omega)).mono ?_;rintro e w4 ⟨rfl,k4⟩;have HQ:Hid (Kept B p vo va vs T3 w w4):=by show Kept _ _ _ _ _ _ _ _;rw [HT.out];exact HQ2.out.trans k4
   clear k4;go_wp2_with fail
   go_meet
   exact ⟨rfl,HQ⟩
  ·have hT3:=(HH3.out trivial)
   rw [if_neg h1] at hT3;have hd:((m:Int)%2==1)=false:=by simp;omega
   obtain ⟨wy,hwy⟩:∃ wy,wy=wc:=⟨_,rfl⟩
   have HQ:Hid (Kept B p vo va vs T3 w wc):=by show Kept _ _ _ _ _ _ _ _;rw [hT3];exact HQ2.out
   clear hT3 hwy;go_wp2_with fail
   go_meet
   exact ⟨rfl,HQ⟩
 case rest=>
 obtain ⟨rfl,HQ3⟩:=hcut;clear HQ2;go_upto_if 30 with fail
 go_cut [2,30] (fun s2 _ wx=>s2= .int .i64 m∧Hid (Kept B p vo va vs T4 w wx))
 case first=>
  by_cases h1:m / 2%2=1
  ·have hT4:=(HH4.out trivial)
   rw [if_pos h1] at hT4;have HT:Hid (T4=T3.text):=hT4;have hd:((m:Int) / 2%2==1)=true:=by simp;omega
   clear hT4 h1;go_wp2_with fail
   refine (ztx (M+3) _ HQ3.out.inv (HSZ.out _ HG.out.2.1.1) HG.out.2.1.2.2 (by have:=HM3.out;omega)).mono ?_;rintro e w4 ⟨rfl,k4⟩;have HQ:Hid (Kept B p vo va vs T4 w w4):=by show Kept _ _ _ _ _ _ _ _;rw [HT.out];exact HQ3.out.trans k4
   clear k4;go_wp2_with fail
   go_meet
   exact ⟨rfl,HQ⟩
  ·have hT4:=(HH4.out trivial)
   rw [if_neg h1] at hT4;have hd:((m:Int) / 2%2==1)=false:=by simp;omega
   have HQ:Hid (Kept B p vo va vs T4 w wc):=by show Kept _ _ _ _ _ _ _ _;rw [hT4];exact HQ3.out
   clear hT4;go_wp2_with fail
   go_meet
   exact ⟨rfl,HQ⟩
 case rest=>
 obtain ⟨rfl,HQ4⟩:=hcut;clear HQ3;go_upto_if 35 with fail
 go_cut [2,35] (fun s2 _ wx=>s2= .int .i64 m∧Hid (Kept B p vo va vs T5 w wx))
 case first=>
  by_cases h1:m / 4=1
  ·have hT5:=(HH5.out trivial)
   rw [if_pos h1] at hT5;have HT:Hid (T5=T4.isB T4.head):=hT5;have hd:((m:Int) / 4==1)=true:=by simp;omega
   have c10:wc.cell? ⟨p,10,none⟩=some (.int .i64 T4.head):=HQ4.out.inv.row.cell (i:=10) (by omega);clear hT5 h1;go_wp2_with fail
   refine (trIs (M+3) T4.head _ HQ4.out.inv (HSZ.out _ HG.out.2.2.1.1) HG.out.2.2.1.2.2 (by have:=HM3.out;omega)).mono ?_;rintro e w4 ⟨rfl,k4⟩;have HQ:Hid (Kept B p vo va vs T5 w w4):=by show Kept _ _ _ _ _ _ _ _;rw [HT.out];exact HQ4.out.trans k4
   clear k4;go_wp2_with fail
   go_meet
   exact ⟨rfl,HQ⟩
  ·have hT5:=(HH5.out trivial)
   rw [if_neg h1] at hT5;have hd:((m:Int) / 4==1)=false:=by simp;omega
   have HQ:Hid (Kept B p vo va vs T5 w wc):=by show Kept _ _ _ _ _ _ _ _;rw [hT5];exact HQ4.out
   clear hT5;go_wp2_with fail
   go_meet
   exact ⟨rfl,HQ⟩
 case rest=>
 obtain ⟨rfl,HQ5⟩:=hcut;clear HQ4;have HC5:Hid (T5.cost<=900000000000∧xeo T5):=⟨Nat.le_trans HG.out.2.2.2.1.cost HZ.out.2.1,HG.out.2.2.2.1.bytesOk HZ.out.2.2.1⟩
 go_wp2_with fail
 refine (y7t _ HQ5.out.inv HG.out.2.2.2.2 (HSZ.out _ HG.out.2.2.2.1) HC5.out.1 (HO.out.below HQ5.out.bel)).mono ?_;rintro e w6 ⟨rfl,vo6,va6,m6⟩;have HM6:Hid (jkl B p vo va vs vo6 va6 T5.blocks w w6):=HQ5.out.moved.trans m6;have PB:=Tr.part_blocks HG.out.2.2.2.2;have HP6:Hid (T5.blocks.Fine∧T5.blocks.s.size<=maxLen∧T5.blocks.cost<=900000000000∧xeo T5.blocks):=⟨PB.fine HG.out.2.2.2.2,by rw [PB.s];exact HSZ.out _ HG.out.2.2.2.1,Nat.le_trans PB.cost HC5.out.1,PB.bytes HC5.out.2⟩
 have HME2:Hid (True->t.member=T5.blocks.sum.sized):=fun _=>by rw [(HME.out trivial),(HMK.out trivial)]
 clear m6 PB HQ5;go_wp2_with fail
 refine (x27 _ HM6.out.inv HP6.out.1 HP6.out.2.1 (by have:=Tr.out_le HP6.out.2.2.1;omega) HP6.out.2.2.2).mono ?_;rintro e w7 ⟨rfl,k7⟩;have HM7:Hid (jkl B p vo va vs vo6 va6 T5.blocks.sum w w7):=HM6.out.then k7;have HP7:Hid (T5.blocks.sum.Fine∧T5.blocks.sum.s.size<=maxLen∧T5.blocks.sum.out.length<=900000000000):=⟨HP6.out.1.sum,by rw [(Tr.fwd_sum _).s];exact HP6.out.2.1,by rw [(Tr.fwd_sum _).out];exact Tr.out_le HP6.out.2.2.1⟩
 clear k7 HM6;generalize T5.blocks.sum=T7 at *;go_wp2_with fail
 refine (x5o _ HM7.out.inv HP7.out.2.1).mono ?_;rintro e w8 ⟨rfl,k8⟩;have HM8:Hid (jkl B p vo va vs vo6 va6 T7.octet.2 w w8):=HM7.out.then k8;clear k8;go_wp2_with fail
 refine (x5o _ HM8.out.inv (by rw [(Tr.fwd_octet T7).s];exact HP7.out.2.1)).mono ?_;rintro e w9 ⟨rfl,k9⟩;have HM9:Hid (jkl B p vo va vs vo6 va6 T7.octet.2.octet.2 w w9):=HM8.out.then k9;have HSD:Hid (True->T7.sized=if T7.octet.1+256*T7.octet.2.octet.1=(T7.octet.2.octet.2.out.length - T7.octet.2.octet.2.frm)%65536 then T7.octet.2.octet.2 else T7.octet.2.octet.2.fail 13):=fun _=>rfl
 have hfr:=HP7.out.1.octet.octet.frm;have hol:T7.octet.2.octet.2.out.length<=900000000000:=by rw [(Tr.fwd_octet _).out,(Tr.fwd_octet _).out];exact HP7.out.2.2
 have la:=Tr.octet_lt T7;have lb:=Tr.octet_lt T7.octet.2;clear k9 HM8 HM7;generalize T7.octet.2.octet.2=T9 at *;generalize T7.octet.2.octet.1=b at *;generalize T7.octet.1=a at *;obtain ⟨aO,cO,hvo⟩:∃ aO cO,vo6= .slice aO T9.out.length cO:=by
  rcases HM9.out.inv.out.2 with ⟨e,h0⟩ | ⟨g,cp,_,e,_⟩
  ·exact ⟨none,0,by rw [e,h0]⟩
  ·exact ⟨_,cp,e⟩
 have c0:w9.cell? ⟨p,0,none⟩=some (.slice aO T9.out.length cO):=by rw [← hvo];exact HM9.out.inv.row.cell (i:=0) (by omega)
 have c9:w9.cell? ⟨p,9,none⟩=some (.int .i64 T9.frm):=HM9.out.inv.row.cell (i:=9) (by omega);clear hvo;by_cases he:a+256*b=(T9.out.length - T9.frm)%65536
 ·have hd:((a:Int)+256*b !=((T9.out.length:Int) - T9.frm)%65536)=false:=by simp;omega
  have HE:Hid (a+256*b=(T9.out.length - T9.frm)%65536):=he;clear he;go_wp2_with fail
  go_quiet (fail)
  go_wp2_with fail
  go_end0
  rw [(HME2.out trivial),(HSD.out trivial),if_pos HE.out];exact ⟨rfl,vo6,va6,HM9.out.then ((Kept.refl HM9.out.inv).drewN _)⟩
 ·have hd:((a:Int)+256*b !=((T9.out.length:Int) - T9.frm)%65536)=true:=by simp;omega
  go_wp2_with fail
  go_quiet (fail)
  go_wp2_with fail
  refine (j0n 13 _ (HM9.out.inv.drewN _)).mono ?_;rintro e w10 ⟨rfl,k10⟩;have HM10:Hid (jkl B p vo va vs vo6 va6 (T9.fail 13) w w10):=HM9.out.then (((Kept.refl HM9.out.inv).drewN _).trans k10);clear k10;go_wp2_with fail
  go_end0
  rw [(HME2.out trivial),(HSD.out trivial),if_neg he];exact ⟨rfl,vo6,va6,HM10.out⟩
theorem x9h(s:ByteArray)(limit:Nat)(l:List Nat)(hs:s.size<=1000000000):Tr.Low 10000000000 ({ Tr.start s limit with starts:=l }:Tr)∧xeo ({ Tr.start s limit with starts:=l }:Tr):=by
 refine ⟨⟨by show 0<256;omega,?_⟩,fun b hb=>by cases hb⟩;have h:=Tr.mu_le_cost (jqo s limit hs);have e:({ Tr.start s limit with starts:=l }:Tr).mu=(Tr.start s limit).mu:=rfl;show 0+({ Tr.start s limit with starts:=l }:Tr).mu<=10000000000;rw [e];have e2:(Tr.start s limit).mu=1+8*(s.size - 0)+0:=rfl;rw [e2];omega
theorem z2a(s:ByteArray)(m:Int)(limit:Nat)(w:World)(hs:s.size<=1000000000)(hO:y4t w w.heap.size) :
  Calls Tryz.prog 155 #[.int .i64 1, .int .i64 m, .int .i64 limit, .string s] w fun x w'=>jmy w (Tr.readShort s limit) x w':=by
 obtain ⟨W0,hW0⟩:∃ W0,W0=w.alloc (.cells (kh8 s limit) 235):=⟨_,rfl⟩
 have I0:TrI w.heap.size w.heap.size (.slice none 0 0) (.slice none 0 0) (.slice none 0 0) (Tr.start s limit) W0:=by rw [hW0];exact vb0 s limit w
 have B0:Below w.heap.size w W0:=by rw [hW0];exact (Below.refl _ _).alloc (Nat.le_refl _) _
 have hsz0:W0.heap.size=w.heap.size+1:=by rw [hW0];simp
 have c5:W0.cell? ⟨w.heap.size,5,none⟩=some (.bool false):=I0.row.cell (i:=5) (by omega);have f5:=I0.row.frozen 5;have c3:W0.cell? ⟨w.heap.size,3,none⟩=some (.slice none 0 0):=I0.row.cell (i:=3) (by omega);have f3:=I0.row.frozen 3;have HI0:Hid (TrI w.heap.size w.heap.size (.slice none 0 0) (.slice none 0 0) (.slice none 0 0) (Tr.start s limit) W0∧Below w.heap.size w W0):=⟨I0,B0⟩
 have HO0:Hid (y4t W0 w.heap.size):=hO.below B0;have HS:Hid (s.size<=1000000000):=hs;clear I0 B0 hO hs;by_cases hz:s.size=0
 ·have he:s=⟨#[]⟩:=by
   cases s with
   | mk d=>
    have:d.size=0:=hz;rw [Array.size_eq_zero_iff.1 this]
  subst he;have e:Tr.readShort ⟨#[]⟩ limit={ Tr.start ⟨#[]⟩ limit with needs:=true }:=by unfold Tr.readShort;rw [if_pos (show (⟨#[]⟩:ByteArray).size=0 from rfl)]
  rw [e];have HK:Hid (Kept w.heap.size w.heap.size (.slice none 0 0) (.slice none 0 0) (.slice none 0 0) { Tr.start ⟨#[]⟩ limit with needs:=true } W0 (W0.setCell ⟨w.heap.size,5,none⟩ (.bool true))):=kk4 (Kept.refl HI0.out.1);clear e hz;go_enter Tryz.func155,Tryz.ntmps155
  go_upto_region 2 with fail
  change Code.wp _ _ _ _ (w.alloc (.cells (kh8 ⟨#[]⟩ limit) 235))
  rw [← hW0];clear hW0;go_wp2_with fail
  go_ret
  exact ⟨w.heap.size,_,_,_,rfl,HK.out.inv,HI0.out.2.trans HK.out.bel⟩
 ·go_enter Tryz.func155,Tryz.ntmps155
  go_upto_region 2 with fail
  change Code.wp _ _ _ _ (w.alloc (.cells (kh8 s limit) 235))
  rw [← hW0];clear hW0;have hne:¬ s=⟨#[]⟩:=by
   intro e;rw [e] at hz;exact hz rfl
  have hemp:s.toList.isEmpty=false:=by
   rw [ByteArray.toList_eq];cases hl:s.data.toList with
   | nil=>exact absurd (by show s.data.size=0;rw [← Array.length_toList,hl];rfl) hz
   | cons _ _=>rfl
  obtain ⟨W1,hW1⟩:∃ W1,W1=(W0.setCell ⟨w.heap.size,3,none⟩ (.slice (some ⟨w.heap.size+1,0,none⟩) 1 1)).alloc (.cells #[.int .i64 0] 3):=⟨_,rfl⟩
  have hsc:(W0.setCell ⟨w.heap.size,3,none⟩ (.slice (some ⟨w.heap.size+1,0,none⟩) 1 1)).heap.size=w.heap.size+1:=by simp [World.setCell,hsz0]
  have BW:Below (w.heap.size+1) (W0.setCell ⟨w.heap.size,3,none⟩ (.slice (some ⟨w.heap.size+1,0,none⟩) 1 1)) W1:=by rw [hW1];exact (Below.refl _ _).alloc (by omega) _
  have hk1:Sole w.heap.size W0 W1:=(Sole.set _ _ _ _).trans (Sole.of_below (by rw [hsc];exact BW));have hnew:W1.heap[w.heap.size+1]?=some (.cells #[.int .i64 0] 3 (0,0)):=by
   have h:=heap_alloc_new (W0.setCell ⟨w.heap.size,3,none⟩ (.slice (some ⟨w.heap.size+1,0,none⟩) 1 1)) (.cells #[.int .i64 0] 3);rw [hsc,← hW1] at h;exact h
  have T1:TrI w.heap.size w.heap.size (.slice none 0 0) (.slice none 0 0) (.slice (some ⟨w.heap.size+1,0,none⟩) 1 1) { Tr.start s limit with starts:=[0] } W1:=by
   refine v7g HI0.out.1 hk1 ?_ ?_ (by simp [Value.ownBlock]) (fun g h=>by simp [Value.ownBlock] at h) (fun g h=>by simp [Value.ownBlock] at h)
   ·have r:=(HI0.out.1.row.set 3 (.slice (some ⟨w.heap.size+1,0,none⟩) 1 1)).of_block (BW.block w.heap.size (by omega));refine r.congr ?_;intro j hj;revert j
    exact vhp rfl rfl rfl rfl rfl rfl rfl rfl rfl rfl rfl rfl rfl
   ·exact ⟨rfl,Or.inr ⟨w.heap.size+1,1,#[.int .i64 0],rfl,by omega,hnew,Nat.le_refl _,by unfold maxLen;omega,rfl,rfl⟩⟩
  have B01:Below w.heap.size W0 W1:=((Below.refl _ _).setCell (Nat.le_refl _) _).trans (BW.mono (show w.heap.size<=w.heap.size+1 by omega));have BB:Below w.heap.size w W1:=HI0.out.2.trans B01;have HT1:Hid (TrI w.heap.size w.heap.size (.slice none 0 0) (.slice none 0 0) (.slice (some ⟨w.heap.size+1,0,none⟩) 1 1) { Tr.start s limit with starts:=[0] } W1∧Below w.heap.size w W1):=⟨T1,BB⟩
  have HO1:Hid (y4t W1 w.heap.size):=HO0.out.below B01;have HFC:Hid (({ Tr.start s limit with starts:=[0] }:Tr).Fine∧({ Tr.start s limit with starts:=[0] }:Tr).cost<=900000000000):=by
   have f:=kak s limit;exact ⟨⟨f.left,f.cur,f.inn,f.frm,f.ats,f.err⟩,jqo s limit HS.out⟩
  clear BW hk1 hnew T1 BB hsc B01;have HRD:Hid (True->Tr.readShort s limit=(((({ Tr.start s limit with starts:=[0] }:Tr).isB 115).isB 1).blocks.sum).trail):=fun _=>by unfold Tr.readShort;rw [if_neg hz]
  have HLW:Hid (Tr.Low 10000000000 ({ Tr.start s limit with starts:=[0] }:Tr)∧xeo ({ Tr.start s limit with starts:=[0] }:Tr)):=x9h s limit [0] HS.out;have HSM:Hid (({ Tr.start s limit with starts:=[0] }:Tr).s=s):=rfl;generalize ({ Tr.start s limit with starts:=[0] }:Tr)=t0 at *;go_upto_region 19 with fail
  rw [← hW1];clear hW1 c5 f5 c3 f3 hne;have HSZ:Hid (∀ x:Tr,Tr.Fwd t0 x->x.s.size<=maxLen):=fun x f=>by rw [f.s,HSM.out];unfold maxLen;have:=HS.out;omega
  have f1:=Tr.fwd_isB t0 115;have f2:=f1.trans (Tr.fwd_isB (t0.isB 115) 1);have HF:Hid (Tr.Fwd t0 (t0.isB 115)∧Tr.Fwd t0 ((t0.isB 115).isB 1)∧((t0.isB 115).isB 1).Fine∧((t0.isB 115).isB 1).cost<=900000000000∧xeo ((t0.isB 115).isB 1)∧Tr.Low 10000000001 (t0.isB 115)):=⟨f1,f2,(HFC.out.1.isB 115).isB 1,Nat.le_trans f2.cost HFC.out.2,f2.bytesOk HLW.out.2,HLW.out.1.isB 115⟩
  clear f1 f2;go_wp2_with fail
  refine (trIs 10000000000 115 _ HT1.out.1 (HSZ.out _ (Tr.Fwd.refl _)) HLW.out.1 (by omega)).mono ?_;rintro e wa ⟨rfl,ka⟩;have HKa:Hid (Kept w.heap.size w.heap.size (.slice none 0 0) (.slice none 0 0) (.slice (some ⟨w.heap.size+1,0,none⟩) 1 1) (t0.isB 115) W1 wa):=ka;clear ka;go_wp2_with fail
  refine (trIs 10000000001 1 _ HKa.out.inv (HSZ.out _ HF.out.1) HF.out.2.2.2.2.2 (by omega)).mono ?_;rintro e wb ⟨rfl,kb⟩;have HKb:Hid (Kept w.heap.size w.heap.size (.slice none 0 0) (.slice none 0 0) (.slice (some ⟨w.heap.size+1,0,none⟩) 1 1) ((t0.isB 115).isB 1) W1 wb):=HKa.out.trans kb;clear kb HKa;generalize (t0.isB 115).isB 1=ti at *;go_wp2_with fail
  refine (y7t wb HKb.out.inv HF.out.2.2.1 (HSZ.out _ HF.out.2.1) HF.out.2.2.2.1 (HO1.out.below HKb.out.bel)).mono ?_;rintro e wq ⟨rfl,vo2,va2,mq⟩;have HMq:Hid (jkl w.heap.size w.heap.size (.slice none 0 0) (.slice none 0 0) (.slice (some ⟨w.heap.size+1,0,none⟩) 1 1) vo2 va2 ti.blocks W1 wq):=HKb.out.moved.trans mq;have PB:=Tr.part_blocks HF.out.2.2.1;have HPq:Hid (ti.blocks.Fine∧ti.blocks.s.size<=maxLen∧ti.blocks.cost<=900000000000∧xeo ti.blocks∧ti.blocks.s=s):=⟨PB.fine HF.out.2.2.1,by rw [PB.s];exact HSZ.out _ HF.out.2.1,Nat.le_trans PB.cost HF.out.2.2.2.1,PB.bytes HF.out.2.2.2.2.1,PB.s.trans (HF.out.2.1.s.trans HSM.out)⟩
  clear mq PB HKb;go_wp2_with fail
  refine (x27 _ HMq.out.inv HPq.out.1 HPq.out.2.1 (by have:=Tr.out_le HPq.out.2.2.1;omega) HPq.out.2.2.2.1).mono ?_;rintro e w2 ⟨rfl,k2⟩;have HM2:Hid (jkl w.heap.size w.heap.size (.slice none 0 0) (.slice none 0 0) (.slice (some ⟨w.heap.size+1,0,none⟩) 1 1) vo2 va2 ti.blocks.sum W1 w2):=HMq.out.then k2;have HBF:Hid (ti.blocks.sum.s=s∧ti.blocks.sum.Fine):=⟨(Tr.fwd_sum _).s.trans HPq.out.2.2.2.2,HPq.out.1.sum⟩
  clear k2 HMq;generalize ti.blocks.sum=T at *;have c2:w2.cell? ⟨w.heap.size,2,none⟩=some (.int .i64 T.inn):=HM2.out.inv.row.cell (i:=2) (by omega);have f2:=HM2.out.inv.row.frozen 2;have hin:T.inn<=s.size:=by have:=HBF.out.2.inn;rw [HBF.out.1] at this;exact this
  have hss:=HS.out;cases he:T.ended
  ·have HE:Hid (T.ended=false):=he;clear he;by_cases hlt:T.inn<s.size
   ·have HTR:Hid (T.trail=({ T with inn:=T.inn+1 }:Tr).fail 14):=by show _=_;unfold Tr.trail;rw [if_pos ⟨HE.out,by rw [HBF.out.1];exact hlt⟩]
    have HKI:Hid (Kept w.heap.size w.heap.size vo2 va2 (.slice (some ⟨w.heap.size+1,0,none⟩) 1 1) { T with inn:=T.inn+1 } w2 (w2.setCell ⟨w.heap.size,2,none⟩ (.int .i64 ((T.inn:Int)+1)))):=x3v (Kept.refl HM2.out.inv) (T.inn+1);go_wp2_with (first | (go_at_call 182;refine (ywm _ HM2.out.inv).mono ?_;rw [HE.out];rintro e w' ⟨rfl,rfl⟩))
    refine (j0n 14 _ HKI.out.inv).mono ?_;rintro e w3 ⟨rfl,q3⟩;have HK3:Hid (Kept w.heap.size w.heap.size vo2 va2 (.slice (some ⟨w.heap.size+1,0,none⟩) 1 1) (({ T with inn:=T.inn+1 }:Tr).fail 14) w2 w3):=HKI.out.trans q3;clear q3;go_wp2_with fail
    go_ret
    rw [HRD.out trivial,HTR.out];exact ⟨w.heap.size,vo2,va2,_,rfl,HK3.out.inv,HT1.out.2.trans (HM2.out.bel.trans HK3.out.bel)⟩
   ·have HTR:Hid (T.trail=T):=by show _=_;unfold Tr.trail;rw [if_neg (by rw [HBF.out.1];omega)]
    go_wp2_with (first | (go_at_call 182;refine (ywm _ HM2.out.inv).mono ?_;rw [HE.out];rintro e w' ⟨rfl,rfl⟩))
    go_ret
    rw [HRD.out trivial,HTR.out];exact ⟨w.heap.size,vo2,va2,_,rfl,HM2.out.inv,HT1.out.2.trans HM2.out.bel⟩
  ·have HE:Hid (T.ended=true):=he;clear he;have HTR:Hid (T.trail=T):=by show _=_;unfold Tr.trail;rw [if_neg (by rw [HE.out];simp)]
   go_wp2_with (first | (go_at_call 182;refine (ywm _ HM2.out.inv).mono ?_;rw [HE.out];rintro e w' ⟨rfl,rfl⟩))
   go_ret
   rw [HRD.out trivial,HTR.out];exact ⟨w.heap.size,vo2,va2,_,rfl,HM2.out.inv,HT1.out.2.trans HM2.out.bel⟩
theorem TrI.addStart{B p:Nat}{vo va vs:Value}{t:Tr}{w X w1:World}{g c n:Nat}{b:Nat}(h:TrI B p vo va vs t w)(hX:Below w.heap.size w X)(hg:X.grownBy w1 vs.ownBlock)(hat:vs.ownBlock=some g∨w.heap.size<=g)
  (hn:n=t.starts.length+1) (hown:w1.ownsRow B 3 1 (.slice (some ⟨g,0,none⟩) n c) n (yqv t.starts++[.int .i64 b])) :
  TrI B p vo va (.slice (some ⟨g,0,none⟩) n c) { t with starts:=t.starts++[b] } (w1.setCell ⟨p,3,none⟩ (.slice (some ⟨g,0,none⟩) n c))∧Below B w (w1.setCell ⟨p,3,none⟩ (.slice (some ⟨g,0,none⟩) n c)):=by
 have hsz:w.heap.size<=w1.heap.size:=Nat.le_trans hX.size hg.size;have hpl:=h.row.lt;have hb1:∀ k,k<w.heap.size->vs.ownBlock≠some k->w1.heap[k]?=w.heap[k]?:=fun k hk hne=>
  (hg.block k (Nat.lt_of_lt_of_le hk hX.size) (fun e=>hne e.symm)).trans (j1i hX hk)
 have hK:Kp (fun k=>k=p∨vs.ownBlock=some k) (fun k=>k) w (w1.setCell ⟨p,3,none⟩ (.slice (some ⟨g,0,none⟩) n c)):=⟨by simpa [World.setCell] using hsz,fun k hk hr=>by
   rw [Below.heap_setCell _ _ _ _ (fun e=>hr (Or.inl e))];exact hb1 k hk (fun e=>hr (Or.inr e))⟩
 have hgp:g≠p:=by
  rcases hat with e | e
  ·intro e';subst e';exact h.ps e
  ·omega
 have hgo:vo.ownBlock≠some g:=by
  rcases hat with e | e
  ·exact fun e'=>h.os g e' e
  ·intro e';have:=(h.out.lt g e').2;omega
 have hga:va.ownBlock≠some g:=by
  rcases hat with e | e
  ·exact fun e'=>h.sa g e' e
  ·intro e';have:=(h.ats.lt g e').2;omega
 refine ⟨⟨h.pB,Nat.le_trans h.hB hK.size,?_,?_,?_,?_,h.po,h.pa,?_,h.oa,?_,?_⟩,?_⟩
 ·refine ((h.row.of_block (hb1 p hpl h.ps)).set 3 _).congr ?_;intro j hj;revert j
  exact vhp rfl rfl rfl rfl rfl rfl rfl rfl rfl rfl rfl rfl rfl
 ·exact kcz h.out hK (fun x hx hr=>by
   rcases hr with e | e
   ·exact h.po (by rw [hx,e])
   ·exact h.os x hx e)
 ·exact kcz h.ats hK (fun x hx hr=>by
   rcases hr with e | e
   ·exact h.pa (by rw [hx,e])
   ·exact h.sa x hx e)
 ·have e:yqv (t.starts++[b])=yqv t.starts++[.int .i64 b]:=by simp [yqv]
  have e2:(t.starts++[b]).length=n:=by simp [hn]
  show World.ownsRow _ _ _ _ _ (t.starts++[b]).length (yqv (t.starts++[b]));rw [e,e2];exact kcz (R:=fun k=>k=p) (ρ:=fun k=>k) hown ⟨by simp [World.setCell],fun k _ hk=>Below.heap_setCell _ _ _ _ hk⟩ (fun x hx=>by simp [Value.ownBlock] at hx;omega)
 ·simp [Value.ownBlock];exact hgp
 ·intro x hx;simp [Value.ownBlock];exact fun e=>hgo (by rw [hx,e])
 ·intro x hx;simp [Value.ownBlock];exact fun e=>hga (by rw [hx,e])
 ·have hB:=h.hB;exact ((hX.mono hB).grown hg (Nat.le_trans hB hX.size) (fun x hx=>(h.sts.lt x hx).1)).setCell h.pB _
structure v99(w:World)(s:ByteArray)(members:Nat)(fin:Tr)(p:Nat)(wr:World)(t1:Tr)(vo va vs:Value):Prop where
 go:Tr.long members t1=fin
 inv:TrI w.heap.size p vo va vs t1 wr
 bel:Below w.heap.size w wr
 fine:t1.Fine
 cost:t1.cost<=900000000000
 bytes:xeo t1
 s:t1.s=s
 ord:y4t wr w.heap.size
 many:t1.starts.length+t1.mu<=10000000000
theorem zte(s:ByteArray)(members limit:Nat)(w:World)(hs:s.size<=1000000000)(hO:y4t w w.heap.size) :
  Calls Tryz.prog 155 #[.int .i64 2, .int .i64 members, .int .i64 limit, .string s] w fun x w'=>jmy w (Tr.readLong s members limit) x w':=by
 obtain ⟨W0,hW0⟩:∃ W0,W0=w.alloc (.cells (kh8 s limit) 235):=⟨_,rfl⟩
 have I0:TrI w.heap.size w.heap.size (.slice none 0 0) (.slice none 0 0) (.slice none 0 0) (Tr.start s limit) W0:=by rw [hW0];exact vb0 s limit w
 have B0:Below w.heap.size w W0:=by rw [hW0];exact (Below.refl _ _).alloc (Nat.le_refl _) _
 have c5:W0.cell? ⟨w.heap.size,5,none⟩=some (.bool false):=I0.row.cell (i:=5) (by omega);have f5:=I0.row.frozen 5;have HI0:Hid (TrI w.heap.size w.heap.size (.slice none 0 0) (.slice none 0 0) (.slice none 0 0) (Tr.start s limit) W0∧Below w.heap.size w W0):=⟨I0,B0⟩
 have HO0:Hid (y4t W0 w.heap.size):=hO.below B0;have HS:Hid (s.size<=1000000000):=hs;clear I0 B0 hO hs;by_cases hz:s.size=0
 ·have he:s=⟨#[]⟩:=by
   cases s with
   | mk d=>
    have:d.size=0:=hz;rw [Array.size_eq_zero_iff.1 this]
  subst he;have e:Tr.readLong ⟨#[]⟩ members limit={ Tr.start ⟨#[]⟩ limit with needs:=true }:=by unfold Tr.readLong;rw [if_pos (show (⟨#[]⟩:ByteArray).size=0 from rfl)]
  rw [e];have HK:Hid (Kept w.heap.size w.heap.size (.slice none 0 0) (.slice none 0 0) (.slice none 0 0) { Tr.start ⟨#[]⟩ limit with needs:=true } W0 (W0.setCell ⟨w.heap.size,5,none⟩ (.bool true))):=kk4 (Kept.refl HI0.out.1);clear e hz;go_enter Tryz.func155,Tryz.ntmps155
  go_upto_region 2 with fail
  change Code.wp _ _ _ _ (w.alloc (.cells (kh8 ⟨#[]⟩ limit) 235))
  rw [← hW0];clear hW0;go_wp2_with fail
  go_ret
  exact ⟨w.heap.size,_,_,_,rfl,HK.out.inv,HI0.out.2.trans HK.out.bel⟩
 ·have hemp:s.toList.isEmpty=false:=by
   rw [ByteArray.toList_eq];cases hl:s.data.toList with
   | nil=>exact absurd (by show s.data.size=0;rw [← Array.length_toList,hl];rfl) hz
   | cons _ _=>rfl
  have H0:Hid (v99 w s members (Tr.readLong s members limit) w.heap.size W0 (Tr.start s limit) (.slice none 0 0) (.slice none 0 0) (.slice none 0 0)):=by
   have l:=x9h s limit [] HS.out;refine ⟨by unfold Tr.readLong;rw [if_neg hz],HI0.out.1,HI0.out.2,kak s limit,jqo s limit HS.out,l.2,rfl,HO0.out,?_⟩;have:=l.1.many;exact this
  clear HI0 HO0 hz;generalize Tr.readLong s members limit=fin at *;go_enter Tryz.func155,Tryz.ntmps155
  go_upto_region 2 with fail
  change Code.wp _ _ _ _ (w.alloc (.cells (kh8 s limit) 235))
  rw [← hW0];clear hW0;go_wp2_with fail
  clear c5 f5;obtain ⟨i3,hi3,hy0,hy1,hy2⟩:=info_parts ve2;have hss:=HS.out;obtain ⟨p,hp⟩:∃ p,p=w.heap.size:=⟨_,rfl⟩
  rw [← hp] at H0 ⊢;clear hp;go_loopw [27] (fun _ wr=>∃ (t1:Tr) (vo va vs:Value),Hid (v99 w s members fin p wr t1 vo va vs)) (fun _ wr=>muW p wr)
  case atStart=>exact ⟨_,_,_,_,H0⟩
  case round=>
   obtain ⟨t1,vo,va,vs,HH⟩:=hrel;clear H0;have hin:t1.inn<=s.size:=by have:=HH.out.fine.inn;rw [HH.out.s] at this;exact this
   have c2:wr.cell? ⟨p,2,none⟩=some (.int .i64 t1.inn):=HH.out.inv.row.cell (i:=2) (by omega);have f2:=HH.out.inv.row.frozen 2;have c3:wr.cell? ⟨p,3,none⟩=some vs:=HH.out.inv.row.cell (i:=3) (by omega);have f3:=HH.out.inv.row.frozen 3;cases he:t1.ended
   ·have HE:Hid (t1.ended=false):=he;clear he;by_cases hlt:t1.inn<s.size
    ·have HC:Hid (t1.ended=false∧t1.inn<t1.s.size):=⟨HE.out,by rw [HH.out.s];exact hlt⟩
     have hls:t1.starts.length<=10000000000:=by have:=HH.out.many;omega
     obtain ⟨aS,cS,hvs⟩:∃ aS cS,vs= .slice aS t1.starts.length cS:=by
      rcases HH.out.inv.sts.2 with ⟨e,h0⟩ | ⟨g,cp,_,e,_⟩
      ·exact ⟨none,0,by rw [e,h0]⟩
      ·exact ⟨_,cp,e⟩
     have c3':wr.cell? ⟨p,3,none⟩=some (.slice aS t1.starts.length cS):=by rw [c3,hvs]
     by_cases hmm:members<=t1.starts.length
     ·have HLM:Hid (True->fin=({ t1 with inn:=t1.inn+1 }:Tr).fail 6):=fun _=>by rw [← HH.out.go,Tr.long_many HC.out hmm]
      have HKI:Hid (Kept w.heap.size p vo va vs { t1 with inn:=t1.inn+1 } wr (wr.setCell ⟨p,2,none⟩ (.int .i64 ((t1.inn:Int)+1)))):=x3v (Kept.refl HH.out.inv) (t1.inn+1);clear c3 hvs;go_wp2_with (first | (go_at_call 182;refine (ywm _ HH.out.inv).mono ?_;rw [HE.out];rintro e w' ⟨rfl,rfl⟩))
      refine (j0n 6 _ HKI.out.inv).mono ?_;rintro e w3 ⟨rfl,q3⟩;have HK3:Hid (Kept w.heap.size p vo va vs (({ t1 with inn:=t1.inn+1 }:Tr).fail 6) wr w3):=HKI.out.trans q3;clear q3;go_wp2_with fail
      go_ret
      rw [HLM.out trivial];exact ⟨p,vo,va,_,rfl,HK3.out.inv,HH.out.bel.trans HK3.out.bel⟩
     ·have HLG:Hid (True->Tr.long members ({ t1 with starts:=t1.starts++[t1.inn] }:Tr).member=fin):=fun _=>by rw [← HH.out.go,Tr.long_go HH.out.fine HC.out hmm]
      have hvl:(.slice aS t1.starts.length cS:Value).ownBlock≠some p:=by rw [← hvs];exact HH.out.inv.ps
      have hown:wr.ownsRow w.heap.size 3 1 (.slice aS t1.starts.length cS) t1.starts.length (yqv t1.starts):=by rw [← hvs];exact HH.out.inv.sts
      have hpl:p<wr.heap.size:=HH.out.inv.row.lt;have hBs:=HH.out.inv.hB;subst hvs;clear c3;go_upto_region 13 with (first | (go_at_call 182;refine (ywm _ HH.out.inv).mono ?_;rw [HE.out];rintro e w' ⟨rfl,rfl⟩))
      go_region_law
       ((refine step_append_lies _ (by rfl) _ _ _ (by rfl) w.heap.size 3 i3 _ 1 8 Tryz.underlying69 hi3 hy0 hy1 hy2 rfl (by omega) (.slice aS t1.starts.length cS) t1.starts.length (yqv t1.starts) (by rfl) ((hown.alloc _).drew) ⟨wr.heap.size,0,none⟩ 1 1 [.int .i64 t1.inn] (by rfl) (by rfl) (cell_one_new wr _ _) (by simp [Value.oneCell']) (by omega) (by unfold maxLen;omega) (by omega) (by simp;omega) (wr.heap.size+1) (by simp) ?_;intro g2 p2 w2 hown2 hgrow2 hat2 hlt2;have k3:=x1k hgrow2 hpl hvl c3';have z3:=xg8 hgrow2 hpl hvl f3))
      all_goals
       have A:=HH.out.inv.addStart (b:=t1.inn) (((Below.refl _ _).alloc (Nat.le_refl _) _).drew) hgrow2 (hat2.imp id (fun e=>by omega)) rfl hown2;go_upto_region 14 with fail
       obtain ⟨W2,hW2⟩:∃ W2,W2=w2.setCell ⟨p,3,none⟩ (.slice (some ⟨g2,0,none⟩) (t1.starts.length+1) p2):=⟨_,rfl⟩
       rw [← hW2] at A ⊢;have HA:Hid (TrI w.heap.size p vo va (.slice (some ⟨g2,0,none⟩) (t1.starts.length+1) p2) { t1 with starts:=t1.starts++[t1.inn] } W2∧Below w.heap.size wr W2):=A;have FA:({ t1 with starts:=t1.starts++[t1.inn] }:Tr).Fine:=by have f:=HH.out.fine;exact ⟨f.left,f.cur,f.inn,f.frm,f.ats,f.err⟩
       have PM:=Tr.part_member FA;have HSZ:Hid (t1.s.size<=maxLen):=by show _<=_;rw [HH.out.s];unfold maxLen;omega
       have HPM:Hid (Tr.Part { t1 with starts:=t1.starts++[t1.inn] } ({ t1 with starts:=t1.starts++[t1.inn] }:Tr).member∧({ t1 with starts:=t1.starts++[t1.inn] }:Tr).member.mu<t1.mu∧({ t1 with starts:=t1.starts++[t1.inn] }:Tr).Fine):=⟨PM.1,PM.2 HE.out,FA⟩
       clear A hW2 hown2 hgrow2 hat2 hlt2 k3 z3 c2 f2 c3' f3 FA PM;go_wp2_with fail
       refine (xq7 W2 HA.out.1 HPM.out.2.2 HSZ.out HH.out.cost HH.out.bytes (HH.out.ord.below HA.out.2)).mono ?_;rintro e w4 ⟨rfl,vo4,va4,m4⟩;have HN:Hid (v99 w s members fin p w4 ({ t1 with starts:=t1.starts++[t1.inn] }:Tr).member vo4 va4 (.slice (some ⟨g2,0,none⟩) (t1.starts.length+1) p2)):=by
        have st:({ t1 with starts:=t1.starts++[t1.inn] }:Tr).member.starts.length=t1.starts.length+1:=by rw [HPM.out.1.starts];simp
        refine ⟨HLG.out trivial,m4.inv,HH.out.bel.trans (HA.out.2.trans m4.bel),HPM.out.1.fine HPM.out.2.2,Nat.le_trans HPM.out.1.cost HH.out.cost,HPM.out.1.bytes HH.out.bytes,HPM.out.1.s.trans HH.out.s,HH.out.ord.below (HA.out.2.trans m4.bel),?_⟩;have h1:=HPM.out.2.1;have h2:=HH.out.many;omega
       clear m4;go_wp2_with fail
       go_roundw
       case rel=>exact ⟨_,_,_,_,HN⟩
       case measure=>rw [HN.out.inv.muW,HH.out.inv.muW];exact HPM.out.2.1
    ·have HST:Hid (True->fin=t1):=fun _=>by rw [← HH.out.go,Tr.long_stop (by rw [HH.out.s];omega)]
     go_wp2_with (first | (go_at_call 182;refine (ywm _ HH.out.inv).mono ?_;rw [HE.out];rintro e w' ⟨rfl,rfl⟩))
     go_ret
     rw [HST.out trivial];exact ⟨p,vo,va,vs,rfl,HH.out.inv,HH.out.bel⟩
   ·have HE:Hid (t1.ended=true):=he;clear he;have HST:Hid (True->fin=t1):=fun _=>by rw [← HH.out.go,Tr.long_stop (by rw [HE.out];simp)]
    go_wp2_with (first | (go_at_call 182;refine (ywm _ HH.out.inv).mono ?_;rw [HE.out];rintro e w' ⟨rfl,rfl⟩))
    go_ret
    rw [HST.out trivial];exact ⟨p,vo,va,vs,rfl,HH.out.inv,HH.out.bel⟩
theorem k5j(fm:Nat)(s:ByteArray)(w:World)(T:Tr)(hfm:fm<=2)(HR:Hid (Calls Tryz.prog 155 #[.int .i64 fm, .int .i64 1152921504606846976, .int .i64 1152921504606846976, .string s] w fun x w'=>jmy w T x w')) :
  Calls Tryz.prog 121 #[.int .i64 fm, .string s] w fun x w'=>vht w T.mean x w':=by
 have hf0:decide ((fm:Int)<0)=false:=by simp
 have hf2:decide ((2:Int)<(fm:Int))=false:=by simp;omega
 go_enter Tryz.func121,Tryz.ntmps121
 go_wp2_with fail
 refine HR.out.mono ?_;rintro e w1 ⟨p,vo,va,vs,rfl,hI,hb⟩;have HI:Hid (TrI w.heap.size p vo va vs T w1∧Below w.heap.size w w1):=⟨hI,hb⟩
 have c4:w1.cell? ⟨p,4,none⟩=some (.int .i64 T.err):=hI.row.cell (i:=4) (by omega);have c5:w1.cell? ⟨p,5,none⟩=some (.bool T.needs):=hI.row.cell (i:=5) (by omega);obtain ⟨ad,cap,hvo,hconv⟩:=zew hI;have c0:w1.cell? ⟨p,0,none⟩=some (.slice ad T.out.length cap):=by rw [← hvo];exact hI.row.cell (i:=0) (by omega)
 clear hI hb hvo;by_cases he:T.err=0
 ·rw [he] at c4;cases hn:T.needs
  ·rw [hn] at c5;have HM:Hid (T.mean=(xu6 T.out,0)):=by show _=_;unfold Tr.mean;rw [if_neg (by omega),hn];rfl
   clear he hn;go_wp2_with fail
   go_ret2
   rw [HM.out];exact ⟨rfl,HI.out.2⟩
  ·rw [hn] at c5;have HM:Hid (T.mean=(⟨#[]⟩,15)):=by show _=_;unfold Tr.mean;rw [if_neg (by omega),hn];rfl
   clear he hn;go_wp2_with fail
   go_ret2
   rw [HM.out];exact ⟨rfl,HI.out.2⟩
 ·have HM:Hid (T.mean=(⟨#[]⟩,T.err)):=by show _=_;unfold Tr.mean;rw [if_pos he]
  have hne:((T.err:Int) !=0)=true:=by simp;omega
  go_wp2_with fail
  go_quiet (fail)
  go_wp2_with fail
  go_ret2
  rw [HM.out];exact ⟨rfl,⟨HI.out.2.os,HI.out.2.tape,HI.out.2.output,HI.out.2.size,HI.out.2.block⟩⟩
def Tr.readAll(fm:Nat)(s:ByteArray):Tr:=Tr.read fm 1152921504606846976 1152921504606846976 s
theorem zys(fm:Nat)(s:ByteArray)(w:World)(hfm:fm<=2)(hs:s.size<=1000000000)(hO:y4t w w.heap.size) :
  Calls Tryz.prog 121 #[.int .i64 fm, .string s] w fun x w'=>vht w (Tr.readAll fm s).mean x w':=by
 refine k5j fm s w (Tr.readAll fm s) hfm ?_;have h3:fm=0∨fm=1∨fm=2:=by omega
 rcases h3 with rfl | rfl | rfl
 ·exact kui s 1152921504606846976 1152921504606846976 w hs hO
 ·exact z2a s 1152921504606846976 1152921504606846976 w hs hO
 ·exact zte s 1152921504606846976 1152921504606846976 w hs hO
theorem ynr(fm:Int)(s:ByteArray)(w:World)(hfm:fm<0∨2<fm) :
  Calls Tryz.prog 121 #[.int .i64 fm, .string s] w fun x w'=>vht w (⟨#[]⟩,1) x w':=by
 rcases hfm with h | h
 ·have hd:decide (fm<0)=true:=by simp;omega
  go_enter Tryz.func121,Tryz.ntmps121
  go_wp2_with fail
  go_ret2
  exact ⟨rfl,Below.refl _ _⟩
 ·have hd:decide (fm<0)=false:=by simp;omega
  have hd2:decide (2<fm)=true:=by simp;omega
  go_enter Tryz.func121,Tryz.ntmps121
  go_wp2_with fail
  go_ret2
  exact ⟨rfl,Below.refl _ _⟩
theorem zik.nil(s:ByteArray):zik [] s:=⟨Nat.zero_le _,fun k hk=>by simp at hk⟩
theorem zik.prefix{a b:List Nat}{s:ByteArray}(h:zik (a++b) s):zik a s:=by
 have hl:=h.len;rw [List.length_append] at hl;refine ⟨by omega,fun k hk=>?_⟩;rw [h.at_ k (by rw [List.length_append];omega)];simp [List.getD_eq_getElem?_getD,List.getElem?_append_left hk]
structure z1f(a b:Cf):Prop where
 pre:∃ l,b.pre=a.pre++l
 outs:∃ l,b.outs=a.outs++l
theorem z1f.refl(a:Cf):z1f a a:=⟨⟨[],by simp⟩,⟨[],by simp⟩⟩
theorem z1f.trans{a b c:Cf}(h:z1f a b)(k:z1f b c):z1f a c:=by
 obtain ⟨⟨l,hl⟩,⟨m,hm⟩⟩:=h;obtain ⟨⟨x,hx⟩,⟨y,hy⟩⟩:=k;exact ⟨⟨l++x,by rw [hx,hl,List.append_assoc]⟩,⟨m++y,by rw [hy,hm,List.append_assoc]⟩⟩
theorem j3w.grows{q:Quo}{D:Nat}{s:ByteArray}{a b:Cf}(h:j3w q D s a b):z1f a b:=by
 cases h with
 | take=>exact ⟨⟨_,rfl⟩,⟨[],by simp⟩⟩
 | put=>exact ⟨⟨[],by simp⟩,⟨_,rfl⟩⟩
 | tau=>exact ⟨⟨[],by simp⟩,⟨[],by simp⟩⟩
theorem v44.grows{q:Quo}{D:Nat}{s:ByteArray}{a b:Cf}(h:v44 q D s a b):z1f a b:=by
 induction h with
 | refl=>exact z1f.refl _
 | step a b c h1 _ ih=>exact h1.grows.trans ih
theorem j3w.mono{q:Quo}{D D':Nat}{s s':ByteArray}{a b:Cf}(h:j3w q D s a b)(ht:zik b.pre s')(hD:D<=D'):j3w q D' s' a b:=by
 cases h with
 | take h1 h2 h3=>
  obtain ⟨_,t2,t3⟩:=ht.snoc;have:=j3w.take (q:=q) (D:=D') (s:=s') a h1 t2 h3;rw [t3] at this;exact this
 | put b σ' h1 h2 h3=>exact .put a b σ' h1 (by omega) h3
 | tau σ' h1=>exact .tau a σ' h1
theorem v44.mono{q:Quo}{D D':Nat}{s s':ByteArray}{a b:Cf}(h:v44 q D s a b)(hD:D<=D'):zik b.pre s'->v44 q D' s' a b:=by
 induction h with
 | refl=>exact fun _=> .refl _
 | step a b c h1 h2 ih=>
  intro ht;obtain ⟨⟨l,hl⟩,_⟩:=h2.grows;exact .step a b c (h1.mono (by rw [hl] at ht;exact ht.prefix) hD) (ih ht)
structure km3(c:Cf):Prop where
 act:c.pre=[]->c.σ.act= .take∧c.outs=[]∧c.σ.st<23
theorem km3.begin{fm mem lim:Nat}(h:fm<3):km3 (Cf.begin fm mem lim):=by
 refine ⟨fun _=>⟨?_,rfl,?_⟩⟩
 ·have h3:fm=0∨fm=1∨fm=2:=by omega
  rcases h3 with rfl | rfl | rfl <;> rfl
 ·show (if fm=0 then 6 else 0)<23;split <;> omega
theorem km3.step{q:Quo}{D:Nat}{s:ByteArray}{c c':Cf}(h:km3 c)(st:j3w q D s c c'):km3 c':=by
 cases st with
 | take h1 h2 h3=>exact ⟨fun h0=>by simp at h0⟩
 | put b σ' h1 h2 h3=>exact ⟨fun h0=>by have:=(h.act h0).1;rw [h1] at this;cases this⟩
 | tau σ' h1=>exact ⟨fun h0=>by have:=(h.act h0).1;rw [h1] at this;cases this⟩
structure zi6(fm mem lim:Nat)(c:Cf):Prop where
 gi:GI fm mem lim c
 bg:ypc c
 fs:km3 c
theorem zi6.begin{fm mem lim:Nat}(h:fm<3)(hm:1<=mem):zi6 fm mem lim (Cf.begin fm mem lim):=⟨GI.begin h hm,ypc.begin _ _ _,km3.begin h⟩
theorem zi6.step{fm mem lim:Nat}{q:Quo}{D:Nat}{s:ByteArray}{c c':Cf}(h:zi6 fm mem lim c)(st:j3w q D s c c')(ht:zik c.pre s):zi6 fm mem lim c'∧zik c'.pre s:=⟨⟨(h.gi.step st ht).1,h.bg.step h.gi st,h.fs.step st⟩,(h.gi.step st ht).2⟩
theorem zi6.steps{fm mem lim:Nat}{q:Quo}{D:Nat}{s:ByteArray}{c c':Cf}(st:v44 q D s c c'):zi6 fm mem lim c->zik c.pre s->zi6 fm mem lim c'∧zik c'.pre s:=by
 induction st with
 | refl=>exact fun h ht=>⟨h,ht⟩
 | step a b c h1 _ ih=>exact fun h ht=>ih (h.step h1 ht).1 (h.step h1 ht).2
def wi(n lo hi:Int):Bool:=decide (lo<=n∧n<=hi)
structure Cfg where
 fm:Int
 out:Int
 ratio:Int
 slack:Int
 mem:Int
 lim:Int
 steps:Int
def Cfg.val(c:Cfg):Value:= .agg #[.int .i64 c.fm, .int .i64 c.out, .int .i64 c.ratio, .int .i64 c.slack, .int .i64 c.mem, .int .i64 c.lim, .int .i64 c.steps]
theorem xaq{n lo hi:Int}:wi n lo hi=true↔lo<=n∧n<=hi:=by simp [wi]
theorem ykv(n:Int)(w:World):Calls Tryz.prog 48 #[.int .i64 n] w fun e w'=>e= .returned (.bool (wi n 0 2))∧w=w':=by
 have HR:Hid ((n==0 || n==1 || n==2)=wi n 0 2):=by
  show _=_;unfold wi;rw [Bool.eq_iff_iff];simp;omega
 by_cases h0:n=0
 ·subst h0;go_enter Tryz.func48,Tryz.ntmps48
  go_wp2_with fail
  go_ret
  exact ⟨rfl,rfl⟩
 ·by_cases h1:n=1
  ·subst h1;go_enter Tryz.func48,Tryz.ntmps48
   go_wp2_with fail
   go_ret
   exact ⟨rfl,rfl⟩
  ·by_cases h2:n=2
   ·subst h2;go_enter Tryz.func48,Tryz.ntmps48
    go_wp2_with fail
    go_ret
    exact ⟨rfl,rfl⟩
   ·skip
    go_enter Tryz.func48,Tryz.ntmps48
    go_wp2_with fail
    go_ret
    exact ⟨by rw [← HR.out];rfl,rfl⟩
end Go.Proofs.YtbcjmakpempkiaaGreatDoor
