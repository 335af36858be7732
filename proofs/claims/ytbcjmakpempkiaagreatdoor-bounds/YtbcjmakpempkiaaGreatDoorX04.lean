import Derived.Laws.BitsAllLaws
import Derived.Test.YtbcjmakpempkiaaGreatDoorX03
set_option maxRecDepth 100000
set_option maxHeartbeats 8000000
set_option linter.all false
namespace Go.Proofs.YtbcjmakpempkiaaGreatDoor
open Go.RowKit
theorem MS.need_tk{k:Nat}:∀ (l:List Nat) {x:MS},x.rest=l->(MS.need k x).1.rest.length+(MS.need k x).1.tk=x.rest.length+x.tk
 | [],x,e=>by
  by_cases h:k<=x.count
  ·rw [MS.need_done h]
  ·rw [MS.need_nil h e]
 | b :: l,x,e=>by
  by_cases h:k<=x.count
  ·rw [MS.need_done h]
  ·rw [MS.need_cons h e];by_cases hs:x.sp<=x.tk+x.pu
   ·rw [if_pos hs];rfl
   ·rw [if_neg hs,MS.need_tk (k:=k) l (x:=x.fed b l) rfl,e];show l.length+(x.tk+1)=(b :: l).length+x.tk;simp;omega
theorem MS.takeHead_tk(x:MS):x.takeHead.1.rest.length+x.takeHead.1.tk=x.rest.length+x.tk:=by
 have:=MS.need_tk (k:=8) x.rest (x:=x) rfl;unfold MS.takeHead;split
 ·exact this
 ·split
  ·exact this
  ·exact this
theorem ym5(m i:Nat)(hm:m<256)(hi:i<8):bits .and .u8 (m:Int) ((2^i:Nat):Int)=((m / 2^i%2*2^i:Nat):Int):=by
 have h1:m<2^8:=hm;have h2:2^i<2^8:=Nat.pow_lt_pow_right (by decide) hi;rw [(bits_nat .u8 8 (by decide) wraps_u8 m (2^i) h1 h2).1,nat_bit]
theorem x3t(m i:Nat)(hm:m<256)(hi:i<8):(bits .and .u8 (m:Int) ((2^i:Nat):Int)==0)=decide (m / 2^i%2=0):=by
 rw [ym5 m i hm hi];have hp:=Nat.two_pow_pos i;by_cases h:m / 2^i%2=0
 ·rw [h,decide_eq_true rfl];simp
 ·have h1:m / 2^i%2=1:=by omega
  rw [h1];simp;have hpi:(0:Int)<2^i:=Int.pow_pos (by decide);omega
theorem MM.cell9{ρ:Nat->Nat}{w:World}{p:Nat}{x:MS}(h:MM ρ w p x):w.cell? ⟨p,9,none⟩=some (.int .i64 x.tk):=by
 obtain ⟨L,B,T⟩:=h;exact B.row.cell (i:=9) (by omega)
theorem zvv{ρ:Nat->Nat}{w:World}{p:Nat}{x:MS}(i:Nat)(h:MM ρ w p x)(ok:Ok x)(hx:x.count<=8∨x.marks=0)(hi:i<8) :
  Calls Tryz.prog 131 #[.pointer (some ⟨p,0,none⟩), .int .u8 (2^i:Nat)] w fun v w'=>y0y ρ w p (MS.passText (2^i) x) v w':=by
 have HM:Hid (MM ρ w p x∧Ok x):=⟨h,ok⟩
 have c18:w.cell? ⟨p,18,none⟩=some (.int .u8 x.marks):=by obtain ⟨L,B,T⟩:=h;exact B.row.cell (i:=18) (by omega)
 have HE:Hid (MS.passText (2^i) x=if x.marks / 2^i%2=0 then (x,0) else MS.textL (x.more+1) x):=rfl;have hz:=x3t x.marks i ok.marks hi;clear h ok;obtain ⟨m,hm⟩:∃ m,m=2^i:=⟨_,rfl⟩
 rw [← hm] at HE hz ⊢;clear hm;go_enter Tryz.func131,Tryz.ntmps131
 by_cases h0:x.marks / m%2=0
 ·rw [if_pos h0] at HE;rw [decide_eq_true h0] at hz;clear h0 hx;go_wp2_with fail
  go_ret
  unfold y0y;rw [HE.out];exact ⟨rfl,HM.out.1,Fr.refl _ _ _⟩
 ·rw [if_neg h0] at HE;rw [decide_eq_false h0] at hz;have hx8:x.count<=8:=by
   rcases hx with hx | hx
   ·exact hx
   ·rw [hx] at h0;simp at h0
  have H0:Hid (∃ y f,MM ρ w p y∧Ok y∧y.count<=8∧MS.textL f y=MS.textL (x.more+1) x∧y.more<f∧y.rest.length+y.tk=x.rest.length+x.tk∧Fr (fun k=>1<=k∧k<=5) ρ w w):=⟨x,x.more+1,HM.out.1,HM.out.2,hx8,rfl,by omega,rfl,Fr.refl _ _ _⟩
  clear h0 hx HM;obtain ⟨C,hC⟩:∃ C,C=x.rest.length+x.tk:=⟨_,rfl⟩
  rw [← hC] at H0;clear hC;go_wp2_with fail
  go_loopw [] (fun wr=>Hid (∃ y f,MM ρ wr p y∧Ok y∧y.count<=8∧MS.textL f y=MS.textL (x.more+1) x∧y.more<f∧y.rest.length+y.tk=C∧Fr (fun k=>1<=k∧k<=5) ρ w wr)) (fun wr=>C - xq0 wr p 9+xq0 wr p 15 / 8)
  case atStart=>exact H0
  case round=>
   clear H0 c18;obtain ⟨y,f,g1,g2,g3,g4,g5,g6,g7⟩:=hrel.out;have e9:=xv1 g1.cell9;have e15:=xv1 g1.cell15;obtain ⟨f,rfl⟩:∃ n,f=n+1:=⟨f - 1,by omega⟩
   have HL:Hid (MS.textL (x.more+1) x=if y.takeHead.2.1≠0∨y.takeHead.2.2=0 then (y.takeHead.1,y.takeHead.2.1) else MS.textL f y.takeHead.1):=g4.symm;have HY:Hid (MM ρ wr p y∧Ok y∧Fr (fun k=>1<=k∧k<=5) ρ w wr):=⟨g1,g2,g7⟩
   clear g1 g2 g4 g7 hrel;go_wp2_with fail
   refine (kvg HY.out.1 HY.out.2.1 g3).mono ?_;rintro v w1 ⟨rfl,a1,a2⟩;obtain ⟨o1,k1⟩:=MS.takeHead_facts HY.out.2.1 g3;have k2:=MS.takeHead_tk y;obtain ⟨z,t,b,hr⟩:∃ z t b,y.takeHead=(z,t,b):=⟨_,_,_,rfl⟩
   rw [hr] at a1 HL k1 k2 o1 ⊢;have HR:Hid (MM ρ w1 p z∧Ok z∧Fr (fun k=>1<=k∧k<=5) ρ w w1):=⟨a1,o1,HY.out.2.2.trans a2⟩
   have n9:=xv1 a1.cell9;have n15:=xv1 a1.cell15;clear a1 a2 o1 hr;by_cases h0:t=0
   ·obtain ⟨q1,q2,q3,_⟩:=k1 h0;subst h0;by_cases hb:b=0
    ·have hd:((b:Int)==0)=true:=by simp [hb]
     rw [if_pos (Or.inr hb)] at HL;clear hb;go_wp2_with fail
     go_ret
     unfold y0y;rw [HE.out,HL.out];exact ⟨rfl,HR.out.1,HR.out.2.2⟩
    ·have hd:((b:Int)==0)=false:=by simp;exact hb
     rw [if_neg (by simp [hb])] at HL;have HN:Hid (∃ y f,MM ρ w1 p y∧Ok y∧y.count<=8∧MS.textL f y=MS.textL (x.more+1) x∧y.more<f∧y.rest.length+y.tk=C∧Fr (fun k=>1<=k∧k<=5) ρ w w1):=⟨z,f,HR.out.1,HR.out.2.1,by show z.count<=8;have:z.count<8:=q1;omega,HL.out.symm,by have:z.more<y.more:=q3;omega,k2.trans g6,HR.out.2.2⟩
     clear hb;go_wp2_with fail
     go_roundw
     case rel=>exact HN
     case measure=>
      rw [e9,e15,n9,n15];have q4:z.rest.length+z.count / 8<y.rest.length+y.count / 8:=q3;have q5:z.rest.length+z.tk=y.rest.length+y.tk:=k2;show C - z.tk+z.count / 8<C - y.tk+y.count / 8;omega
   ·have hd:((t:Int)==0)=false:=by simp;exact h0
    rw [if_pos (Or.inl h0)] at HL;clear k1;go_wp2_with fail
    go_ret
    unfold y0y;rw [HE.out,HL.out];exact ⟨rfl,HR.out.1,HR.out.2.2⟩
theorem xj1{ρ:Nat->Nat}{w:World}{p:Nat}{x:MS}(h:MM ρ w p x)(ok:Ok x)(hx:x.count<=8∨x.marks=0) :
  Calls Tryz.prog 132 #[.pointer (some ⟨p,0,none⟩)] w fun v w'=>y0y ρ w p x.passCheck v w':=by
 have HM:Hid (MM ρ w p x∧Ok x):=⟨h,ok⟩
 have c18:w.cell? ⟨p,18,none⟩=some (.int .u8 x.marks):=by obtain ⟨L,B,T⟩:=h;exact B.row.cell (i:=18) (by omega)
 have c20:w.cell? ⟨p,20,none⟩=some (.int .u8 x.hsum):=by obtain ⟨L,B,T⟩:=h;exact B.row.cell (i:=20) (by omega)
 have HE:Hid (x.passCheck=if x.marks / 4%2=0 then (x,0) else MS.passByte x.hsum x):=rfl;have hz:(bits .and .u8 (x.marks:Int) 4==0)=decide (x.marks / 4%2=0):=x3t x.marks 2 ok.marks (by decide);have hs:=ok.hsum;clear h ok;go_enter Tryz.func132,Tryz.ntmps132
 by_cases h0:x.marks / 4%2=0
 ·rw [if_pos h0] at HE;rw [decide_eq_true h0] at hz;clear h0 hx;go_wp2_with fail
  go_ret
  unfold y0y;rw [HE.out];exact ⟨rfl,HM.out.1,Fr.refl _ _ _⟩
 ·rw [if_neg h0] at HE;rw [decide_eq_false h0] at hz;have hx8:x.count<=8:=by
   rcases hx with hx | hx
   ·exact hx
   ·rw [hx] at h0;simp at h0
  clear h0 hx;go_wp2_with fail
  refine (jn3 x.hsum HM.out.1 HM.out.2 hx8 hs).mono ?_;rintro v w1 ⟨rfl,g1,g2⟩;have HR:Hid (MM ρ w1 p (MS.passByte x.hsum x).1∧Fr (fun k=>1<=k∧k<=5) ρ w w1):=⟨g1,g2⟩
  clear g1 g2;go_wp2_with fail
  go_ret
  unfold y0y;rw [HE.out];exact ⟨rfl,HR.out⟩
theorem zgi(fm:Nat)(w:World) :
  Calls Tryz.prog 127 #[.int .i64 fm] w fun v w'=>v= .returned (.tuple #[.int .u8 (MS.first fm), .int .u8 (MS.second fm)])∧w=w':=by
 by_cases h:fm=1
 ·have hd:((fm:Int)==1)=true:=by simp;omega
  have HF:Hid (MS.first fm=115∧MS.second fm=1):=by unfold MS.first MS.second;exact ⟨if_pos h,if_pos h⟩
  clear h;go_enter Tryz.func127,Tryz.ntmps127
  go_wp2_with fail
  go_ret2
  rw [HF.out.1,HF.out.2];exact ⟨rfl,rfl⟩
 ·have hd:((fm:Int)==1)=false:=by simp;omega
  have HF:Hid (MS.first fm=76∧MS.second fm=2):=by unfold MS.first MS.second;exact ⟨if_neg h,if_neg h⟩
  clear h;go_enter Tryz.func127,Tryz.ntmps127
  go_wp2_with fail
  go_ret2
  rw [HF.out.1,HF.out.2];exact ⟨rfl,rfl⟩
theorem MB.member{ρ:Nat->Nat}{w:World}{p:Nat}{y:MS}{L:Lo}(h:MB ρ w p y L):MB ρ ((((((w.setCell ⟨p,18,none⟩ (.int .u8 0)).setCell ⟨p,19,none⟩ (.int .i64 0)).setCell ⟨p,20,none⟩ (.int .u8 0)).setCell ⟨p,21,none⟩ (.int .i64 1)).setCell ⟨p,22,none⟩ (.int .i64 0)).setCell ⟨p,23,none⟩ (.int .u16 0)) p { y with marks:=0,head:=0,hsum:=0,sx:=1,sy:=0,size:=0 } L:=
 (((((h.set (y:={ y with marks:=0 }) (M:=L) 18 _ rfl ⟨rfl,rfl,rfl,rfl⟩ ⟨rfl,rfl⟩).set (y:={ y with marks:=0,head:=0 }) (M:=L) 19 _ rfl ⟨rfl,rfl,rfl,rfl⟩ ⟨rfl,rfl⟩).set (y:={ y with marks:=0,head:=0,hsum:=0 }) (M:=L) 20 _ rfl ⟨rfl,rfl,rfl,rfl⟩ ⟨rfl,rfl⟩).set (y:={ y with marks:=0,head:=0,hsum:=0,sx:=1 }) (M:=L) 21 _ rfl ⟨rfl,rfl,rfl,rfl⟩ ⟨rfl,rfl⟩).set (y:={ y with marks:=0,head:=0,hsum:=0,sx:=1,sy:=0 }) (M:=L) 22 _ rfl ⟨rfl,rfl,rfl,rfl⟩ ⟨rfl,rfl⟩).set 23 _ rfl ⟨rfl,rfl,rfl,rfl⟩ ⟨rfl,rfl⟩
theorem Fr.member{ρ:Nat->Nat}{w:World}{p:Nat}(h:ρ p=1)(a b c d e f:Value):Fr (fun k=>1<=k∧k<=5) ρ w ((((((w.setCell ⟨p,18,none⟩ a).setCell ⟨p,19,none⟩ b).setCell ⟨p,20,none⟩ c).setCell ⟨p,21,none⟩ d).setCell ⟨p,22,none⟩ e).setCell ⟨p,23,none⟩ f):=
 (((((Fr.own _ p 18 _ h).trans (Fr.own _ p 19 _ h)).trans (Fr.own _ p 20 _ h)).trans (Fr.own _ p 21 _ h)).trans (Fr.own _ p 22 _ h)).trans (Fr.own _ p 23 _ h)
theorem vq9{ρ:Nat->Nat}{w:World}{p:Nat}{x:MS}(h:MM ρ w p x)(ok:Ok x)(hx:x.count<=8) :
  Calls Tryz.prog 128 #[.pointer (some ⟨p,0,none⟩)] w fun v w'=>y0y ρ w p x.beginMember v w':=by
 have HM:Hid (MM ρ w p x∧Ok x):=⟨h,ok⟩
 have HE:Hid (x.beginMember=if (MS.need 8 x).2=0 then (if (MS.need 8 x).1.mb=(MS.need 8 x).1.me then (MS.need 8 x).1.refuse 6 else ({ (MS.need 8 x).1 with mb:=(MS.need 8 x).1.mb+1,marks:=0,head:=0,hsum:=0,sx:=1,sy:=0,size:=0,qc:=[] },0)) else MS.need 8 x):=rfl;clear h ok;go_enter Tryz.func128,Tryz.ntmps128
 go_wp2_with fail
 refine (zvo 8 HM.out.1 HM.out.2 (by omega) (by omega)).mono ?_;rintro v w1 ⟨rfl,g1,g2⟩;by_cases h0:(MS.need 8 x).2=0
 ·have k3:=MS.need_ok (k:=8) HM.out.2;rw [h0];rw [if_pos h0] at HE;obtain ⟨y,hy⟩:∃ y,y=(MS.need 8 x).1:=⟨_,rfl⟩
  rw [← hy] at g1 HE k3;have HY:Hid (MM ρ w1 p y∧Ok y∧Fr (fun k=>1<=k∧k<=5) ρ w w1):=⟨g1,k3,g2⟩
  have hmb:=k3.mbs;obtain ⟨L,B,T⟩:=g1;have c11:w1.cell? ⟨p,11,none⟩=some (.int .i64 y.mb):=B.row.cell (i:=11) (by omega);have c4:w1.cell? ⟨p,4,none⟩=some (.int .i64 y.me):=B.row.cell (i:=4) (by omega);have z11:=B.row.frozen 11;have HB:Hid (Bh ρ w p y y L w1):=⟨B,T,g2⟩
  clear B T g2 hy k3 h0;by_cases hq:y.mb=y.me
  ·rw [if_pos hq] at HE;have hqd:((y.mb:Int)==(y.me:Int))=true:=by simp [hq]
   clear hq;go_wp2_with fail
   go_quiet (fail)
   go_wp2_with fail
   refine (kv8 6 (HY.out.1.drewN _)).mono ?_;rintro v w2 ⟨rfl,g3,g4⟩;have HR:Hid (MM ρ w2 p (y.refuse 6).1∧Fr (fun k=>1<=k∧k<=5) ρ w w2):=⟨g3,(HY.out.2.2.drewN _).trans g4⟩
   clear g3 g4;go_wp2_with fail
   go_ret
   unfold y0y;rw [HE.out];exact ⟨rfl,HR.out⟩
  ·rw [if_neg hq] at HE;have hqd:((y.mb:Int)==(y.me:Int))=false:=by simp;omega
   have hm1:y.mb+1<=9223372036854775807:=by omega
   clear hq;go_wp2_with fail
   go_quiet (fail)
   go_wp2_with fail
   have HB2:Hid (Bh ρ w p { y with mb:=y.mb+1 } y L ((w1.drewN nq).setCell ⟨p,11,none⟩ (.int .i64 (y.mb+1:Nat)))):=(HB.out.drewN nq).set 11 _ rfl ⟨rfl,rfl⟩;have e1:((y.mb+1:Nat):Int)=(y.mb:Int)+1:=by omega
   rw [e1] at HB2;refine (kmk _).mono ?_;rintro v w3 ⟨rfl,b3⟩;have HB3:Hid (Bh ρ w p { y with mb:=y.mb+1 } y L w3):=HB2.out.below b3;clear b3 HB2;have d18:w3.cell? ⟨p,18,none⟩=some (.int .u8 y.marks):=HB3.out.mb.row.cell (i:=18) (by omega);have d19:w3.cell? ⟨p,19,none⟩=some (.int .i64 y.head):=HB3.out.mb.row.cell (i:=19) (by omega);have d20:w3.cell? ⟨p,20,none⟩=some (.int .u8 y.hsum):=HB3.out.mb.row.cell (i:=20) (by omega);have d21:w3.cell? ⟨p,21,none⟩=some (.int .i64 y.sx):=HB3.out.mb.row.cell (i:=21) (by omega);have d22:w3.cell? ⟨p,22,none⟩=some (.int .i64 y.sy):=HB3.out.mb.row.cell (i:=22) (by omega);have d23:w3.cell? ⟨p,23,none⟩=some (.int .u16 y.size):=HB3.out.mb.row.cell (i:=23) (by omega);have d17:w3.cell? ⟨p,17,none⟩=some (.pointer (some ⟨L.c,0,none⟩)):=HB3.out.mb.row.cell (i:=17) (by omega);have z18:=HB3.out.mb.row.frozen 18;have z19:=HB3.out.mb.row.frozen 19;have z20:=HB3.out.mb.row.frozen 20;have z21:=HB3.out.mb.row.frozen 21;have z22:=HB3.out.mb.row.frozen 22;have z23:=HB3.out.mb.row.frozen 23;have HB4:Hid (Bh ρ w p { y with mb:=y.mb+1,marks:=0,head:=0,hsum:=0,sx:=1,sy:=0,size:=0 } y L ((((((w3.setCell ⟨p,18,none⟩ (.int .u8 0)).setCell ⟨p,19,none⟩ (.int .i64 0)).setCell ⟨p,20,none⟩ (.int .u8 0)).setCell ⟨p,21,none⟩ (.int .i64 1)).setCell ⟨p,22,none⟩ (.int .i64 0)).setCell ⟨p,23,none⟩ (.int .u16 0))):=HB3.out.next HB3.out.mb.member (Fr.member HB3.out.mb.rp _ _ _ _ _ _);go_wp2_with fail
   obtain ⟨o,f,k⟩:=HB4.out.mb.rc;refine (ve5 k).mono ?_;rintro v w5 ⟨rfl,r5,t5⟩;have HB5:Hid (Bh ρ w p { y with mb:=y.mb+1,marks:=0,head:=0,hsum:=0,sx:=1,sy:=0,size:=0,qc:=[] } y L w5):=HB4.out.next (HB4.out.mb.ringC r5 t5) (Fr.five t5 HB4.out.mb.rl.2.2.1 HB4.out.mb.rl.2.2.2 (by decide) (by decide));clear r5 t5 k;go_wp2_with fail
   go_ret
   unfold y0y;rw [HE.out];exact ⟨rfl,HB5.out.done rfl rfl rfl rfl ⟨rfl,rfl⟩⟩
 ·rw [if_neg h0] at HE;obtain ⟨t,ht⟩:∃ t,t=(MS.need 8 x).2:=⟨_,rfl⟩
  have HR:Hid (MM ρ w1 p (MS.need 8 x).1∧Fr (fun k=>1<=k∧k<=5) ρ w w1∧(MS.need 8 x).2=t):=⟨g1,g2,ht.symm⟩
  rw [← ht] at h0 ⊢;have h0':((t:Int)==0)=false:=by simp;exact h0
  clear g1 g2 ht;go_wp2_with fail
  go_ret
  unfold y0y;rw [HE.out,HR.out.2.2];exact ⟨rfl,HR.out.1,HR.out.2.1⟩
structure Hc(x:MS):Prop where
 ok:Ok x
 cnt:x.count=0∨x.count=8
theorem Hc.le{x:MS}(h:Hc x):x.count<=8:=by rcases h.cnt with h | h <;> omega
theorem Hc.need{x:MS}(h:Hc x)(h0:(MS.need 8 x).2=0):Hc (MS.need 8 x).1∧(MS.need 8 x).1.count=8:=by
 have k1:=MS.need_cnt h.ok h0;have k2:=MS.need_bits h.ok h0;have:=h.cnt;have e:(MS.need 8 x).1.count=8:=by omega
 exact ⟨⟨MS.need_ok h.ok,Or.inr e⟩,e⟩
theorem Hc.takeHead{x:MS}(h:Hc x)(h0:x.takeHead.2.1=0):Hc x.takeHead.1∧x.takeHead.1.fm=x.fm∧x.takeHead.1.count=0:=by
 obtain ⟨o,k⟩:=MS.takeHead_facts h.ok h.le;obtain ⟨_,_,_,k4⟩:=k h0;have hf:x.takeHead.1.fm=x.fm:=by rw [k4]
 have hn:(MS.need 8 x).2=0:=by
  apply Classical.byContradiction;intro hn;unfold MS.takeHead at h0;rw [if_pos hn] at h0;exact hn h0
 have hc:x.takeHead.1.count=0:=by
  have e:=(h.need hn).2;unfold MS.takeHead at h0 ⊢;rw [if_neg (by rw [hn];simp)] at h0 ⊢;by_cases hq:(MS.need 8 x).1.head=(MS.need 8 x).1.he
  ·rw [if_pos hq] at h0;cases h0
  ·rw [if_neg hq];show (MS.need 8 x).1.count - 8=0;omega
 exact ⟨⟨o,Or.inl hc⟩,hf,hc⟩
theorem Hc.passByte{x:MS}(h:Hc x){want:Nat}(h0:(MS.passByte want x).2=0):Hc (MS.passByte want x).1∧(MS.passByte want x).1.fm=x.fm:=by
 have e:MS.passByte want x=if x.takeHead.2.1=0 then (if x.takeHead.2.2=want then (x.takeHead.1,0) else x.takeHead.1.refuse 4) else (x.takeHead.1,x.takeHead.2.1):=rfl;rw [e] at h0 ⊢;by_cases ht:x.takeHead.2.1=0
 ·rw [if_pos ht] at h0 ⊢;by_cases hw:x.takeHead.2.2=want
  ·rw [if_pos hw];exact ⟨(h.takeHead ht).1,(h.takeHead ht).2.1⟩
  ·rw [if_neg hw] at h0;cases h0
 ·rw [if_neg ht] at h0;exact absurd h0 ht
theorem Hc.passFixed{x:MS}(h:Hc x){want:Nat}(h0:(MS.passFixed want x).2=0):Hc (MS.passFixed want x).1∧(MS.passFixed want x).1.fm=x.fm:=by
 unfold MS.passFixed at *;by_cases hf:x.fm=0
 ·rw [if_pos hf];exact ⟨h,rfl⟩
 ·rw [if_neg hf] at h0 ⊢;exact h.passByte h0
theorem Hc.passMarks{x:MS}(h:Hc x)(h0:x.passMarks.2=0):Hc x.passMarks.1∧x.passMarks.1.fm=x.fm:=by
 have e:x.passMarks=if x.fm=2 then (if x.takeHead.2.1=0 then (if 7<x.takeHead.2.2 then x.takeHead.1.refuse 4 else ({ x.takeHead.1 with marks:=x.takeHead.2.2 },0)) else (x.takeHead.1,x.takeHead.2.1)) else (x,0):=rfl;rw [e] at h0 ⊢;by_cases hf:x.fm=2
 ·rw [if_pos hf] at h0 ⊢;by_cases ht:x.takeHead.2.1=0
  ·rw [if_pos ht] at h0 ⊢;by_cases hw:7<x.takeHead.2.2
   ·rw [if_pos hw] at h0;cases h0
   ·rw [if_neg hw];exact ⟨⟨{ (h.takeHead ht).1.ok with marks:=by show x.takeHead.2.2<256;omega },(h.takeHead ht).1.cnt⟩,(h.takeHead ht).2.1⟩
  ·rw [if_neg ht] at h0;exact absurd h0 ht
 ·rw [if_neg hf];exact ⟨h,rfl⟩
theorem Hc.textL:∀ (f:Nat) {x:MS},Hc x->(MS.textL f x).2=0->Hc (MS.textL f x).1∧(MS.textL f x).1.fm=x.fm
 | 0,x,h,h0=>by cases h0
 | f+1,x,h,h0=>by
  unfold MS.textL at h0 ⊢;by_cases hq:x.takeHead.2.1≠0∨x.takeHead.2.2=0
  ·rw [if_pos hq] at h0 ⊢;exact ⟨(h.takeHead h0).1,(h.takeHead h0).2.1⟩
  ·rw [if_neg hq] at h0 ⊢;have ht:x.takeHead.2.1=0:=Classical.byContradiction fun hn=>hq (Or.inl hn)
   obtain ⟨a,b⟩:=Hc.textL f (h.takeHead ht).1 h0;exact ⟨a,b.trans (h.takeHead ht).2.1⟩
theorem Hc.passText{x:MS}(h:Hc x){m:Nat}(h0:(MS.passText m x).2=0):Hc (MS.passText m x).1∧(MS.passText m x).1.fm=x.fm:=by
 unfold MS.passText at *;by_cases hq:x.marks / m%2=0
 ·rw [if_pos hq];exact ⟨h,rfl⟩
 ·rw [if_neg hq] at h0 ⊢;exact Hc.textL _ h h0
theorem Hc.passCheck{x:MS}(h:Hc x)(h0:x.passCheck.2=0):Hc x.passCheck.1∧x.passCheck.1.fm=x.fm:=by
 unfold MS.passCheck at *;by_cases hq:x.marks / 4%2=0
 ·rw [if_pos hq];exact ⟨h,rfl⟩
 ·rw [if_neg hq] at h0 ⊢;exact h.passByte h0
theorem Hc.beginMember{x:MS}(h:Hc x)(h0:x.beginMember.2=0):Hc x.beginMember.1∧x.beginMember.1.fm=x.fm:=by
 have e:x.beginMember=if (MS.need 8 x).2=0 then (if (MS.need 8 x).1.mb=(MS.need 8 x).1.me then (MS.need 8 x).1.refuse 6 else ({ (MS.need 8 x).1 with mb:=(MS.need 8 x).1.mb+1,marks:=0,head:=0,hsum:=0,sx:=1,sy:=0,size:=0,qc:=[] },0)) else MS.need 8 x:=rfl;rw [e] at h0 ⊢;by_cases hn:(MS.need 8 x).2=0
 ·rw [if_pos hn] at h0 ⊢;by_cases hq:(MS.need 8 x).1.mb=(MS.need 8 x).1.me
  ·rw [if_pos hq] at h0;cases h0
  ·rw [if_neg hq];have k:=(h.need hn).1;have hf:(MS.need 8 x).1.fm=x.fm:=by rw [MS.need_same h.ok hn]
   exact ⟨⟨{ k.ok with mbs:=⟨by have:=k.ok.mbs.1;show (MS.need 8 x).1.mb+1<=(MS.need 8 x).1.me;omega,k.ok.mbs.2⟩,hd:=⟨Nat.zero_le _,k.ok.hd.2⟩,hsum:=by show 0<256;omega,size:=by show 0<65536;omega,marks:=by show 0<256;omega,sum:=⟨by show 1<=65520;omega,Nat.zero_le _⟩ },k.cnt⟩,hf⟩
 ·rw [if_neg hn] at h0;exact absurd h0 hn
theorem Ok.st{x:MS}(h:Ok x)(n:Nat):Ok { x with st:=n }:={ h with }
theorem MM.st{ρ:Nat->Nat}{w:World}{p:Nat}{x:MS}(h:MM ρ w p x)(n:Nat):MM ρ (w.setCell ⟨p,7,none⟩ (.int .i64 n)) p { x with st:=n }∧Fr (fun k=>1<=k∧k<=5) ρ w (w.setCell ⟨p,7,none⟩ (.int .i64 n)):=by
 obtain ⟨L,B,T⟩:=h;exact (((show Bh ρ w p x x L w from ⟨B,T,Fr.refl _ _ _⟩).set (z:={ x with st:=n }) 7 _ rfl ⟨rfl,rfl⟩).done rfl rfl rfl rfl ⟨rfl,rfl⟩)
theorem MM.cell7{ρ:Nat->Nat}{w:World}{p:Nat}{x:MS}(h:MM ρ w p x):w.cell? ⟨p,7,none⟩=some (.int .i64 x.st)∧w.frozen? ⟨p,7,none⟩=false:=by
 obtain ⟨L,B,T⟩:=h;exact ⟨B.row.cell (i:=7) (by omega),B.row.frozen 7⟩
theorem MM.cell0{ρ:Nat->Nat}{w:World}{p:Nat}{x:MS}(h:MM ρ w p x):w.cell? ⟨p,0,none⟩=some (.int .i64 x.fm):=by
 obtain ⟨L,B,T⟩:=h;exact B.row.cell (i:=0) (by omega)
structure Hw(ρ:Nat->Nat)(w:World)(p:Nat)(x y:MS)(w':World):Prop where
 mm:MM ρ w' p y
 hc:Hc y
 fm:y.fm=x.fm
 fr:Fr (fun k=>1<=k∧k<=5) ρ w w'
theorem Hw.next{ρ:Nat->Nat}{w w1 w2:World}{p:Nat}{x y:MS}{r:MS×Nat}(h:Hw ρ w p x y w1)(m:MM ρ w2 p r.1)(f:Fr (fun k=>1<=k∧k<=5) ρ w1 w2)(k:Hc r.1∧r.1.fm=y.fm)(n:Nat):Hw ρ w p x { r.1 with st:=n } (w2.setCell ⟨p,7,none⟩ (.int .i64 n)):=⟨(m.st n).1,⟨k.1.ok.st n,k.1.cnt⟩,k.2.trans h.fm,(h.fr.trans f).trans (m.st n).2⟩
theorem zvt(fm:Nat):MS.first fm<256:=by unfold MS.first;split <;> omega
theorem kph(fm:Nat):MS.second fm<256:=by unfold MS.second;split <;> omega
theorem vkj{ρ:Nat->Nat}{w:World}{p:Nat}{x:MS}(h:MM ρ w p x)(hc:Hc x)(hst:x.st=6) :
  Calls Tryz.prog 100 #[.pointer (some ⟨p,0,none⟩)] w fun v w'=>y0y ρ w p (MS.h6 x) v w':=by
 have H6:Hid (Hw ρ w p x x w):=⟨h,hc,rfl,Fr.refl _ _ _⟩
 have c0:=h.cell0;have c7:=h.cell7.1;rw [hst] at c7;clear h hc hst;go_enter Tryz.func100,Tryz.ntmps100
 go_wp2_with fail
 refine (zgi x.fm w).mono ?_;rintro v w' ⟨rfl,rfl⟩;obtain ⟨b1,hb1⟩:∃ b,b=MS.first x.fm:=⟨_,rfl⟩
 obtain ⟨b2,hb2⟩:∃ b,b=MS.second x.fm:=⟨_,rfl⟩
 rw [← hb1,← hb2];have HB1:Hid (b1=MS.first x.fm):=hb1;have HB2:Hid (b2=MS.second x.fm):=hb2;clear hb1 hb2;go_wp2_with fail
 refine (xj1 H6.out.mm H6.out.hc.ok (Or.inl H6.out.hc.le)).mono ?_;rintro v w7 ⟨rfl,g1,g2⟩;have R6':Hid (MS.h6 x=if (x.passCheck).2=0 then ({ (x.passCheck).1 with st:=7 },0) else x.passCheck):=by
  show MS.h6 x=_;rfl
 by_cases h6:(x.passCheck).2=0
 ·rw [if_pos h6] at R6';have H7:Hid (Hw ρ w p x { (x.passCheck).1 with st:=7 } (w7.setCell ⟨p,7,none⟩ (.int .i64 (7:Nat)))):=H6.out.next g1 g2 (H6.out.hc.passCheck h6) 7;have k7:=g1.cell7;have k70:=k7.1;have k71:=k7.2;rw [h6];clear g1 g2 k7;go_wp2_with fail
  go_ret
  unfold y0y;rw [R6'.out];exact ⟨rfl,H7.out.mm,H7.out.fr⟩
 ·rw [if_neg h6] at R6';have HR:Hid (MM ρ w7 p (x.passCheck).1∧Fr (fun k=>1<=k∧k<=5) ρ w w7):=⟨g1,H6.out.fr.trans g2⟩
  obtain ⟨t,ht⟩:∃ t,t=(x.passCheck).2:=⟨_,rfl⟩
  have HT:Hid ((x.passCheck).2=t):=ht.symm;rw [← ht] at h6 ⊢;have h0':((t:Int)==0)=false:=by simp;exact h6
  clear g1 g2 ht;go_wp2_with fail
  go_ret
  unfold y0y;rw [R6'.out,HT.out];exact ⟨rfl,HR.out⟩
theorem jqj{ρ:Nat->Nat}{w:World}{p:Nat}{x:MS}(h:MM ρ w p x)(hc:Hc x)(hst:x.st=5) :
  Calls Tryz.prog 100 #[.pointer (some ⟨p,0,none⟩)] w fun v w'=>y0y ρ w p (MS.h5 x) v w':=by
 have H5:Hid (Hw ρ w p x x w):=⟨h,hc,rfl,Fr.refl _ _ _⟩
 have c0:=h.cell0;have c7:=h.cell7.1;rw [hst] at c7;clear h hc hst;go_enter Tryz.func100,Tryz.ntmps100
 go_wp2_with fail
 refine (zgi x.fm w).mono ?_;rintro v w' ⟨rfl,rfl⟩;obtain ⟨b1,hb1⟩:∃ b,b=MS.first x.fm:=⟨_,rfl⟩
 obtain ⟨b2,hb2⟩:∃ b,b=MS.second x.fm:=⟨_,rfl⟩
 rw [← hb1,← hb2];have HB1:Hid (b1=MS.first x.fm):=hb1;have HB2:Hid (b2=MS.second x.fm):=hb2;clear hb1 hb2;go_wp2_with fail
 refine (zvv 1 H5.out.mm H5.out.hc.ok (Or.inl H5.out.hc.le) (by omega)).mono ?_;rintro v w6 ⟨rfl,g1,g2⟩;have R5':Hid (MS.h5 x=if (MS.passText 2 x).2=0 then MS.h6 { (MS.passText 2 x).1 with st:=6 } else MS.passText 2 x):=by
  show MS.h5 x=_;rfl
 by_cases h5:(MS.passText 2 x).2=0
 ·rw [if_pos h5] at R5';have H6:Hid (Hw ρ w p x { (MS.passText 2 x).1 with st:=6 } (w6.setCell ⟨p,7,none⟩ (.int .i64 (6:Nat)))):=H5.out.next g1 g2 (H5.out.hc.passText h5) 6;have k7:=g1.cell7;have k70:=k7.1;have k71:=k7.2;rw [h5];clear g1 g2 k7;obtain ⟨y6,hy⟩:∃ y:MS,y={ (MS.passText 2 x).1 with st:=6 }:=⟨_,rfl⟩
  rw [← hy] at H6 R5';have R6:Hid (MS.h5 x=MS.h6 y6):=R5'.out;clear hy R5' H5;go_wp2_with fail
  refine (xj1 H6.out.mm H6.out.hc.ok (Or.inl H6.out.hc.le)).mono ?_;rintro v w7 ⟨rfl,g1,g2⟩;have R6':Hid (MS.h5 x=if (y6.passCheck).2=0 then ({ (y6.passCheck).1 with st:=7 },0) else y6.passCheck):=by
   show MS.h5 x=_;rw [R6.out];rfl
  clear R6;by_cases h6:(y6.passCheck).2=0
  ·rw [if_pos h6] at R6';have H7:Hid (Hw ρ w p x { (y6.passCheck).1 with st:=7 } (w7.setCell ⟨p,7,none⟩ (.int .i64 (7:Nat)))):=H6.out.next g1 g2 (H6.out.hc.passCheck h6) 7;have k7:=g1.cell7;have k70:=k7.1;have k71:=k7.2;rw [h6];clear g1 g2 k7;go_wp2_with fail
   go_ret
   unfold y0y;rw [R6'.out];exact ⟨rfl,H7.out.mm,H7.out.fr⟩
  ·rw [if_neg h6] at R6';have HR:Hid (MM ρ w7 p (y6.passCheck).1∧Fr (fun k=>1<=k∧k<=5) ρ w w7):=⟨g1,H6.out.fr.trans g2⟩
   obtain ⟨t,ht⟩:∃ t,t=(y6.passCheck).2:=⟨_,rfl⟩
   have HT:Hid ((y6.passCheck).2=t):=ht.symm;rw [← ht] at h6 ⊢;have h0':((t:Int)==0)=false:=by simp;exact h6
   clear g1 g2 ht;go_wp2_with fail
   go_ret
   unfold y0y;rw [R6'.out,HT.out];exact ⟨rfl,HR.out⟩
 ·rw [if_neg h5] at R5';have HR:Hid (MM ρ w6 p (MS.passText 2 x).1∧Fr (fun k=>1<=k∧k<=5) ρ w w6):=⟨g1,H5.out.fr.trans g2⟩
  obtain ⟨t,ht⟩:∃ t,t=(MS.passText 2 x).2:=⟨_,rfl⟩
  have HT:Hid ((MS.passText 2 x).2=t):=ht.symm;rw [← ht] at h5 ⊢;have h0':((t:Int)==0)=false:=by simp;exact h5
  clear g1 g2 ht;go_wp2_with fail
  go_ret
  unfold y0y;rw [R5'.out,HT.out];exact ⟨rfl,HR.out⟩
theorem zqf{ρ:Nat->Nat}{w:World}{p:Nat}{x:MS}(h:MM ρ w p x)(hc:Hc x)(hst:x.st=4) :
  Calls Tryz.prog 100 #[.pointer (some ⟨p,0,none⟩)] w fun v w'=>y0y ρ w p (MS.h4 x) v w':=by
 have H4:Hid (Hw ρ w p x x w):=⟨h,hc,rfl,Fr.refl _ _ _⟩
 have c0:=h.cell0;have c7:=h.cell7.1;rw [hst] at c7;clear h hc hst;go_enter Tryz.func100,Tryz.ntmps100
 go_wp2_with fail
 refine (zgi x.fm w).mono ?_;rintro v w' ⟨rfl,rfl⟩;obtain ⟨b1,hb1⟩:∃ b,b=MS.first x.fm:=⟨_,rfl⟩
 obtain ⟨b2,hb2⟩:∃ b,b=MS.second x.fm:=⟨_,rfl⟩
 rw [← hb1,← hb2];have HB1:Hid (b1=MS.first x.fm):=hb1;have HB2:Hid (b2=MS.second x.fm):=hb2;clear hb1 hb2;go_wp2_with fail
 refine (zvv 0 H4.out.mm H4.out.hc.ok (Or.inl H4.out.hc.le) (by omega)).mono ?_;rintro v w5 ⟨rfl,g1,g2⟩;have R4':Hid (MS.h4 x=if (MS.passText 1 x).2=0 then MS.h5 { (MS.passText 1 x).1 with st:=5 } else MS.passText 1 x):=by
  show MS.h4 x=_;rfl
 by_cases h4:(MS.passText 1 x).2=0
 ·rw [if_pos h4] at R4';have H5:Hid (Hw ρ w p x { (MS.passText 1 x).1 with st:=5 } (w5.setCell ⟨p,7,none⟩ (.int .i64 (5:Nat)))):=H4.out.next g1 g2 (H4.out.hc.passText h4) 5;have k7:=g1.cell7;have k70:=k7.1;have k71:=k7.2;rw [h4];clear g1 g2 k7;obtain ⟨y5,hy⟩:∃ y:MS,y={ (MS.passText 1 x).1 with st:=5 }:=⟨_,rfl⟩
  rw [← hy] at H5 R4';have R5:Hid (MS.h4 x=MS.h5 y5):=R4'.out;clear hy R4' H4;go_wp2_with fail
  refine (zvv 1 H5.out.mm H5.out.hc.ok (Or.inl H5.out.hc.le) (by omega)).mono ?_;rintro v w6 ⟨rfl,g1,g2⟩;have R5':Hid (MS.h4 x=if (MS.passText 2 y5).2=0 then MS.h6 { (MS.passText 2 y5).1 with st:=6 } else MS.passText 2 y5):=by
   show MS.h4 x=_;rw [R5.out];rfl
  clear R5;by_cases h5:(MS.passText 2 y5).2=0
  ·rw [if_pos h5] at R5';have H6:Hid (Hw ρ w p x { (MS.passText 2 y5).1 with st:=6 } (w6.setCell ⟨p,7,none⟩ (.int .i64 (6:Nat)))):=H5.out.next g1 g2 (H5.out.hc.passText h5) 6;have k7:=g1.cell7;have k70:=k7.1;have k71:=k7.2;rw [h5];clear g1 g2 k7;obtain ⟨y6,hy⟩:∃ y:MS,y={ (MS.passText 2 y5).1 with st:=6 }:=⟨_,rfl⟩
   rw [← hy] at H6 R5';have R6:Hid (MS.h4 x=MS.h6 y6):=R5'.out;clear hy R5' H5;go_wp2_with fail
   refine (xj1 H6.out.mm H6.out.hc.ok (Or.inl H6.out.hc.le)).mono ?_;rintro v w7 ⟨rfl,g1,g2⟩;have R6':Hid (MS.h4 x=if (y6.passCheck).2=0 then ({ (y6.passCheck).1 with st:=7 },0) else y6.passCheck):=by
    show MS.h4 x=_;rw [R6.out];rfl
   clear R6;by_cases h6:(y6.passCheck).2=0
   ·rw [if_pos h6] at R6';have H7:Hid (Hw ρ w p x { (y6.passCheck).1 with st:=7 } (w7.setCell ⟨p,7,none⟩ (.int .i64 (7:Nat)))):=H6.out.next g1 g2 (H6.out.hc.passCheck h6) 7;have k7:=g1.cell7;have k70:=k7.1;have k71:=k7.2;rw [h6];clear g1 g2 k7;go_wp2_with fail
    go_ret
    unfold y0y;rw [R6'.out];exact ⟨rfl,H7.out.mm,H7.out.fr⟩
   ·rw [if_neg h6] at R6';have HR:Hid (MM ρ w7 p (y6.passCheck).1∧Fr (fun k=>1<=k∧k<=5) ρ w w7):=⟨g1,H6.out.fr.trans g2⟩
    obtain ⟨t,ht⟩:∃ t,t=(y6.passCheck).2:=⟨_,rfl⟩
    have HT:Hid ((y6.passCheck).2=t):=ht.symm;rw [← ht] at h6 ⊢;have h0':((t:Int)==0)=false:=by simp;exact h6
    clear g1 g2 ht;go_wp2_with fail
    go_ret
    unfold y0y;rw [R6'.out,HT.out];exact ⟨rfl,HR.out⟩
  ·rw [if_neg h5] at R5';have HR:Hid (MM ρ w6 p (MS.passText 2 y5).1∧Fr (fun k=>1<=k∧k<=5) ρ w w6):=⟨g1,H5.out.fr.trans g2⟩
   obtain ⟨t,ht⟩:∃ t,t=(MS.passText 2 y5).2:=⟨_,rfl⟩
   have HT:Hid ((MS.passText 2 y5).2=t):=ht.symm;rw [← ht] at h5 ⊢;have h0':((t:Int)==0)=false:=by simp;exact h5
   clear g1 g2 ht;go_wp2_with fail
   go_ret
   unfold y0y;rw [R5'.out,HT.out];exact ⟨rfl,HR.out⟩
 ·rw [if_neg h4] at R4';have HR:Hid (MM ρ w5 p (MS.passText 1 x).1∧Fr (fun k=>1<=k∧k<=5) ρ w w5):=⟨g1,H4.out.fr.trans g2⟩
  obtain ⟨t,ht⟩:∃ t,t=(MS.passText 1 x).2:=⟨_,rfl⟩
  have HT:Hid ((MS.passText 1 x).2=t):=ht.symm;rw [← ht] at h4 ⊢;have h0':((t:Int)==0)=false:=by simp;exact h4
  clear g1 g2 ht;go_wp2_with fail
  go_ret
  unfold y0y;rw [R4'.out,HT.out];exact ⟨rfl,HR.out⟩
theorem x0l{ρ:Nat->Nat}{w:World}{p:Nat}{x:MS}(h:MM ρ w p x)(hc:Hc x)(hst:x.st=3) :
  Calls Tryz.prog 100 #[.pointer (some ⟨p,0,none⟩)] w fun v w'=>y0y ρ w p (MS.h3 x) v w':=by
 have H3:Hid (Hw ρ w p x x w):=⟨h,hc,rfl,Fr.refl _ _ _⟩
 have c0:=h.cell0;have c7:=h.cell7.1;rw [hst] at c7;clear h hc hst;go_enter Tryz.func100,Tryz.ntmps100
 go_wp2_with fail
 refine (zgi x.fm w).mono ?_;rintro v w' ⟨rfl,rfl⟩;obtain ⟨b1,hb1⟩:∃ b,b=MS.first x.fm:=⟨_,rfl⟩
 obtain ⟨b2,hb2⟩:∃ b,b=MS.second x.fm:=⟨_,rfl⟩
 rw [← hb1,← hb2];have HB1:Hid (b1=MS.first x.fm):=hb1;have HB2:Hid (b2=MS.second x.fm):=hb2;clear hb1 hb2;go_wp2_with fail
 refine (xdp H3.out.mm H3.out.hc.ok (Or.inl H3.out.hc.le)).mono ?_;rintro v w4 ⟨rfl,g1,g2⟩;have R3':Hid (MS.h3 x=if (x.passMarks).2=0 then MS.h4 { (x.passMarks).1 with st:=4 } else x.passMarks):=by
  show MS.h3 x=_;rfl
 by_cases h3:(x.passMarks).2=0
 ·rw [if_pos h3] at R3';have H4:Hid (Hw ρ w p x { (x.passMarks).1 with st:=4 } (w4.setCell ⟨p,7,none⟩ (.int .i64 (4:Nat)))):=H3.out.next g1 g2 (H3.out.hc.passMarks h3) 4;have k7:=g1.cell7;have k70:=k7.1;have k71:=k7.2;rw [h3];clear g1 g2 k7;obtain ⟨y4,hy⟩:∃ y:MS,y={ (x.passMarks).1 with st:=4 }:=⟨_,rfl⟩
  rw [← hy] at H4 R3';have R4:Hid (MS.h3 x=MS.h4 y4):=R3'.out;clear hy R3' H3;go_wp2_with fail
  refine (zvv 0 H4.out.mm H4.out.hc.ok (Or.inl H4.out.hc.le) (by omega)).mono ?_;rintro v w5 ⟨rfl,g1,g2⟩;have R4':Hid (MS.h3 x=if (MS.passText 1 y4).2=0 then MS.h5 { (MS.passText 1 y4).1 with st:=5 } else MS.passText 1 y4):=by
   show MS.h3 x=_;rw [R4.out];rfl
  clear R4;by_cases h4:(MS.passText 1 y4).2=0
  ·rw [if_pos h4] at R4';have H5:Hid (Hw ρ w p x { (MS.passText 1 y4).1 with st:=5 } (w5.setCell ⟨p,7,none⟩ (.int .i64 (5:Nat)))):=H4.out.next g1 g2 (H4.out.hc.passText h4) 5;have k7:=g1.cell7;have k70:=k7.1;have k71:=k7.2;rw [h4];clear g1 g2 k7;obtain ⟨y5,hy⟩:∃ y:MS,y={ (MS.passText 1 y4).1 with st:=5 }:=⟨_,rfl⟩
   rw [← hy] at H5 R4';have R5:Hid (MS.h3 x=MS.h5 y5):=R4'.out;clear hy R4' H4;go_wp2_with fail
   refine (zvv 1 H5.out.mm H5.out.hc.ok (Or.inl H5.out.hc.le) (by omega)).mono ?_;rintro v w6 ⟨rfl,g1,g2⟩;have R5':Hid (MS.h3 x=if (MS.passText 2 y5).2=0 then MS.h6 { (MS.passText 2 y5).1 with st:=6 } else MS.passText 2 y5):=by
    show MS.h3 x=_;rw [R5.out];rfl
   clear R5;by_cases h5:(MS.passText 2 y5).2=0
   ·rw [if_pos h5] at R5';have H6:Hid (Hw ρ w p x { (MS.passText 2 y5).1 with st:=6 } (w6.setCell ⟨p,7,none⟩ (.int .i64 (6:Nat)))):=H5.out.next g1 g2 (H5.out.hc.passText h5) 6;have k7:=g1.cell7;have k70:=k7.1;have k71:=k7.2;rw [h5];clear g1 g2 k7;obtain ⟨y6,hy⟩:∃ y:MS,y={ (MS.passText 2 y5).1 with st:=6 }:=⟨_,rfl⟩
    rw [← hy] at H6 R5';have R6:Hid (MS.h3 x=MS.h6 y6):=R5'.out;clear hy R5' H5;go_wp2_with fail
    refine (xj1 H6.out.mm H6.out.hc.ok (Or.inl H6.out.hc.le)).mono ?_;rintro v w7 ⟨rfl,g1,g2⟩;have R6':Hid (MS.h3 x=if (y6.passCheck).2=0 then ({ (y6.passCheck).1 with st:=7 },0) else y6.passCheck):=by
     show MS.h3 x=_;rw [R6.out];rfl
    clear R6;by_cases h6:(y6.passCheck).2=0
    ·rw [if_pos h6] at R6';have H7:Hid (Hw ρ w p x { (y6.passCheck).1 with st:=7 } (w7.setCell ⟨p,7,none⟩ (.int .i64 (7:Nat)))):=H6.out.next g1 g2 (H6.out.hc.passCheck h6) 7;have k7:=g1.cell7;have k70:=k7.1;have k71:=k7.2;rw [h6];clear g1 g2 k7;go_wp2_with fail
     go_ret
     unfold y0y;rw [R6'.out];exact ⟨rfl,H7.out.mm,H7.out.fr⟩
    ·rw [if_neg h6] at R6';have HR:Hid (MM ρ w7 p (y6.passCheck).1∧Fr (fun k=>1<=k∧k<=5) ρ w w7):=⟨g1,H6.out.fr.trans g2⟩
     obtain ⟨t,ht⟩:∃ t,t=(y6.passCheck).2:=⟨_,rfl⟩
     have HT:Hid ((y6.passCheck).2=t):=ht.symm;rw [← ht] at h6 ⊢;have h0':((t:Int)==0)=false:=by simp;exact h6
     clear g1 g2 ht;go_wp2_with fail
     go_ret
     unfold y0y;rw [R6'.out,HT.out];exact ⟨rfl,HR.out⟩
   ·rw [if_neg h5] at R5';have HR:Hid (MM ρ w6 p (MS.passText 2 y5).1∧Fr (fun k=>1<=k∧k<=5) ρ w w6):=⟨g1,H5.out.fr.trans g2⟩
    obtain ⟨t,ht⟩:∃ t,t=(MS.passText 2 y5).2:=⟨_,rfl⟩
    have HT:Hid ((MS.passText 2 y5).2=t):=ht.symm;rw [← ht] at h5 ⊢;have h0':((t:Int)==0)=false:=by simp;exact h5
    clear g1 g2 ht;go_wp2_with fail
    go_ret
    unfold y0y;rw [R5'.out,HT.out];exact ⟨rfl,HR.out⟩
  ·rw [if_neg h4] at R4';have HR:Hid (MM ρ w5 p (MS.passText 1 y4).1∧Fr (fun k=>1<=k∧k<=5) ρ w w5):=⟨g1,H4.out.fr.trans g2⟩
   obtain ⟨t,ht⟩:∃ t,t=(MS.passText 1 y4).2:=⟨_,rfl⟩
   have HT:Hid ((MS.passText 1 y4).2=t):=ht.symm;rw [← ht] at h4 ⊢;have h0':((t:Int)==0)=false:=by simp;exact h4
   clear g1 g2 ht;go_wp2_with fail
   go_ret
   unfold y0y;rw [R4'.out,HT.out];exact ⟨rfl,HR.out⟩
 ·rw [if_neg h3] at R3';have HR:Hid (MM ρ w4 p (x.passMarks).1∧Fr (fun k=>1<=k∧k<=5) ρ w w4):=⟨g1,H3.out.fr.trans g2⟩
  obtain ⟨t,ht⟩:∃ t,t=(x.passMarks).2:=⟨_,rfl⟩
  have HT:Hid ((x.passMarks).2=t):=ht.symm;rw [← ht] at h3 ⊢;have h0':((t:Int)==0)=false:=by simp;exact h3
  clear g1 g2 ht;go_wp2_with fail
  go_ret
  unfold y0y;rw [R3'.out,HT.out];exact ⟨rfl,HR.out⟩
theorem vr2{ρ:Nat->Nat}{w:World}{p:Nat}{x:MS}(h:MM ρ w p x)(hc:Hc x)(hst:x.st=2) :
  Calls Tryz.prog 100 #[.pointer (some ⟨p,0,none⟩)] w fun v w'=>y0y ρ w p (MS.h2 x) v w':=by
 have H2:Hid (Hw ρ w p x x w):=⟨h,hc,rfl,Fr.refl _ _ _⟩
 have c0:=h.cell0;have c7:=h.cell7.1;rw [hst] at c7;clear h hc hst;go_enter Tryz.func100,Tryz.ntmps100
 go_wp2_with fail
 refine (zgi x.fm w).mono ?_;rintro v w' ⟨rfl,rfl⟩;obtain ⟨b1,hb1⟩:∃ b,b=MS.first x.fm:=⟨_,rfl⟩
 obtain ⟨b2,hb2⟩:∃ b,b=MS.second x.fm:=⟨_,rfl⟩
 rw [← hb1,← hb2];have HB1:Hid (b1=MS.first x.fm):=hb1;have HB2:Hid (b2=MS.second x.fm):=hb2;clear hb1 hb2;go_wp2_with fail
 have E2:Hid (b2=MS.second x.fm):=by show b2=_;rw [H2.out.fm];exact HB2.out
 have C2:=zmn (MS.second x.fm) H2.out.mm H2.out.hc.ok (Or.inl H2.out.hc.le) (kph _);rw [← E2.out] at C2;refine C2.mono ?_;clear C2;rintro v w3 ⟨rfl,g1,g2⟩;have R2':Hid (MS.h2 x=if (MS.passFixed b2 x).2=0 then MS.h3 { (MS.passFixed b2 x).1 with st:=3 } else MS.passFixed b2 x):=by
  show MS.h2 x=_;rw [E2.out];rfl
 by_cases h2:(MS.passFixed b2 x).2=0
 ·rw [if_pos h2] at R2';have H3:Hid (Hw ρ w p x { (MS.passFixed b2 x).1 with st:=3 } (w3.setCell ⟨p,7,none⟩ (.int .i64 (3:Nat)))):=H2.out.next g1 g2 (H2.out.hc.passFixed h2) 3;have k7:=g1.cell7;have k70:=k7.1;have k71:=k7.2;rw [h2];clear g1 g2 k7;obtain ⟨y3,hy⟩:∃ y:MS,y={ (MS.passFixed b2 x).1 with st:=3 }:=⟨_,rfl⟩
  rw [← hy] at H3 R2';have R3:Hid (MS.h2 x=MS.h3 y3):=R2'.out;clear hy R2' H2;go_wp2_with fail
  refine (xdp H3.out.mm H3.out.hc.ok (Or.inl H3.out.hc.le)).mono ?_;rintro v w4 ⟨rfl,g1,g2⟩;have R3':Hid (MS.h2 x=if (y3.passMarks).2=0 then MS.h4 { (y3.passMarks).1 with st:=4 } else y3.passMarks):=by
   show MS.h2 x=_;rw [R3.out];rfl
  clear R3;by_cases h3:(y3.passMarks).2=0
  ·rw [if_pos h3] at R3';have H4:Hid (Hw ρ w p x { (y3.passMarks).1 with st:=4 } (w4.setCell ⟨p,7,none⟩ (.int .i64 (4:Nat)))):=H3.out.next g1 g2 (H3.out.hc.passMarks h3) 4;have k7:=g1.cell7;have k70:=k7.1;have k71:=k7.2;rw [h3];clear g1 g2 k7;obtain ⟨y4,hy⟩:∃ y:MS,y={ (y3.passMarks).1 with st:=4 }:=⟨_,rfl⟩
   rw [← hy] at H4 R3';have R4:Hid (MS.h2 x=MS.h4 y4):=R3'.out;clear hy R3' H3;go_wp2_with fail
   refine (zvv 0 H4.out.mm H4.out.hc.ok (Or.inl H4.out.hc.le) (by omega)).mono ?_;rintro v w5 ⟨rfl,g1,g2⟩;have R4':Hid (MS.h2 x=if (MS.passText 1 y4).2=0 then MS.h5 { (MS.passText 1 y4).1 with st:=5 } else MS.passText 1 y4):=by
    show MS.h2 x=_;rw [R4.out];rfl
   clear R4;by_cases h4:(MS.passText 1 y4).2=0
   ·rw [if_pos h4] at R4';have H5:Hid (Hw ρ w p x { (MS.passText 1 y4).1 with st:=5 } (w5.setCell ⟨p,7,none⟩ (.int .i64 (5:Nat)))):=H4.out.next g1 g2 (H4.out.hc.passText h4) 5;have k7:=g1.cell7;have k70:=k7.1;have k71:=k7.2;rw [h4];clear g1 g2 k7;obtain ⟨y5,hy⟩:∃ y:MS,y={ (MS.passText 1 y4).1 with st:=5 }:=⟨_,rfl⟩
    rw [← hy] at H5 R4';have R5:Hid (MS.h2 x=MS.h5 y5):=R4'.out;clear hy R4' H4;go_wp2_with fail
    refine (zvv 1 H5.out.mm H5.out.hc.ok (Or.inl H5.out.hc.le) (by omega)).mono ?_;rintro v w6 ⟨rfl,g1,g2⟩;have R5':Hid (MS.h2 x=if (MS.passText 2 y5).2=0 then MS.h6 { (MS.passText 2 y5).1 with st:=6 } else MS.passText 2 y5):=by
     show MS.h2 x=_;rw [R5.out];rfl
    clear R5;by_cases h5:(MS.passText 2 y5).2=0
    ·rw [if_pos h5] at R5';have H6:Hid (Hw ρ w p x { (MS.passText 2 y5).1 with st:=6 } (w6.setCell ⟨p,7,none⟩ (.int .i64 (6:Nat)))):=H5.out.next g1 g2 (H5.out.hc.passText h5) 6;have k7:=g1.cell7;have k70:=k7.1;have k71:=k7.2;rw [h5];clear g1 g2 k7;obtain ⟨y6,hy⟩:∃ y:MS,y={ (MS.passText 2 y5).1 with st:=6 }:=⟨_,rfl⟩
     rw [← hy] at H6 R5';have R6:Hid (MS.h2 x=MS.h6 y6):=R5'.out;clear hy R5' H5;go_wp2_with fail
     refine (xj1 H6.out.mm H6.out.hc.ok (Or.inl H6.out.hc.le)).mono ?_;rintro v w7 ⟨rfl,g1,g2⟩;have R6':Hid (MS.h2 x=if (y6.passCheck).2=0 then ({ (y6.passCheck).1 with st:=7 },0) else y6.passCheck):=by
      show MS.h2 x=_;rw [R6.out];rfl
     clear R6;by_cases h6:(y6.passCheck).2=0
     ·rw [if_pos h6] at R6';have H7:Hid (Hw ρ w p x { (y6.passCheck).1 with st:=7 } (w7.setCell ⟨p,7,none⟩ (.int .i64 (7:Nat)))):=H6.out.next g1 g2 (H6.out.hc.passCheck h6) 7;have k7:=g1.cell7;have k70:=k7.1;have k71:=k7.2;rw [h6];clear g1 g2 k7;go_wp2_with fail
      go_ret
      unfold y0y;rw [R6'.out];exact ⟨rfl,H7.out.mm,H7.out.fr⟩
     ·rw [if_neg h6] at R6';have HR:Hid (MM ρ w7 p (y6.passCheck).1∧Fr (fun k=>1<=k∧k<=5) ρ w w7):=⟨g1,H6.out.fr.trans g2⟩
      obtain ⟨t,ht⟩:∃ t,t=(y6.passCheck).2:=⟨_,rfl⟩
      have HT:Hid ((y6.passCheck).2=t):=ht.symm;rw [← ht] at h6 ⊢;have h0':((t:Int)==0)=false:=by simp;exact h6
      clear g1 g2 ht;go_wp2_with fail
      go_ret
      unfold y0y;rw [R6'.out,HT.out];exact ⟨rfl,HR.out⟩
    ·rw [if_neg h5] at R5';have HR:Hid (MM ρ w6 p (MS.passText 2 y5).1∧Fr (fun k=>1<=k∧k<=5) ρ w w6):=⟨g1,H5.out.fr.trans g2⟩
     obtain ⟨t,ht⟩:∃ t,t=(MS.passText 2 y5).2:=⟨_,rfl⟩
     have HT:Hid ((MS.passText 2 y5).2=t):=ht.symm;rw [← ht] at h5 ⊢;have h0':((t:Int)==0)=false:=by simp;exact h5
     clear g1 g2 ht;go_wp2_with fail
     go_ret
     unfold y0y;rw [R5'.out,HT.out];exact ⟨rfl,HR.out⟩
   ·rw [if_neg h4] at R4';have HR:Hid (MM ρ w5 p (MS.passText 1 y4).1∧Fr (fun k=>1<=k∧k<=5) ρ w w5):=⟨g1,H4.out.fr.trans g2⟩
    obtain ⟨t,ht⟩:∃ t,t=(MS.passText 1 y4).2:=⟨_,rfl⟩
    have HT:Hid ((MS.passText 1 y4).2=t):=ht.symm;rw [← ht] at h4 ⊢;have h0':((t:Int)==0)=false:=by simp;exact h4
    clear g1 g2 ht;go_wp2_with fail
    go_ret
    unfold y0y;rw [R4'.out,HT.out];exact ⟨rfl,HR.out⟩
  ·rw [if_neg h3] at R3';have HR:Hid (MM ρ w4 p (y3.passMarks).1∧Fr (fun k=>1<=k∧k<=5) ρ w w4):=⟨g1,H3.out.fr.trans g2⟩
   obtain ⟨t,ht⟩:∃ t,t=(y3.passMarks).2:=⟨_,rfl⟩
   have HT:Hid ((y3.passMarks).2=t):=ht.symm;rw [← ht] at h3 ⊢;have h0':((t:Int)==0)=false:=by simp;exact h3
   clear g1 g2 ht;go_wp2_with fail
   go_ret
   unfold y0y;rw [R3'.out,HT.out];exact ⟨rfl,HR.out⟩
 ·rw [if_neg h2] at R2';have HR:Hid (MM ρ w3 p (MS.passFixed b2 x).1∧Fr (fun k=>1<=k∧k<=5) ρ w w3):=⟨g1,H2.out.fr.trans g2⟩
  obtain ⟨t,ht⟩:∃ t,t=(MS.passFixed b2 x).2:=⟨_,rfl⟩
  have HT:Hid ((MS.passFixed b2 x).2=t):=ht.symm;rw [← ht] at h2 ⊢;have h0':((t:Int)==0)=false:=by simp;exact h2
  clear g1 g2 ht;go_wp2_with fail
  go_ret
  unfold y0y;rw [R2'.out,HT.out];exact ⟨rfl,HR.out⟩
theorem y1s{ρ:Nat->Nat}{w:World}{p:Nat}{x:MS}(h:MM ρ w p x)(hc:Hc x)(hst:x.st=1) :
  Calls Tryz.prog 100 #[.pointer (some ⟨p,0,none⟩)] w fun v w'=>y0y ρ w p (MS.h1 x) v w':=by
 have H1:Hid (Hw ρ w p x x w):=⟨h,hc,rfl,Fr.refl _ _ _⟩
 have c0:=h.cell0;have c7:=h.cell7.1;rw [hst] at c7;clear h hc hst;go_enter Tryz.func100,Tryz.ntmps100
 go_wp2_with fail
 refine (zgi x.fm w).mono ?_;rintro v w' ⟨rfl,rfl⟩;obtain ⟨b1,hb1⟩:∃ b,b=MS.first x.fm:=⟨_,rfl⟩
 obtain ⟨b2,hb2⟩:∃ b,b=MS.second x.fm:=⟨_,rfl⟩
 rw [← hb1,← hb2];have HB1:Hid (b1=MS.first x.fm):=hb1;have HB2:Hid (b2=MS.second x.fm):=hb2;clear hb1 hb2;go_wp2_with fail
 have E1:Hid (b1=MS.first x.fm):=by show b1=_;rw [H1.out.fm];exact HB1.out
 have C1:=zmn (MS.first x.fm) H1.out.mm H1.out.hc.ok (Or.inl H1.out.hc.le) (zvt _);rw [← E1.out] at C1;refine C1.mono ?_;clear C1;rintro v w2 ⟨rfl,g1,g2⟩;have R1':Hid (MS.h1 x=if (MS.passFixed b1 x).2=0 then MS.h2 { (MS.passFixed b1 x).1 with st:=2 } else MS.passFixed b1 x):=by
  show MS.h1 x=_;rw [E1.out];rfl
 by_cases h1:(MS.passFixed b1 x).2=0
 ·rw [if_pos h1] at R1';have H2:Hid (Hw ρ w p x { (MS.passFixed b1 x).1 with st:=2 } (w2.setCell ⟨p,7,none⟩ (.int .i64 (2:Nat)))):=H1.out.next g1 g2 (H1.out.hc.passFixed h1) 2;have k7:=g1.cell7;have k70:=k7.1;have k71:=k7.2;rw [h1];clear g1 g2 k7;obtain ⟨y2,hy⟩:∃ y:MS,y={ (MS.passFixed b1 x).1 with st:=2 }:=⟨_,rfl⟩
  rw [← hy] at H2 R1';have R2:Hid (MS.h1 x=MS.h2 y2):=R1'.out;clear hy R1' H1;go_wp2_with fail
  have E2:Hid (b2=MS.second y2.fm):=by show b2=_;rw [H2.out.fm];exact HB2.out
  have C2:=zmn (MS.second y2.fm) H2.out.mm H2.out.hc.ok (Or.inl H2.out.hc.le) (kph _);rw [← E2.out] at C2;refine C2.mono ?_;clear C2;rintro v w3 ⟨rfl,g1,g2⟩;have R2':Hid (MS.h1 x=if (MS.passFixed b2 y2).2=0 then MS.h3 { (MS.passFixed b2 y2).1 with st:=3 } else MS.passFixed b2 y2):=by
   show MS.h1 x=_;rw [R2.out];rw [E2.out];rfl
  clear R2;by_cases h2:(MS.passFixed b2 y2).2=0
  ·rw [if_pos h2] at R2';have H3:Hid (Hw ρ w p x { (MS.passFixed b2 y2).1 with st:=3 } (w3.setCell ⟨p,7,none⟩ (.int .i64 (3:Nat)))):=H2.out.next g1 g2 (H2.out.hc.passFixed h2) 3;have k7:=g1.cell7;have k70:=k7.1;have k71:=k7.2;rw [h2];clear g1 g2 k7;obtain ⟨y3,hy⟩:∃ y:MS,y={ (MS.passFixed b2 y2).1 with st:=3 }:=⟨_,rfl⟩
   rw [← hy] at H3 R2';have R3:Hid (MS.h1 x=MS.h3 y3):=R2'.out;clear hy R2' H2;go_wp2_with fail
   refine (xdp H3.out.mm H3.out.hc.ok (Or.inl H3.out.hc.le)).mono ?_;rintro v w4 ⟨rfl,g1,g2⟩;have R3':Hid (MS.h1 x=if (y3.passMarks).2=0 then MS.h4 { (y3.passMarks).1 with st:=4 } else y3.passMarks):=by
    show MS.h1 x=_;rw [R3.out];rfl
   clear R3;by_cases h3:(y3.passMarks).2=0
   ·rw [if_pos h3] at R3';have H4:Hid (Hw ρ w p x { (y3.passMarks).1 with st:=4 } (w4.setCell ⟨p,7,none⟩ (.int .i64 (4:Nat)))):=H3.out.next g1 g2 (H3.out.hc.passMarks h3) 4;have k7:=g1.cell7;have k70:=k7.1;have k71:=k7.2;rw [h3];clear g1 g2 k7;obtain ⟨y4,hy⟩:∃ y:MS,y={ (y3.passMarks).1 with st:=4 }:=⟨_,rfl⟩
    rw [← hy] at H4 R3';have R4:Hid (MS.h1 x=MS.h4 y4):=R3'.out;clear hy R3' H3;go_wp2_with fail
    refine (zvv 0 H4.out.mm H4.out.hc.ok (Or.inl H4.out.hc.le) (by omega)).mono ?_;rintro v w5 ⟨rfl,g1,g2⟩;have R4':Hid (MS.h1 x=if (MS.passText 1 y4).2=0 then MS.h5 { (MS.passText 1 y4).1 with st:=5 } else MS.passText 1 y4):=by
     show MS.h1 x=_;rw [R4.out];rfl
    clear R4;by_cases h4:(MS.passText 1 y4).2=0
    ·rw [if_pos h4] at R4';have H5:Hid (Hw ρ w p x { (MS.passText 1 y4).1 with st:=5 } (w5.setCell ⟨p,7,none⟩ (.int .i64 (5:Nat)))):=H4.out.next g1 g2 (H4.out.hc.passText h4) 5;have k7:=g1.cell7;have k70:=k7.1;have k71:=k7.2;rw [h4];clear g1 g2 k7;obtain ⟨y5,hy⟩:∃ y:MS,y={ (MS.passText 1 y4).1 with st:=5 }:=⟨_,rfl⟩
     rw [← hy] at H5 R4';have R5:Hid (MS.h1 x=MS.h5 y5):=R4'.out;clear hy R4' H4;go_wp2_with fail
     refine (zvv 1 H5.out.mm H5.out.hc.ok (Or.inl H5.out.hc.le) (by omega)).mono ?_;rintro v w6 ⟨rfl,g1,g2⟩;have R5':Hid (MS.h1 x=if (MS.passText 2 y5).2=0 then MS.h6 { (MS.passText 2 y5).1 with st:=6 } else MS.passText 2 y5):=by
      show MS.h1 x=_;rw [R5.out];rfl
     clear R5;by_cases h5:(MS.passText 2 y5).2=0
     ·rw [if_pos h5] at R5';have H6:Hid (Hw ρ w p x { (MS.passText 2 y5).1 with st:=6 } (w6.setCell ⟨p,7,none⟩ (.int .i64 (6:Nat)))):=H5.out.next g1 g2 (H5.out.hc.passText h5) 6;have k7:=g1.cell7;have k70:=k7.1;have k71:=k7.2;rw [h5];clear g1 g2 k7;obtain ⟨y6,hy⟩:∃ y:MS,y={ (MS.passText 2 y5).1 with st:=6 }:=⟨_,rfl⟩
      rw [← hy] at H6 R5';have R6:Hid (MS.h1 x=MS.h6 y6):=R5'.out;clear hy R5' H5;go_wp2_with fail
      refine (xj1 H6.out.mm H6.out.hc.ok (Or.inl H6.out.hc.le)).mono ?_;rintro v w7 ⟨rfl,g1,g2⟩;have R6':Hid (MS.h1 x=if (y6.passCheck).2=0 then ({ (y6.passCheck).1 with st:=7 },0) else y6.passCheck):=by
       show MS.h1 x=_;rw [R6.out];rfl
      clear R6;by_cases h6:(y6.passCheck).2=0
      ·rw [if_pos h6] at R6';have H7:Hid (Hw ρ w p x { (y6.passCheck).1 with st:=7 } (w7.setCell ⟨p,7,none⟩ (.int .i64 (7:Nat)))):=H6.out.next g1 g2 (H6.out.hc.passCheck h6) 7;have k7:=g1.cell7;have k70:=k7.1;have k71:=k7.2;rw [h6];clear g1 g2 k7;go_wp2_with fail
       go_ret
       unfold y0y;rw [R6'.out];exact ⟨rfl,H7.out.mm,H7.out.fr⟩
      ·rw [if_neg h6] at R6';have HR:Hid (MM ρ w7 p (y6.passCheck).1∧Fr (fun k=>1<=k∧k<=5) ρ w w7):=⟨g1,H6.out.fr.trans g2⟩
       obtain ⟨t,ht⟩:∃ t,t=(y6.passCheck).2:=⟨_,rfl⟩
       have HT:Hid ((y6.passCheck).2=t):=ht.symm;rw [← ht] at h6 ⊢;have h0':((t:Int)==0)=false:=by simp;exact h6
       clear g1 g2 ht;go_wp2_with fail
       go_ret
       unfold y0y;rw [R6'.out,HT.out];exact ⟨rfl,HR.out⟩
     ·rw [if_neg h5] at R5';have HR:Hid (MM ρ w6 p (MS.passText 2 y5).1∧Fr (fun k=>1<=k∧k<=5) ρ w w6):=⟨g1,H5.out.fr.trans g2⟩
      obtain ⟨t,ht⟩:∃ t,t=(MS.passText 2 y5).2:=⟨_,rfl⟩
      have HT:Hid ((MS.passText 2 y5).2=t):=ht.symm;rw [← ht] at h5 ⊢;have h0':((t:Int)==0)=false:=by simp;exact h5
      clear g1 g2 ht;go_wp2_with fail
      go_ret
      unfold y0y;rw [R5'.out,HT.out];exact ⟨rfl,HR.out⟩
    ·rw [if_neg h4] at R4';have HR:Hid (MM ρ w5 p (MS.passText 1 y4).1∧Fr (fun k=>1<=k∧k<=5) ρ w w5):=⟨g1,H4.out.fr.trans g2⟩
     obtain ⟨t,ht⟩:∃ t,t=(MS.passText 1 y4).2:=⟨_,rfl⟩
     have HT:Hid ((MS.passText 1 y4).2=t):=ht.symm;rw [← ht] at h4 ⊢;have h0':((t:Int)==0)=false:=by simp;exact h4
     clear g1 g2 ht;go_wp2_with fail
     go_ret
     unfold y0y;rw [R4'.out,HT.out];exact ⟨rfl,HR.out⟩
   ·rw [if_neg h3] at R3';have HR:Hid (MM ρ w4 p (y3.passMarks).1∧Fr (fun k=>1<=k∧k<=5) ρ w w4):=⟨g1,H3.out.fr.trans g2⟩
    obtain ⟨t,ht⟩:∃ t,t=(y3.passMarks).2:=⟨_,rfl⟩
    have HT:Hid ((y3.passMarks).2=t):=ht.symm;rw [← ht] at h3 ⊢;have h0':((t:Int)==0)=false:=by simp;exact h3
    clear g1 g2 ht;go_wp2_with fail
    go_ret
    unfold y0y;rw [R3'.out,HT.out];exact ⟨rfl,HR.out⟩
  ·rw [if_neg h2] at R2';have HR:Hid (MM ρ w3 p (MS.passFixed b2 y2).1∧Fr (fun k=>1<=k∧k<=5) ρ w w3):=⟨g1,H2.out.fr.trans g2⟩
   obtain ⟨t,ht⟩:∃ t,t=(MS.passFixed b2 y2).2:=⟨_,rfl⟩
   have HT:Hid ((MS.passFixed b2 y2).2=t):=ht.symm;rw [← ht] at h2 ⊢;have h0':((t:Int)==0)=false:=by simp;exact h2
   clear g1 g2 ht;go_wp2_with fail
   go_ret
   unfold y0y;rw [R2'.out,HT.out];exact ⟨rfl,HR.out⟩
 ·rw [if_neg h1] at R1';have HR:Hid (MM ρ w2 p (MS.passFixed b1 x).1∧Fr (fun k=>1<=k∧k<=5) ρ w w2):=⟨g1,H1.out.fr.trans g2⟩
  obtain ⟨t,ht⟩:∃ t,t=(MS.passFixed b1 x).2:=⟨_,rfl⟩
  have HT:Hid ((MS.passFixed b1 x).2=t):=ht.symm;rw [← ht] at h1 ⊢;have h0':((t:Int)==0)=false:=by simp;exact h1
  clear g1 g2 ht;go_wp2_with fail
  go_ret
  unfold y0y;rw [R1'.out,HT.out];exact ⟨rfl,HR.out⟩
theorem z54{ρ:Nat->Nat}{w:World}{p:Nat}{x:MS}(h:MM ρ w p x)(hc:Hc x)(hst:x.st=0) :
  Calls Tryz.prog 100 #[.pointer (some ⟨p,0,none⟩)] w fun v w'=>y0y ρ w p (MS.h0 x) v w':=by
 have H0:Hid (Hw ρ w p x x w):=⟨h,hc,rfl,Fr.refl _ _ _⟩
 have c0:=h.cell0;have c7:=h.cell7.1;rw [hst] at c7;clear h hc hst;go_enter Tryz.func100,Tryz.ntmps100
 go_wp2_with fail
 refine (zgi x.fm w).mono ?_;rintro v w' ⟨rfl,rfl⟩;obtain ⟨b1,hb1⟩:∃ b,b=MS.first x.fm:=⟨_,rfl⟩
 obtain ⟨b2,hb2⟩:∃ b,b=MS.second x.fm:=⟨_,rfl⟩
 rw [← hb1,← hb2];have HB1:Hid (b1=MS.first x.fm):=hb1;have HB2:Hid (b2=MS.second x.fm):=hb2;clear hb1 hb2;go_wp2_with fail
 refine (vq9 H0.out.mm H0.out.hc.ok H0.out.hc.le).mono ?_;rintro v w1 ⟨rfl,g1,g2⟩;have R0':Hid (MS.h0 x=if (x.beginMember).2=0 then MS.h1 { (x.beginMember).1 with st:=1 } else x.beginMember):=by
  show MS.h0 x=_;rfl
 by_cases h0:(x.beginMember).2=0
 ·rw [if_pos h0] at R0';have H1:Hid (Hw ρ w p x { (x.beginMember).1 with st:=1 } (w1.setCell ⟨p,7,none⟩ (.int .i64 (1:Nat)))):=H0.out.next g1 g2 (H0.out.hc.beginMember h0) 1;have k7:=g1.cell7;have k70:=k7.1;have k71:=k7.2;rw [h0];clear g1 g2 k7;obtain ⟨y1,hy⟩:∃ y:MS,y={ (x.beginMember).1 with st:=1 }:=⟨_,rfl⟩
  rw [← hy] at H1 R0';have R1:Hid (MS.h0 x=MS.h1 y1):=R0'.out;clear hy R0' H0;go_wp2_with fail
  have E1:Hid (b1=MS.first y1.fm):=by show b1=_;rw [H1.out.fm];exact HB1.out
  have C1:=zmn (MS.first y1.fm) H1.out.mm H1.out.hc.ok (Or.inl H1.out.hc.le) (zvt _);rw [← E1.out] at C1;refine C1.mono ?_;clear C1;rintro v w2 ⟨rfl,g1,g2⟩;have R1':Hid (MS.h0 x=if (MS.passFixed b1 y1).2=0 then MS.h2 { (MS.passFixed b1 y1).1 with st:=2 } else MS.passFixed b1 y1):=by
   show MS.h0 x=_;rw [R1.out];rw [E1.out];rfl
  clear R1;by_cases h1:(MS.passFixed b1 y1).2=0
  ·rw [if_pos h1] at R1';have H2:Hid (Hw ρ w p x { (MS.passFixed b1 y1).1 with st:=2 } (w2.setCell ⟨p,7,none⟩ (.int .i64 (2:Nat)))):=H1.out.next g1 g2 (H1.out.hc.passFixed h1) 2;have k7:=g1.cell7;have k70:=k7.1;have k71:=k7.2;rw [h1];clear g1 g2 k7;obtain ⟨y2,hy⟩:∃ y:MS,y={ (MS.passFixed b1 y1).1 with st:=2 }:=⟨_,rfl⟩
   rw [← hy] at H2 R1';have R2:Hid (MS.h0 x=MS.h2 y2):=R1'.out;clear hy R1' H1;go_wp2_with fail
   have E2:Hid (b2=MS.second y2.fm):=by show b2=_;rw [H2.out.fm];exact HB2.out
   have C2:=zmn (MS.second y2.fm) H2.out.mm H2.out.hc.ok (Or.inl H2.out.hc.le) (kph _);rw [← E2.out] at C2;refine C2.mono ?_;clear C2;rintro v w3 ⟨rfl,g1,g2⟩;have R2':Hid (MS.h0 x=if (MS.passFixed b2 y2).2=0 then MS.h3 { (MS.passFixed b2 y2).1 with st:=3 } else MS.passFixed b2 y2):=by
    show MS.h0 x=_;rw [R2.out];rw [E2.out];rfl
   clear R2;by_cases h2:(MS.passFixed b2 y2).2=0
   ·rw [if_pos h2] at R2';have H3:Hid (Hw ρ w p x { (MS.passFixed b2 y2).1 with st:=3 } (w3.setCell ⟨p,7,none⟩ (.int .i64 (3:Nat)))):=H2.out.next g1 g2 (H2.out.hc.passFixed h2) 3;have k7:=g1.cell7;have k70:=k7.1;have k71:=k7.2;rw [h2];clear g1 g2 k7;obtain ⟨y3,hy⟩:∃ y:MS,y={ (MS.passFixed b2 y2).1 with st:=3 }:=⟨_,rfl⟩
    rw [← hy] at H3 R2';have R3:Hid (MS.h0 x=MS.h3 y3):=R2'.out;clear hy R2' H2;go_wp2_with fail
    refine (xdp H3.out.mm H3.out.hc.ok (Or.inl H3.out.hc.le)).mono ?_;rintro v w4 ⟨rfl,g1,g2⟩;have R3':Hid (MS.h0 x=if (y3.passMarks).2=0 then MS.h4 { (y3.passMarks).1 with st:=4 } else y3.passMarks):=by
     show MS.h0 x=_;rw [R3.out];rfl
    clear R3;by_cases h3:(y3.passMarks).2=0
    ·rw [if_pos h3] at R3';have H4:Hid (Hw ρ w p x { (y3.passMarks).1 with st:=4 } (w4.setCell ⟨p,7,none⟩ (.int .i64 (4:Nat)))):=H3.out.next g1 g2 (H3.out.hc.passMarks h3) 4;have k7:=g1.cell7;have k70:=k7.1;have k71:=k7.2;rw [h3];clear g1 g2 k7;obtain ⟨y4,hy⟩:∃ y:MS,y={ (y3.passMarks).1 with st:=4 }:=⟨_,rfl⟩
     rw [← hy] at H4 R3';have R4:Hid (MS.h0 x=MS.h4 y4):=R3'.out;clear hy R3' H3;go_wp2_with fail
     refine (zvv 0 H4.out.mm H4.out.hc.ok (Or.inl H4.out.hc.le) (by omega)).mono ?_;rintro v w5 ⟨rfl,g1,g2⟩;have R4':Hid (MS.h0 x=if (MS.passText 1 y4).2=0 then MS.h5 { (MS.passText 1 y4).1 with st:=5 } else MS.passText 1 y4):=by
      show MS.h0 x=_;rw [R4.out];rfl
     clear R4;by_cases h4:(MS.passText 1 y4).2=0
     ·rw [if_pos h4] at R4';have H5:Hid (Hw ρ w p x { (MS.passText 1 y4).1 with st:=5 } (w5.setCell ⟨p,7,none⟩ (.int .i64 (5:Nat)))):=H4.out.next g1 g2 (H4.out.hc.passText h4) 5;have k7:=g1.cell7;have k70:=k7.1;have k71:=k7.2;rw [h4];clear g1 g2 k7;obtain ⟨y5,hy⟩:∃ y:MS,y={ (MS.passText 1 y4).1 with st:=5 }:=⟨_,rfl⟩
      rw [← hy] at H5 R4';have R5:Hid (MS.h0 x=MS.h5 y5):=R4'.out;clear hy R4' H4;go_wp2_with fail
      refine (zvv 1 H5.out.mm H5.out.hc.ok (Or.inl H5.out.hc.le) (by omega)).mono ?_;rintro v w6 ⟨rfl,g1,g2⟩;have R5':Hid (MS.h0 x=if (MS.passText 2 y5).2=0 then MS.h6 { (MS.passText 2 y5).1 with st:=6 } else MS.passText 2 y5):=by
       show MS.h0 x=_;rw [R5.out];rfl
      clear R5;by_cases h5:(MS.passText 2 y5).2=0
      ·rw [if_pos h5] at R5';have H6:Hid (Hw ρ w p x { (MS.passText 2 y5).1 with st:=6 } (w6.setCell ⟨p,7,none⟩ (.int .i64 (6:Nat)))):=H5.out.next g1 g2 (H5.out.hc.passText h5) 6;have k7:=g1.cell7;have k70:=k7.1;have k71:=k7.2;rw [h5];clear g1 g2 k7;obtain ⟨y6,hy⟩:∃ y:MS,y={ (MS.passText 2 y5).1 with st:=6 }:=⟨_,rfl⟩
       rw [← hy] at H6 R5';have R6:Hid (MS.h0 x=MS.h6 y6):=R5'.out;clear hy R5' H5;go_wp2_with fail
       refine (xj1 H6.out.mm H6.out.hc.ok (Or.inl H6.out.hc.le)).mono ?_;rintro v w7 ⟨rfl,g1,g2⟩;have R6':Hid (MS.h0 x=if (y6.passCheck).2=0 then ({ (y6.passCheck).1 with st:=7 },0) else y6.passCheck):=by
        show MS.h0 x=_;rw [R6.out];rfl
       clear R6;by_cases h6:(y6.passCheck).2=0
       ·rw [if_pos h6] at R6';have H7:Hid (Hw ρ w p x { (y6.passCheck).1 with st:=7 } (w7.setCell ⟨p,7,none⟩ (.int .i64 (7:Nat)))):=H6.out.next g1 g2 (H6.out.hc.passCheck h6) 7;have k7:=g1.cell7;have k70:=k7.1;have k71:=k7.2;rw [h6];clear g1 g2 k7;go_wp2_with fail
        go_ret
        unfold y0y;rw [R6'.out];exact ⟨rfl,H7.out.mm,H7.out.fr⟩
       ·rw [if_neg h6] at R6';have HR:Hid (MM ρ w7 p (y6.passCheck).1∧Fr (fun k=>1<=k∧k<=5) ρ w w7):=⟨g1,H6.out.fr.trans g2⟩
        obtain ⟨t,ht⟩:∃ t,t=(y6.passCheck).2:=⟨_,rfl⟩
        have HT:Hid ((y6.passCheck).2=t):=ht.symm;rw [← ht] at h6 ⊢;have h0':((t:Int)==0)=false:=by simp;exact h6
        clear g1 g2 ht;go_wp2_with fail
        go_ret
        unfold y0y;rw [R6'.out,HT.out];exact ⟨rfl,HR.out⟩
      ·rw [if_neg h5] at R5';have HR:Hid (MM ρ w6 p (MS.passText 2 y5).1∧Fr (fun k=>1<=k∧k<=5) ρ w w6):=⟨g1,H5.out.fr.trans g2⟩
       obtain ⟨t,ht⟩:∃ t,t=(MS.passText 2 y5).2:=⟨_,rfl⟩
       have HT:Hid ((MS.passText 2 y5).2=t):=ht.symm;rw [← ht] at h5 ⊢;have h0':((t:Int)==0)=false:=by simp;exact h5
       clear g1 g2 ht;go_wp2_with fail
       go_ret
       unfold y0y;rw [R5'.out,HT.out];exact ⟨rfl,HR.out⟩
     ·rw [if_neg h4] at R4';have HR:Hid (MM ρ w5 p (MS.passText 1 y4).1∧Fr (fun k=>1<=k∧k<=5) ρ w w5):=⟨g1,H4.out.fr.trans g2⟩
      obtain ⟨t,ht⟩:∃ t,t=(MS.passText 1 y4).2:=⟨_,rfl⟩
      have HT:Hid ((MS.passText 1 y4).2=t):=ht.symm;rw [← ht] at h4 ⊢;have h0':((t:Int)==0)=false:=by simp;exact h4
      clear g1 g2 ht;go_wp2_with fail
      go_ret
      unfold y0y;rw [R4'.out,HT.out];exact ⟨rfl,HR.out⟩
    ·rw [if_neg h3] at R3';have HR:Hid (MM ρ w4 p (y3.passMarks).1∧Fr (fun k=>1<=k∧k<=5) ρ w w4):=⟨g1,H3.out.fr.trans g2⟩
     obtain ⟨t,ht⟩:∃ t,t=(y3.passMarks).2:=⟨_,rfl⟩
     have HT:Hid ((y3.passMarks).2=t):=ht.symm;rw [← ht] at h3 ⊢;have h0':((t:Int)==0)=false:=by simp;exact h3
     clear g1 g2 ht;go_wp2_with fail
     go_ret
     unfold y0y;rw [R3'.out,HT.out];exact ⟨rfl,HR.out⟩
   ·rw [if_neg h2] at R2';have HR:Hid (MM ρ w3 p (MS.passFixed b2 y2).1∧Fr (fun k=>1<=k∧k<=5) ρ w w3):=⟨g1,H2.out.fr.trans g2⟩
    obtain ⟨t,ht⟩:∃ t,t=(MS.passFixed b2 y2).2:=⟨_,rfl⟩
    have HT:Hid ((MS.passFixed b2 y2).2=t):=ht.symm;rw [← ht] at h2 ⊢;have h0':((t:Int)==0)=false:=by simp;exact h2
    clear g1 g2 ht;go_wp2_with fail
    go_ret
    unfold y0y;rw [R2'.out,HT.out];exact ⟨rfl,HR.out⟩
  ·rw [if_neg h1] at R1';have HR:Hid (MM ρ w2 p (MS.passFixed b1 y1).1∧Fr (fun k=>1<=k∧k<=5) ρ w w2):=⟨g1,H1.out.fr.trans g2⟩
   obtain ⟨t,ht⟩:∃ t,t=(MS.passFixed b1 y1).2:=⟨_,rfl⟩
   have HT:Hid ((MS.passFixed b1 y1).2=t):=ht.symm;rw [← ht] at h1 ⊢;have h0':((t:Int)==0)=false:=by simp;exact h1
   clear g1 g2 ht;go_wp2_with fail
   go_ret
   unfold y0y;rw [R1'.out,HT.out];exact ⟨rfl,HR.out⟩
 ·rw [if_neg h0] at R0';have HR:Hid (MM ρ w1 p (x.beginMember).1∧Fr (fun k=>1<=k∧k<=5) ρ w w1):=⟨g1,H0.out.fr.trans g2⟩
  obtain ⟨t,ht⟩:∃ t,t=(x.beginMember).2:=⟨_,rfl⟩
  have HT:Hid ((x.beginMember).2=t):=ht.symm;rw [← ht] at h0 ⊢;have h0':((t:Int)==0)=false:=by simp;exact h0
  clear g1 g2 ht;go_wp2_with fail
  go_ret
  unfold y0y;rw [R0'.out,HT.out];exact ⟨rfl,HR.out⟩
theorem z45{ρ:Nat->Nat}{w:World}{p:Nat}{x:MS}(h:MM ρ w p x)(ok:Ok x)(hx:x.count<=63) :
  Calls Tryz.prog 135 #[.pointer (some ⟨p,0,none⟩)] w fun v w'=>y0y ρ w p x.skipBits v w':=by
 have HM:Hid (MM ρ w p x∧Ok x):=⟨h,ok⟩
 have HE:Hid (x.skipBits=if x.num x.count=0 then (x.rd x.count,0) else (x.rd x.count).refuse 8):=rfl;have c15:=h.cell15;clear h ok;have HRD:Hid (∀ n,Calls Tryz.prog 134 #[.pointer (some ⟨p,14,none⟩), .int .i64 x.count] (w.drewN n) fun v w'=>v= .returned (.int .i64 (x.num x.count))∧MM ρ w' p (x.rd x.count)∧Fr (fun k=>1<=k∧k<=5) ρ (w.drewN n) w'):=fun n=>zw3 x.count (HM.out.1.drewN n) HM.out.2 (Nat.le_refl _) hx
 obtain ⟨m,hm⟩:∃ m,m=x.num x.count:=⟨_,rfl⟩
 rw [← hm] at HE HRD;clear hm;go_enter Tryz.func135,Tryz.ntmps135
 by_cases h0:m=0
 ·rw [if_pos h0] at HE;subst h0;go_wp2_with fail
  go_region_with (go_at_call 134;refine (HRD.out 1).mono ?_;rintro e w2 ⟨rfl,g1,g2⟩;have HR:Hid (MM ρ w2 p (x.rd x.count)∧Fr (fun k=>1<=k∧k<=5) ρ w w2):=⟨g1,((Fr.refl _ _ _).drewN 1).trans g2⟩;clear g1 g2)
  all_goals
   go_wp2_with fail
   go_ret
   unfold y0y;rw [HE.out];exact ⟨rfl,HR.out⟩
 ·rw [if_neg h0] at HE;have h0':((m:Int)==0)=false:=by simp;exact h0
  go_wp2_with fail
  go_region_with (go_at_call 134;refine (HRD.out 1).mono ?_;rintro e w2 ⟨rfl,g1,g2⟩;have HR:Hid (MM ρ w2 p (x.rd x.count)∧Fr (fun k=>1<=k∧k<=5) ρ w w2):=⟨g1,((Fr.refl _ _ _).drewN 1).trans g2⟩;clear g1 g2)
  all_goals
   go_wp2_with fail
   refine (kv8 8 HR.out.1).mono ?_;rintro v w3 ⟨rfl,g3,g4⟩;have HR2:Hid (MM ρ w3 p ((x.rd x.count).refuse 8).1∧Fr (fun k=>1<=k∧k<=5) ρ w w3):=⟨g3,HR.out.2.trans g4⟩
   clear g3 g4;go_wp2_with fail
   go_ret
   unfold y0y;rw [HE.out];exact ⟨rfl,HR2.out⟩
theorem kbz{ρ:Nat->Nat}{w:World}{p:Nat}{x:MS}(h:MM ρ w p x)(ok:Ok x)(hx:x.count<=63) :
  Calls Tryz.prog 138 #[.pointer (some ⟨p,0,none⟩)] w fun v w'=>y0y ρ w p x.endBlock v w':=by
 have HM:Hid (MM ρ w p x∧Ok x):=⟨h,ok⟩
 have HEf:x.last=false->x.endBlock=({ x with st:=7 },0):=fun h=>by unfold MS.endBlock;rw [if_neg (by rw [h];decide)]
 have HEt:x.last=true->x.endBlock=MS.skipBits { x with st:=22 }:=fun h=>by unfold MS.endBlock;rw [if_pos h]
 have c24:w.cell? ⟨p,24,none⟩=some (.bool x.last):=by obtain ⟨L,B,T⟩:=h;exact B.row.cell (i:=24) (by omega)
 have c7:=h.cell7.1;have z7:=h.cell7.2;clear h ok;have H7:Hid (MM ρ (w.setCell ⟨p,7,none⟩ (.int .i64 7)) p { x with st:=7 }∧Fr (fun k=>1<=k∧k<=5) ρ w (w.setCell ⟨p,7,none⟩ (.int .i64 7))):=HM.out.1.st 7;have H22:Hid (MM ρ (w.setCell ⟨p,7,none⟩ (.int .i64 22)) p { x with st:=22 }∧Fr (fun k=>1<=k∧k<=5) ρ w (w.setCell ⟨p,7,none⟩ (.int .i64 22))):=HM.out.1.st 22;go_enter Tryz.func138,Tryz.ntmps138
 cases hla:x.last with
 | false=>
  have HE2:Hid (x.endBlock=({ x with st:=7 },0)):=HEf hla;rw [hla] at c24;clear HEf HEt hla;go_wp2_with fail
  go_ret
  unfold y0y;rw [HE2.out];exact ⟨rfl,H7.out⟩
 | true=>
  have HE2:Hid (x.endBlock=MS.skipBits { x with st:=22 }):=HEt hla;rw [hla] at c24;clear HEf HEt hla;go_wp2_with fail
  refine (z45 H22.out.1 (HM.out.2.st 22) hx).mono ?_;rintro v w1 ⟨rfl,g1,g2⟩;have HR:Hid (MM ρ w1 p (MS.skipBits { x with st:=22 }).1∧Fr (fun k=>1<=k∧k<=5) ρ w w1):=⟨g1,H22.out.2.trans g2⟩
  clear g1 g2;obtain ⟨r,hr⟩:∃ r,r=MS.skipBits { x with st:=22 }:=⟨_,rfl⟩
  rw [← hr] at HR HE2 ⊢;clear hr;go_wp2_with fail
  go_ret
  unfold y0y;rw [HE2.out];exact ⟨rfl,HR.out⟩
theorem MS.rd_rd(x:MS)(a b:Nat):(x.rd a).rd b=x.rd (a+b):=by
 unfold MS.rd;rw [show (x.held / 2^a) / 2^b=x.held / 2^(a+b) by rw [Nat.div_div_eq_div_mul,← Nat.pow_add],show x.count - a - b=x.count - (a+b) by omega]
theorem jhs{ρ:Nat->Nat}{w:World}{p:Nat}{x:MS}(h:MM ρ w p x)(ok:Ok x)(hx:x.count<=32) :
  Calls Tryz.prog 146 #[.pointer (some ⟨p,0,none⟩)] w fun v w'=>y0y ρ w p x.passSize v w':=by
 have HM:Hid (MM ρ w p x∧Ok x):=⟨h,ok⟩
 have HE:Hid (x.passSize=if x.fm=2 then (if (MS.need 16 x).2=0 then (if (MS.need 16 x).1.num 16=(MS.need 16 x).1.size then ((MS.need 16 x).1.rd 16,0) else ((MS.need 16 x).1.rd 16).refuse 13) else MS.need 16 x) else (x,0)):=rfl;have c0:=h.cell0;clear h ok;go_enter Tryz.func146,Tryz.ntmps146
 by_cases h2:x.fm=2
 ·rw [if_pos h2] at HE;have hd:((x.fm:Int)==2)=true:=by simp;omega
  clear h2;go_wp2_with fail
  refine (zvo 16 HM.out.1 HM.out.2 (by omega) (by omega)).mono ?_;rintro v w1 ⟨rfl,g1,g2⟩;by_cases h0:(MS.need 16 x).2=0
  ·have k1:=MS.need_cnt HM.out.2 h0;have k3:=MS.need_ok (k:=16) HM.out.2;rw [h0];rw [if_pos h0] at HE;obtain ⟨y,hy⟩:∃ y,y=(MS.need 16 x).1:=⟨_,rfl⟩
   rw [← hy] at g1 HE k1 k3;have HY:Hid (MM ρ w1 p y∧Ok y∧Fr (fun k=>1<=k∧k<=5) ρ w w1):=⟨g1,k3,g2⟩
   have hsz:=k3.size;have c23:w1.cell? ⟨p,23,none⟩=some (.int .u16 y.size):=by obtain ⟨L,B,T⟩:=g1;exact B.row.cell (i:=23) (by omega)
   clear g1 g2 hy k3 h0;have HRD:Hid (∀ n,Calls Tryz.prog 134 #[.pointer (some ⟨p,14,none⟩), .int .i64 (16:Nat)] (w1.drewN n) fun v w'=>v= .returned (.int .i64 (y.num 16))∧MM ρ w' p (y.rd 16)∧Fr (fun k=>1<=k∧k<=5) ρ (w1.drewN n) w'):=fun n=>zw3 16 (HY.out.1.drewN n) HY.out.2.1 k1.1 (by omega)
   have HS:Hid (∀ w',MM ρ w' p (y.rd 16)->w'.cell? ⟨p,23,none⟩=some (.int .u16 y.size)):=fun w' m=>by obtain ⟨L,B,T⟩:=m;exact B.row.cell (i:=23) (by omega)
   have hni:y.num 16<65536:=Nat.mod_lt _ (by decide);obtain ⟨m,hm⟩:∃ m,m=y.num 16:=⟨_,rfl⟩
   rw [← hm] at HE HRD hni;clear hm;have hws:IntKind.i64.wrap (y.size:Int)=(y.size:Int):=by rw [IntWalk.i64_left,IntWalk.wrap64_in _ ⟨by omega,by omega⟩]
   by_cases he:m=y.size
   ·rw [if_pos he] at HE;have hed:((m:Int) !=IntKind.i64.wrap (y.size:Int))=false:=by rw [hws];simp [he]
    clear he;go_wp2_with fail
    go_region_held3 (fun wv=>wv.cell? ⟨p,23,none⟩=some (.int .u16 y.size)) (first | exact c23 | exact d23) (first | (go_at_call 134;refine (HRD.out 1).mono ?_;rintro e w2 ⟨rfl,g1,g2⟩;have HR:Hid (MM ρ w2 p (y.rd 16)∧Fr (fun k=>1<=k∧k<=5) ρ w w2):=⟨g1,(HY.out.2.2.drewN 1).trans g2⟩;have d23:=HS.out _ g1;clear g1 g2))
    all_goals
     go_wp2_with fail
     go_ret
     unfold y0y;rw [HE.out];exact ⟨rfl,HR.out⟩
   ·rw [if_neg he] at HE;have hed:((m:Int) !=IntKind.i64.wrap (y.size:Int))=true:=by rw [hws];simp;omega
    clear he;go_wp2_with fail
    go_region_held3 (fun wv=>wv.cell? ⟨p,23,none⟩=some (.int .u16 y.size)) (first | exact c23 | exact d23) (first | (go_at_call 134;refine (HRD.out 1).mono ?_;rintro e w2 ⟨rfl,g1,g2⟩;have HR:Hid (MM ρ w2 p (y.rd 16)∧Fr (fun k=>1<=k∧k<=5) ρ w w2):=⟨g1,(HY.out.2.2.drewN 1).trans g2⟩;have d23:=HS.out _ g1;clear g1 g2))
    all_goals
     go_wp2_with fail
     refine (kv8 13 HR.out.1).mono ?_;rintro v w3 ⟨rfl,g3,g4⟩;have HR2:Hid (MM ρ w3 p ((y.rd 16).refuse 13).1∧Fr (fun k=>1<=k∧k<=5) ρ w w3):=⟨g3,HR.out.2.trans g4⟩
     clear g3 g4;go_wp2_with fail
     go_ret
     unfold y0y;rw [HE.out];exact ⟨rfl,HR2.out⟩
  ·rw [if_neg h0] at HE;obtain ⟨t,ht⟩:∃ t,t=(MS.need 16 x).2:=⟨_,rfl⟩
   have HR:Hid (MM ρ w1 p (MS.need 16 x).1∧Fr (fun k=>1<=k∧k<=5) ρ w w1∧(MS.need 16 x).2=t):=⟨g1,g2,ht.symm⟩
   rw [← ht] at h0 ⊢;have h0':((t:Int)==0)=false:=by simp;exact h0
   clear g1 g2 ht;go_wp2_with fail
   go_ret
   unfold y0y;rw [HE.out,HR.out.2.2];exact ⟨rfl,HR.out.1,HR.out.2.1⟩
 ·rw [if_neg h2] at HE;have hd:((x.fm:Int)==2)=false:=by simp;omega
  clear h2;go_wp2_with fail
  go_ret
  unfold y0y;rw [HE.out];exact ⟨rfl,HM.out.1,Fr.refl _ _ _⟩
def zji(h:Nat):Nat->Nat
 | 0=>0
 | k+1=>256*zji h k+h / 2^(8*k)%256
theorem jtg(h k:Nat):zji h k<256^k:=by
 induction k with
 | zero=>simp [zji]
 | succ k ih=>rw [zji,Nat.pow_succ];have:=Nat.mod_lt (h / 2^(8*k)) (show 0<256 by decide);omega
theorem ydi(h:Nat):zji h 4=big4 h:=by
 simp only [zji,big4];simp
theorem veq(n:Int)(h₀:0<=n)(h₁:n<2^62):IntKind.i64.wrap n=n:=by
 have:(2:Int)^62=4611686018427387904:=by decide
 rw [IntWalk.i64_left,IntWalk.wrap64_in _ ⟨by omega,by omega⟩]
theorem zr4(T b:Nat)(hT:T<16777216)(hb:b<256):bits .or .i64 ((T:Int)*256) (b:Int)=((256*T+b:Nat):Int):=by
 have h1:(2:Int)^62=4611686018427387904:=by decide
 have h2:(2:Int)^8=256:=by decide
 rw [bits_join .i64 62 (by decide) veq 8 ((T:Int)*256) (b:Int) (by omega) (by rw [h2];omega) (by omega) (by omega) (by rw [h2];omega) (by omega)];omega
theorem MM.two{ρ:Nat->Nat}{w:World}{p:Nat}{x:MS}(h:MM ρ w p x):w.cell? ⟨p,21,none⟩=some (.int .i64 x.sx)∧w.cell? ⟨p,22,none⟩=some (.int .i64 x.sy):=by
 obtain ⟨L,B,T⟩:=h;exact ⟨B.row.cell (i:=21) (by omega),B.row.cell (i:=22) (by omega)⟩
theorem ycd{ρ:Nat->Nat}{w:World}{p:Nat}{x:MS}(h:MM ρ w p x)(ok:Ok x)(hx:x.count<=32) :
  Calls Tryz.prog 145 #[.pointer (some ⟨p,0,none⟩)] w fun v w'=>y0y ρ w p x.passSum v w':=by
 have HM:Hid (MM ρ w p x∧Ok x):=⟨h,ok⟩
 have HE:Hid (x.passSum=if x.fm=0 then (x,0) else (if (MS.need 32 x).2=0 then (if big4 (MS.need 32 x).1.held=65536*(MS.need 32 x).1.sy+(MS.need 32 x).1.sx then ((MS.need 32 x).1.rd 32,0) else ((MS.need 32 x).1.rd 32).refuse 12) else MS.need 32 x)):=rfl;have c0:=h.cell0;clear h ok;go_enter Tryz.func145,Tryz.ntmps145
 by_cases h2:x.fm=0
 ·rw [if_pos h2] at HE;have hd:((x.fm:Int)==0)=true:=by simp [h2]
  clear h2;go_wp2_with fail
  go_ret
  unfold y0y;rw [HE.out];exact ⟨rfl,HM.out.1,Fr.refl _ _ _⟩
 ·rw [if_neg h2] at HE;have hd:((x.fm:Int)==0)=false:=by simp;exact h2
  clear h2;go_wp2_with fail
  refine (zvo 32 HM.out.1 HM.out.2 (by omega) (by omega)).mono ?_;rintro v w1 ⟨rfl,g1,g2⟩;by_cases h0:(MS.need 32 x).2=0
  ·have k1:=MS.need_cnt HM.out.2 h0;have k3:=MS.need_ok (k:=32) HM.out.2;rw [h0];rw [if_pos h0] at HE;obtain ⟨y,hy⟩:∃ y,y=(MS.need 32 x).1:=⟨_,rfl⟩
   rw [← hy] at g1 HE k1 k3;have hs:=k3.sum;have H0:Hid (MM ρ w1 p (y.rd (8*0))∧Ok (y.rd (8*0))∧Fr (fun k=>1<=k∧k<=5) ρ w w1):=by
    have e:y.rd (8*0)=y:=by unfold MS.rd;simp
    show _∧_∧_;rw [e];exact ⟨g1,k3,g2⟩
   clear g1 g2 hy h0 k3;go_wp2_with fail
   go_loopw [4,16] (fun t i wr=>∃ k:Nat,k<=4∧i= .int .i64 k∧t= .int .i64 (zji y.held k)∧Hid (MM ρ wr p (y.rd (8*k))∧Ok (y.rd (8*k))∧Fr (fun k=>1<=k∧k<=5) ρ w wr)) (fun _ i _=>4 - (intOf i).toNat)
   case atStart=>exact ⟨0,by omega,rfl,rfl,H0⟩
   case round=>
    clear H0;obtain ⟨k,hk,rfl,rfl,HK⟩:=hrel;by_cases hlt:k<4
    ·have hT:zji y.held k<16777216:=Nat.lt_of_lt_of_le (jtg y.held k) (by
      have:256^k<=256^3:=Nat.pow_le_pow_right (by decide) (by omega);simpa using this)
     have hcnt:8<=(y.rd (8*k)).count∧(y.rd (8*k)).count<=63:=by
      show 8<=y.count - 8*k∧y.count - 8*k<=63;omega
     have hb:(y.rd (8*k)).num 8<256:=Nat.mod_lt _ (by decide);have HOR:Hid (bits .or .i64 ((zji y.held k:Int)*256) ((y.rd (8*k)).num 8:Int)=((zji y.held (k+1):Nat):Int)):=zr4 _ _ hT hb;have HRR:Hid ((y.rd (8*k)).rd 8=y.rd (8*(k+1))):=MS.rd_rd y (8*k) 8;have HRD:Hid (Calls Tryz.prog 134 #[.pointer (some ⟨p,14,none⟩), .int .i64 (8:Nat)] wr fun v w'=>v= .returned (.int .i64 ((y.rd (8*k)).num 8))∧MM ρ w' p ((y.rd (8*k)).rd 8)∧Fr (fun k=>1<=k∧k<=5) ρ wr w'):=zw3 8 HK.out.1 HK.out.2.1 hcnt.1 hcnt.2;have HOK:Hid (Ok (y.rd (8*(k+1)))):=by show Ok _;rw [← HRR.out];exact HK.out.2.1.rd hcnt.1
     rw [HRR.out] at HRD;obtain ⟨T,hT'⟩:∃ T,T=zji y.held k:=⟨_,rfl⟩
     obtain ⟨b,hb'⟩:∃ b,b=(y.rd (8*k)).num 8:=⟨_,rfl⟩
     rw [← hT'] at hT HOR ⊢;rw [← hb'] at hb HOR HRD;clear hT' hb' hcnt;go_wp2_with fail
     refine HRD.out.mono ?_;rintro v w2 ⟨rfl,g3,g4⟩;have HN:Hid (MM ρ w2 p (y.rd (8*(k+1)))∧Ok (y.rd (8*(k+1)))∧Fr (fun k=>1<=k∧k<=5) ρ w w2):=⟨g3,HOK.out,HK.out.2.2.trans g4⟩
     clear g3 g4;go_wp2_with fail
     go_roundw
     case rel=>exact ⟨k+1,by omega,by go_num,by rw [← HOR.out],HN⟩
     case measure=>simp [intOf];omega
    ·obtain rfl:k=4:=by omega
     have HE2:Hid (x.passSum=if zji y.held 4=65536*y.sy+y.sx then (y.rd (8*4),0) else (y.rd (8*4)).refuse 12):=by show _=_;rw [ydi];exact HE.out
     have c21:wr.cell? ⟨p,21,none⟩=some (.int .i64 y.sx):=HK.out.1.two.1;have c22:wr.cell? ⟨p,22,none⟩=some (.int .i64 y.sy):=HK.out.1.two.2;have HSN:Hid (Calls Tryz.prog 112 #[.agg #[.int .i64 y.sx, .int .i64 y.sy]] wr fun e w'=>e= .returned (.int .i64 (65536*(y.sy:Int)+y.sx))∧Below wr.heap.size wr w'):=zf1 y.sx y.sy wr (by omega) (by omega);obtain ⟨z,hz⟩:∃ z,z=y.rd (8*4):=⟨_,rfl⟩
     rw [← hz] at HE2 HK;clear hz HE;obtain ⟨T,hT'⟩:∃ T,T=zji y.held 4:=⟨_,rfl⟩
     rw [← hT'] at HE2 ⊢;clear hT';by_cases he:T=65536*y.sy+y.sx
     ·rw [if_pos he] at HE2;have hed:((T:Int)==65536*(y.sy:Int)+y.sx)=true:=by simp;omega
      clear he;go_wp2_with fail
      refine HSN.out.mono ?_;rintro v w3 ⟨rfl,b3⟩;have HR:Hid (MM ρ w3 p z∧Fr (fun k=>1<=k∧k<=5) ρ w w3):=⟨HK.out.1.below b3,HK.out.2.2.trans (Fr.below b3)⟩
      clear b3;go_wp2_with fail
      go_ret
      unfold y0y;rw [HE2.out];exact ⟨rfl,HR.out⟩
     ·rw [if_neg he] at HE2;have hed:((T:Int)==65536*(y.sy:Int)+y.sx)=false:=by simp;omega
      clear he;go_wp2_with fail
      refine HSN.out.mono ?_;rintro v w3 ⟨rfl,b3⟩;have HR:Hid (MM ρ w3 p z∧Fr (fun k=>1<=k∧k<=5) ρ w w3):=⟨HK.out.1.below b3,HK.out.2.2.trans (Fr.below b3)⟩
      clear b3;go_wp2_with fail
      refine (kv8 12 HR.out.1).mono ?_;rintro v w4 ⟨rfl,g3,g4⟩;have HR2:Hid (MM ρ w4 p (z.refuse 12).1∧Fr (fun k=>1<=k∧k<=5) ρ w w4):=⟨g3,HR.out.2.trans g4⟩
      clear g3 g4;go_wp2_with fail
      go_ret
      unfold y0y;rw [HE2.out];exact ⟨rfl,HR2.out⟩
  ·rw [if_neg h0] at HE;obtain ⟨t,ht⟩:∃ t,t=(MS.need 32 x).2:=⟨_,rfl⟩
   have HR:Hid (MM ρ w1 p (MS.need 32 x).1∧Fr (fun k=>1<=k∧k<=5) ρ w w1∧(MS.need 32 x).2=t):=⟨g1,g2,ht.symm⟩
   rw [← ht] at h0 ⊢;have h0':((t:Int)==0)=false:=by simp;exact h0
   clear g1 g2 ht;go_wp2_with fail
   go_ret
   unfold y0y;rw [HE.out,HR.out.2.2];exact ⟨rfl,HR.out.1,HR.out.2.1⟩
theorem z0q{ρ:Nat->Nat}{w:World}{p:Nat}{x:MS}(h:MM ρ w p x)(ok:Ok x)(hx:x.count<=32)(hst:x.st=24) :
  Calls Tryz.prog 105 #[.pointer (some ⟨p,0,none⟩)] w fun v w'=>y0y ρ w p x.e24 v w':=by
 have HM:Hid (MM ρ w p x∧Ok x):=⟨h,ok⟩
 have HE:Hid (x.e24=if (MS.need 8 x).2=0 then (if (MS.need 8 x).1.fm=2 then ({ (MS.need 8 x).1 with st:=0 },0) else (MS.need 8 x).1.refuse 14) else MS.need 8 x):=rfl;have c7:=h.cell7.1;rw [hst] at c7;clear h ok hst;go_enter Tryz.func105,Tryz.ntmps105
 go_wp2_with fail
 refine (zvo 8 HM.out.1 HM.out.2 (by omega) (by omega)).mono ?_;rintro v w1 ⟨rfl,g1,g2⟩;by_cases h0:(MS.need 8 x).2=0
 ·rw [h0];rw [if_pos h0] at HE;obtain ⟨y,hy⟩:∃ y,y=(MS.need 8 x).1:=⟨_,rfl⟩
  rw [← hy] at g1 HE;have HY:Hid (MM ρ w1 p y∧Fr (fun k=>1<=k∧k<=5) ρ w w1):=⟨g1,g2⟩
  have c0:=g1.cell0;have k7:=g1.cell7.1;have z7:=g1.cell7.2;clear g1 g2 hy h0;by_cases h2:y.fm=2
  ·rw [if_pos h2] at HE;have hd:((y.fm:Int)==2)=true:=by simp;omega
   have H0:Hid (MM ρ (w1.setCell ⟨p,7,none⟩ (.int .i64 0)) p { y with st:=0 }∧Fr (fun k=>1<=k∧k<=5) ρ w1 (w1.setCell ⟨p,7,none⟩ (.int .i64 0))):=HY.out.1.st 0;clear h2;go_wp2_with fail
   go_ret
   unfold y0y;rw [HE.out];exact ⟨rfl,H0.out.1,HY.out.2.trans H0.out.2⟩
  ·rw [if_neg h2] at HE;have hd:((y.fm:Int)==2)=false:=by simp;omega
   clear h2;go_wp2_with fail
   refine (kv8 14 HY.out.1).mono ?_;rintro v w4 ⟨rfl,g3,g4⟩;have HR2:Hid (MM ρ w4 p (y.refuse 14).1∧Fr (fun k=>1<=k∧k<=5) ρ w w4):=⟨g3,HY.out.2.trans g4⟩
   clear g3 g4;go_wp2_with fail
   go_ret
   unfold y0y;rw [HE.out];exact ⟨rfl,HR2.out⟩
 ·rw [if_neg h0] at HE;obtain ⟨t,ht⟩:∃ t,t=(MS.need 8 x).2:=⟨_,rfl⟩
  have HR:Hid (MM ρ w1 p (MS.need 8 x).1∧Fr (fun k=>1<=k∧k<=5) ρ w w1∧(MS.need 8 x).2=t):=⟨g1,g2,ht.symm⟩
  rw [← ht] at h0 ⊢;have h0':((t:Int)==0)=false:=by simp;exact h0
  clear g1 g2 ht;go_wp2_with fail
  go_ret
  unfold y0y;rw [HE.out,HR.out.2.2];exact ⟨rfl,HR.out.1,HR.out.2.1⟩
theorem MS.passSize_facts{x:MS}(ok:Ok x)(hx:x.count<=32)(h0:x.passSize.2=0):Ok x.passSize.1∧x.passSize.1.count<=32:=by
 have e:x.passSize=if x.fm=2 then (if (MS.need 16 x).2=0 then (if (MS.need 16 x).1.num 16=(MS.need 16 x).1.size then ((MS.need 16 x).1.rd 16,0) else ((MS.need 16 x).1.rd 16).refuse 13) else MS.need 16 x) else (x,0):=rfl;rw [e] at h0 ⊢;by_cases h2:x.fm=2
 ·rw [if_pos h2] at h0 ⊢;by_cases hn:(MS.need 16 x).2=0
  ·rw [if_pos hn] at h0 ⊢;by_cases he:(MS.need 16 x).1.num 16=(MS.need 16 x).1.size
   ·rw [if_pos he];have k:=MS.need_cnt ok hn;refine ⟨(MS.need_ok ok).rd k.1,?_⟩;show (MS.need 16 x).1.count - 16<=32;omega
   ·rw [if_neg he] at h0;cases h0
  ·rw [if_neg hn] at h0;exact absurd h0 hn
 ·rw [if_neg h2];exact ⟨ok,hx⟩
theorem MS.passSum_facts{x:MS}(ok:Ok x)(hx:x.count<=32)(h0:x.passSum.2=0):Ok x.passSum.1∧x.passSum.1.count<=32:=by
 have e:x.passSum=if x.fm=0 then (x,0) else (if (MS.need 32 x).2=0 then (if big4 (MS.need 32 x).1.held=65536*(MS.need 32 x).1.sy+(MS.need 32 x).1.sx then ((MS.need 32 x).1.rd 32,0) else ((MS.need 32 x).1.rd 32).refuse 12) else MS.need 32 x):=rfl;rw [e] at h0 ⊢;by_cases h2:x.fm=0
 ·rw [if_pos h2];exact ⟨ok,hx⟩
 ·rw [if_neg h2] at h0 ⊢;by_cases hn:(MS.need 32 x).2=0
  ·rw [if_pos hn] at h0 ⊢;by_cases he:big4 (MS.need 32 x).1.held=65536*(MS.need 32 x).1.sy+(MS.need 32 x).1.sx
   ·rw [if_pos he];have k:=MS.need_cnt ok hn;refine ⟨(MS.need_ok ok).rd k.1,?_⟩;show (MS.need 32 x).1.count - 32<=32;omega
   ·rw [if_neg he] at h0;cases h0
  ·rw [if_neg hn] at h0;exact absurd h0 hn
theorem j0c{ρ:Nat->Nat}{w:World}{p:Nat}{x:MS}(h:MM ρ w p x)(ok:Ok x)(hx:x.count<=32)(hst:x.st=23) :
  Calls Tryz.prog 105 #[.pointer (some ⟨p,0,none⟩)] w fun v w'=>y0y ρ w p x.e23 v w':=by
 have H23:Hid (MM ρ w p x∧Ok x∧x.count<=32∧Fr (fun k=>1<=k∧k<=5) ρ w w):=⟨h,ok,hx,Fr.refl _ _ _⟩
 have R:Hid (x.e23=MS.andThen x.passSize fun y=>MS.e24 { y with st:=24 }):=rfl;have c7:=h.cell7.1;rw [hst] at c7;clear h ok hst;go_enter Tryz.func105,Tryz.ntmps105
 go_wp2_with fail
 refine (jhs H23.out.1 H23.out.2.1 H23.out.2.2.1).mono ?_;rintro v wb ⟨rfl,g1,g2⟩;have R':Hid (x.e23=if (x.passSize).2=0 then MS.e24 { (x.passSize).1 with st:=24 } else x.passSize):=R.out;by_cases h0:(x.passSize).2=0
 ·rw [if_pos h0] at R';have k7:=g1.cell7.1;have z7:=g1.cell7.2;have F:=MS.passSize_facts H23.out.2.1 H23.out.2.2.1 h0;have H24:Hid (MM ρ (wb.setCell ⟨p,7,none⟩ (.int .i64 (24:Nat))) p { (x.passSize).1 with st:=24 }∧Ok { (x.passSize).1 with st:=24 }∧(x.passSize).1.count<=32∧Fr (fun k=>1<=k∧k<=5) ρ w (wb.setCell ⟨p,7,none⟩ (.int .i64 (24:Nat)))):=⟨(g1.st 24).1,F.1.st 24,F.2,(H23.out.2.2.2.trans g2).trans (g1.st 24).2⟩
  rw [h0];obtain ⟨x24,hx24⟩:∃ q:MS,q={ (x.passSize).1 with st:=24 }:=⟨_,rfl⟩
  have hcx:x24.count=(x.passSize).1.count:=by rw [hx24]
  rw [← hcx,← hx24] at H24;rw [← hx24] at R';clear g1 g2 R F hx24 hcx h0;have R:Hid (x.e23=MS.e24 x24):=R'.out;clear R';go_wp2_with fail
  refine (zvo 8 H24.out.1 H24.out.2.1 (by omega) (by have:=H24.out.2.2.1;omega)).mono ?_;rintro v wc ⟨rfl,g1,g2⟩;have HE:Hid (x.e23=if (MS.need 8 x24).2=0 then (if (MS.need 8 x24).1.fm=2 then ({ (MS.need 8 x24).1 with st:=0 },0) else (MS.need 8 x24).1.refuse 14) else MS.need 8 x24):=R.out;by_cases h0:(MS.need 8 x24).2=0
  ·rw [h0];rw [if_pos h0] at HE;obtain ⟨y,hy⟩:∃ y,y=(MS.need 8 x24).1:=⟨_,rfl⟩
   rw [← hy] at g1 HE;have HY:Hid (MM ρ wc p y∧Fr (fun k=>1<=k∧k<=5) ρ w wc):=⟨g1,H24.out.2.2.2.trans g2⟩
   have c0':=g1.cell0;have k7':=g1.cell7.1;have z7':=g1.cell7.2;clear g1 g2 hy h0;by_cases h2:y.fm=2
   ·rw [if_pos h2] at HE;have hd:((y.fm:Int)==2)=true:=by simp;omega
    have H0:Hid (MM ρ (wc.setCell ⟨p,7,none⟩ (.int .i64 0)) p { y with st:=0 }∧Fr (fun k=>1<=k∧k<=5) ρ wc (wc.setCell ⟨p,7,none⟩ (.int .i64 0))):=HY.out.1.st 0;clear h2;go_wp2_with fail
    go_ret
    unfold y0y;rw [HE.out];exact ⟨rfl,H0.out.1,HY.out.2.trans H0.out.2⟩
   ·rw [if_neg h2] at HE;have hd:((y.fm:Int)==2)=false:=by simp;omega
    clear h2;go_wp2_with fail
    refine (kv8 14 HY.out.1).mono ?_;rintro v w4 ⟨rfl,g3,g4⟩;have HR2:Hid (MM ρ w4 p (y.refuse 14).1∧Fr (fun k=>1<=k∧k<=5) ρ w w4):=⟨g3,HY.out.2.trans g4⟩
    clear g3 g4;go_wp2_with fail
    go_ret
    unfold y0y;rw [HE.out];exact ⟨rfl,HR2.out⟩
  ·rw [if_neg h0] at HE;obtain ⟨t,ht⟩:∃ t,t=(MS.need 8 x24).2:=⟨_,rfl⟩
   have HR:Hid (MM ρ wc p (MS.need 8 x24).1∧Fr (fun k=>1<=k∧k<=5) ρ w wc∧(MS.need 8 x24).2=t):=⟨g1,H24.out.2.2.2.trans g2,ht.symm⟩
   rw [← ht] at h0 ⊢;have h0':((t:Int)==0)=false:=by simp;exact h0
   clear g1 g2 ht;go_wp2_with fail
   go_ret
   unfold y0y;rw [HE.out,HR.out.2.2];exact ⟨rfl,HR.out.1,HR.out.2.1⟩
 ·rw [if_neg h0] at R';obtain ⟨t,ht⟩:∃ t,t=(x.passSize).2:=⟨_,rfl⟩
  have HR:Hid (MM ρ wb p (x.passSize).1∧Fr (fun k=>1<=k∧k<=5) ρ w wb∧(x.passSize).2=t):=⟨g1,H23.out.2.2.2.trans g2,ht.symm⟩
  rw [← ht] at h0 ⊢;have h0':((t:Int)==0)=false:=by simp;exact h0
  clear g1 g2 ht;go_wp2_with fail
  go_ret
  unfold y0y;rw [R'.out,HR.out.2.2];exact ⟨rfl,HR.out.1,HR.out.2.1⟩
theorem van{ρ:Nat->Nat}{w:World}{p:Nat}{x:MS}(h:MM ρ w p x)(ok:Ok x)(hx:x.count<=32)(hst:x.st=22) :
  Calls Tryz.prog 105 #[.pointer (some ⟨p,0,none⟩)] w fun v w'=>y0y ρ w p x.e22 v w':=by
 have H22:Hid (MM ρ w p x∧Ok x∧x.count<=32∧Fr (fun k=>1<=k∧k<=5) ρ w w):=⟨h,ok,hx,Fr.refl _ _ _⟩
 have R:Hid (x.e22=MS.andThen x.passSum fun y=>MS.e23 { y with st:=23 }):=rfl;have c7:=h.cell7.1;rw [hst] at c7;clear h ok hst;go_enter Tryz.func105,Tryz.ntmps105
 go_wp2_with fail
 refine (ycd H22.out.1 H22.out.2.1 H22.out.2.2.1).mono ?_;rintro v wa ⟨rfl,g1,g2⟩;have R':Hid (x.e22=if (x.passSum).2=0 then MS.e23 { (x.passSum).1 with st:=23 } else x.passSum):=R.out;by_cases h0:(x.passSum).2=0
 ·rw [if_pos h0] at R';have k7:=g1.cell7.1;have z7:=g1.cell7.2;have F:=MS.passSum_facts H22.out.2.1 H22.out.2.2.1 h0;have H23:Hid (MM ρ (wa.setCell ⟨p,7,none⟩ (.int .i64 (23:Nat))) p { (x.passSum).1 with st:=23 }∧Ok { (x.passSum).1 with st:=23 }∧(x.passSum).1.count<=32∧Fr (fun k=>1<=k∧k<=5) ρ w (wa.setCell ⟨p,7,none⟩ (.int .i64 (23:Nat)))):=⟨(g1.st 23).1,F.1.st 23,F.2,(H22.out.2.2.2.trans g2).trans (g1.st 23).2⟩
  rw [h0];obtain ⟨x23,hx23⟩:∃ q:MS,q={ (x.passSum).1 with st:=23 }:=⟨_,rfl⟩
  have hcx:x23.count=(x.passSum).1.count:=by rw [hx23]
  rw [← hcx,← hx23] at H23;rw [← hx23] at R';clear g1 g2 R F hx23 hcx h0;have R:Hid (x.e22=MS.e23 x23):=R'.out;clear R';go_wp2_with fail
  refine (jhs H23.out.1 H23.out.2.1 H23.out.2.2.1).mono ?_;rintro v wb ⟨rfl,g1,g2⟩;have R':Hid (x.e22=if (x23.passSize).2=0 then MS.e24 { (x23.passSize).1 with st:=24 } else x23.passSize):=R.out;by_cases h0:(x23.passSize).2=0
  ·rw [if_pos h0] at R';have k7:=g1.cell7.1;have z7:=g1.cell7.2;have F:=MS.passSize_facts H23.out.2.1 H23.out.2.2.1 h0;have H24:Hid (MM ρ (wb.setCell ⟨p,7,none⟩ (.int .i64 (24:Nat))) p { (x23.passSize).1 with st:=24 }∧Ok { (x23.passSize).1 with st:=24 }∧(x23.passSize).1.count<=32∧Fr (fun k=>1<=k∧k<=5) ρ w (wb.setCell ⟨p,7,none⟩ (.int .i64 (24:Nat)))):=⟨(g1.st 24).1,F.1.st 24,F.2,(H23.out.2.2.2.trans g2).trans (g1.st 24).2⟩
   rw [h0];obtain ⟨x24,hx24⟩:∃ q:MS,q={ (x23.passSize).1 with st:=24 }:=⟨_,rfl⟩
   have hcx:x24.count=(x23.passSize).1.count:=by rw [hx24]
   rw [← hcx,← hx24] at H24;rw [← hx24] at R';clear g1 g2 R F hx24 hcx h0;have R:Hid (x.e22=MS.e24 x24):=R'.out;clear R';go_wp2_with fail
   refine (zvo 8 H24.out.1 H24.out.2.1 (by omega) (by have:=H24.out.2.2.1;omega)).mono ?_;rintro v wc ⟨rfl,g1,g2⟩;have HE:Hid (x.e22=if (MS.need 8 x24).2=0 then (if (MS.need 8 x24).1.fm=2 then ({ (MS.need 8 x24).1 with st:=0 },0) else (MS.need 8 x24).1.refuse 14) else MS.need 8 x24):=R.out;by_cases h0:(MS.need 8 x24).2=0
   ·rw [h0];rw [if_pos h0] at HE;obtain ⟨y,hy⟩:∃ y,y=(MS.need 8 x24).1:=⟨_,rfl⟩
    rw [← hy] at g1 HE;have HY:Hid (MM ρ wc p y∧Fr (fun k=>1<=k∧k<=5) ρ w wc):=⟨g1,H24.out.2.2.2.trans g2⟩
    have c0':=g1.cell0;have k7':=g1.cell7.1;have z7':=g1.cell7.2;clear g1 g2 hy h0;by_cases h2:y.fm=2
    ·rw [if_pos h2] at HE;have hd:((y.fm:Int)==2)=true:=by simp;omega
     have H0:Hid (MM ρ (wc.setCell ⟨p,7,none⟩ (.int .i64 0)) p { y with st:=0 }∧Fr (fun k=>1<=k∧k<=5) ρ wc (wc.setCell ⟨p,7,none⟩ (.int .i64 0))):=HY.out.1.st 0;clear h2;go_wp2_with fail
     go_ret
     unfold y0y;rw [HE.out];exact ⟨rfl,H0.out.1,HY.out.2.trans H0.out.2⟩
    ·rw [if_neg h2] at HE;have hd:((y.fm:Int)==2)=false:=by simp;omega
     clear h2;go_wp2_with fail
     refine (kv8 14 HY.out.1).mono ?_;rintro v w4 ⟨rfl,g3,g4⟩;have HR2:Hid (MM ρ w4 p (y.refuse 14).1∧Fr (fun k=>1<=k∧k<=5) ρ w w4):=⟨g3,HY.out.2.trans g4⟩
     clear g3 g4;go_wp2_with fail
     go_ret
     unfold y0y;rw [HE.out];exact ⟨rfl,HR2.out⟩
   ·rw [if_neg h0] at HE;obtain ⟨t,ht⟩:∃ t,t=(MS.need 8 x24).2:=⟨_,rfl⟩
    have HR:Hid (MM ρ wc p (MS.need 8 x24).1∧Fr (fun k=>1<=k∧k<=5) ρ w wc∧(MS.need 8 x24).2=t):=⟨g1,H24.out.2.2.2.trans g2,ht.symm⟩
    rw [← ht] at h0 ⊢;have h0':((t:Int)==0)=false:=by simp;exact h0
    clear g1 g2 ht;go_wp2_with fail
    go_ret
    unfold y0y;rw [HE.out,HR.out.2.2];exact ⟨rfl,HR.out.1,HR.out.2.1⟩
  ·rw [if_neg h0] at R';obtain ⟨t,ht⟩:∃ t,t=(x23.passSize).2:=⟨_,rfl⟩
   have HR:Hid (MM ρ wb p (x23.passSize).1∧Fr (fun k=>1<=k∧k<=5) ρ w wb∧(x23.passSize).2=t):=⟨g1,H23.out.2.2.2.trans g2,ht.symm⟩
   rw [← ht] at h0 ⊢;have h0':((t:Int)==0)=false:=by simp;exact h0
   clear g1 g2 ht;go_wp2_with fail
   go_ret
   unfold y0y;rw [R'.out,HR.out.2.2];exact ⟨rfl,HR.out.1,HR.out.2.1⟩
 ·rw [if_neg h0] at R';obtain ⟨t,ht⟩:∃ t,t=(x.passSum).2:=⟨_,rfl⟩
  have HR:Hid (MM ρ wa p (x.passSum).1∧Fr (fun k=>1<=k∧k<=5) ρ w wa∧(x.passSum).2=t):=⟨g1,H22.out.2.2.2.trans g2,ht.symm⟩
  rw [← ht] at h0 ⊢;have h0':((t:Int)==0)=false:=by simp;exact h0
  clear g1 g2 ht;go_wp2_with fail
  go_ret
  unfold y0y;rw [R'.out,HR.out.2.2];exact ⟨rfl,HR.out.1,HR.out.2.1⟩
theorem Ok.putted{x:MS}(h:Ok x)(h0:x.putE=0)(b:Nat):Ok (x.putted b):=by
 have hs:¬ x.sp<=x.tk+x.pu:=fun hq=>by unfold MS.putE at h0;rw [if_pos hq] at h0;cases h0
 have g1:x.tk+(x.pu+1)<=x.sp:=by omega
 have g2:(x.sx+b)%65521<=65520:=by have:=Nat.mod_lt (x.sx+b) (show 0<65521 by decide);omega
 have g3:(x.sy+(x.sx+b)%65521)%65521<=65520:=by have:=Nat.mod_lt (x.sy+(x.sx+b)%65521) (show 0<65521 by decide);omega
 exact { h with steps:=g1,sum:=⟨g2,g3⟩,size:=Nat.mod_lt _ (by decide) }
theorem MS.put_facts{x:MS}(ok:Ok x)(b:Nat):Ok (x.put b).1∧((x.put b).2=0->(x.put b).1=x.putted b):=by
 unfold MS.put;by_cases h1:x.qa.length=64
 ·rw [if_pos h1];exact ⟨ok,fun h=>by cases h⟩
 ·rw [if_neg h1];by_cases h2:x.putE=0
  ·rw [if_neg (by rw [h2];simp)];exact ⟨ok.putted h2 b,fun _=>rfl⟩
  ·rw [if_pos h2];exact ⟨ok.refuse _,fun h=>by cases h⟩
theorem MM.cell25{ρ:Nat->Nat}{w:World}{p:Nat}{x:MS}(h:MM ρ w p x):w.cell? ⟨p,25,none⟩=some (.int .i64 x.left)∧w.frozen? ⟨p,25,none⟩=false:=by
 obtain ⟨L,B,T⟩:=h;exact ⟨B.row.cell (i:=25) (by omega),B.row.frozen 25⟩
theorem MM.cell14{ρ:Nat->Nat}{w:World}{p:Nat}{x:MS}(h:MM ρ w p x):w.cell? ⟨p,14,none⟩=some (.int .u64 x.held):=by
 obtain ⟨L,B,T⟩:=h;exact B.row.cell (i:=14) (by omega)
theorem MM.left{ρ:Nat->Nat}{w:World}{p:Nat}{x:MS}(h:MM ρ w p x)(n:Nat):MM ρ (w.setCell ⟨p,25,none⟩ (.int .i64 n)) p { x with left:=n }∧Fr (fun k=>1<=k∧k<=5) ρ w (w.setCell ⟨p,25,none⟩ (.int .i64 n)):=by
 obtain ⟨L,B,T⟩:=h;exact (((show Bh ρ w p x x L w from ⟨B,T,Fr.refl _ _ _⟩).set (z:={ x with left:=n }) 25 _ rfl ⟨rfl,rfl⟩).done rfl rfl rfl rfl ⟨rfl,rfl⟩)
structure Pw(ρ:Nat->Nat)(w:World)(p:Nat)(y:MS)(R:MS×Nat)(w':World):Prop where
 mm:MM ρ w' p y
 ok:Ok y
 eq:MS.plainL y.left y=R
 cnt:y.count<=32
 left:y.left<=65535
 fr:Fr (fun k=>1<=k∧k<=5) ρ w w'
theorem MS.plain_zero{y:MS}(h:y.left=0):MS.plainL y.left y=y.endBlock:=by rw [h];rfl
theorem MS.plain_succ{y:MS}{n:Nat}(h:y.left=n+1):MS.plainL y.left y=if (MS.need 8 y).2=0 then (if ((MS.need 8 y).1.put ((MS.need 8 y).1.num 8)).2=0 then MS.plainL n { ((MS.need 8 y).1.put ((MS.need 8 y).1.num 8)).1.rd 8 with left:=n } else (MS.need 8 y).1.put ((MS.need 8 y).1.num 8)) else MS.need 8 y:=by rw [h];rfl
theorem x1y{ρ:Nat->Nat}{w:World}{p:Nat}{x:MS}(h:MM ρ w p x)(ok:Ok x)(hx:x.count<=32)(hl:x.left<=65535)(hst:x.st=9) :
  Calls Tryz.prog 102 #[.pointer (some ⟨p,0,none⟩)] w fun v w'=>y0y ρ w p x.b9 v w':=by
 obtain ⟨R,hR⟩:∃ R,R=MS.plainL x.left x:=⟨_,rfl⟩
 have H0:Hid (∃ y,Pw ρ w p y R w):=⟨x,h,ok,hR.symm,hx,hl,Fr.refl _ _ _⟩
 have HF:Hid (x.b9=R):=by show x.b9=R;rw [hR];rfl
 have c7:=h.cell7.1;rw [hst] at c7;clear h ok hst hR hl hx;go_enter Tryz.func102,Tryz.ntmps102
 go_wp2_with fail
 go_loopw [] (fun wr=>Hid (∃ y,Pw ρ w p y R wr)) (fun wr=>xq0 wr p 25)
 case atStart=>exact H0
 case round=>
  clear H0;obtain ⟨y,Y⟩:=hrel.out;have c25:=Y.mm.cell25.1;have e25:=xv1 c25;have hl:=Y.left;have hcn:=Y.cnt;have HY:Hid (Pw ρ w p y R wr):=Y;clear Y hrel;by_cases hz:y.left=0
  ·have HZ:Hid (R=y.endBlock):=by show R=_;rw [← HY.out.eq,MS.plain_zero hz]
   rw [hz] at c25;clear hz;go_wp2_with fail
   refine (kbz HY.out.mm HY.out.ok (by omega)).mono ?_;rintro v w5 ⟨rfl,g1,g2⟩;have HR:Hid (MM ρ w5 p y.endBlock.1∧Fr (fun k=>1<=k∧k<=5) ρ w w5):=⟨g1,HY.out.fr.trans g2⟩
   clear g1 g2;go_wp2_with fail
   go_ret
   unfold y0y;rw [HF.out,HZ.out];exact ⟨rfl,HR.out⟩
  ·obtain ⟨n,hn⟩:∃ n,y.left=n+1:=⟨y.left - 1,by omega⟩
   have HS:Hid (R=if (MS.need 8 y).2=0 then (if ((MS.need 8 y).1.put ((MS.need 8 y).1.num 8)).2=0 then MS.plainL n { ((MS.need 8 y).1.put ((MS.need 8 y).1.num 8)).1.rd 8 with left:=n } else (MS.need 8 y).1.put ((MS.need 8 y).1.num 8)) else MS.need 8 y):=by show R=_;rw [← HY.out.eq,MS.plain_succ hn]
   have hpos:(0:Int)<y.left:=by omega
   clear hz;go_wp2_with fail
   refine (zvo 8 HY.out.mm HY.out.ok (by omega) (by omega)).mono ?_;rintro v w5 ⟨rfl,g1,g2⟩;by_cases h0:(MS.need 8 y).2=0
   ·have k1:=MS.need_cnt HY.out.ok h0;have k2:=MS.need_same HY.out.ok h0;have k3:=MS.need_ok (k:=8) HY.out.ok;rw [h0];rw [if_pos h0] at HS;obtain ⟨z,hzz⟩:∃ z,z=(MS.need 8 y).1:=⟨_,rfl⟩
    rw [← hzz] at g1 HS k1 k2 k3;have hzl:z.left=n+1:=by rw [k2];exact hn
    have HZ:Hid (MM ρ w5 p z∧Ok z∧Fr (fun k=>1<=k∧k<=5) ρ w w5):=⟨g1,k3,HY.out.fr.trans g2⟩
    have c14:=g1.cell14;have hb:z.num 8<256:=Nat.mod_lt _ (by decide);have hbi:(z.held:Int)%256=(z.num 8:Int):=by show _=((z.held%2^8:Nat):Int);omega
    have hhl:=k3.held;clear g1 g2 hzz k2 k3 h0;obtain ⟨P,hP⟩:∃ P,P=z.put (z.num 8):=⟨_,rfl⟩
    have HPF:=MS.put_facts HZ.out.2.1 (z.num 8);have HPT:Hid (Calls Tryz.prog 137 #[.pointer (some ⟨p,0,none⟩), .int .u8 (z.num 8)] w5 fun v w'=>y0y ρ w5 p P v w'):=by
     show Calls _ _ _ _ _;rw [hP];exact mPut (z.num 8) HZ.out.1 HZ.out.2.1 hb
    rw [← hP] at HS HPF;have HPF':Hid (Ok P.1∧(P.2=0->P.1=z.putted (z.num 8))):=HPF;clear hP HPF;obtain ⟨b,hb'⟩:∃ b,b=z.num 8:=⟨_,rfl⟩
    rw [← hb'] at hbi hb HPT HPF';clear hb';go_wp2_with fail
    refine HPT.out.mono ?_;rintro v w6 ⟨rfl,g1,g2⟩;by_cases h1:P.2=0
    ·have hPe:=HPF'.out.2 h1;have hPc:P.1.count=z.count:=by rw [hPe];rfl
     have hPl:P.1.left=n+1:=by rw [hPe];exact hzl
     rw [if_pos h1] at HS;have HQ:Hid (MM ρ w6 p P.1∧Ok P.1∧Fr (fun k=>1<=k∧k<=5) ρ w w6):=⟨g1,HPF'.out.1,HZ.out.2.2.trans g2⟩
     rw [h1];obtain ⟨Q,hQ⟩:∃ Q,Q=P.1:=⟨_,rfl⟩
     rw [← hQ] at HQ hPc hPl HS;clear g1 g2 hPe h1 hQ;go_wp2_with fail
     refine (zw3 8 HQ.out.1 HQ.out.2.1 (by omega) (by omega)).mono ?_;rintro v w7 ⟨rfl,g1,g2⟩;have HQ2:Hid (MM ρ w7 p (Q.rd 8)∧Ok (Q.rd 8)∧Fr (fun k=>1<=k∧k<=5) ρ w w7):=⟨g1,HQ.out.2.1.rd (by omega),HQ.out.2.2.trans g2⟩
     have d25:w7.cell? ⟨p,25,none⟩=some (.int .i64 (n+1:Nat)):=by rw [← hPl];exact g1.cell25.1
     have z25:=g1.cell25.2;have HL:=HQ2.out.1.left n;have HN:Hid (∃ y,Pw ρ w p y R (w7.setCell ⟨p,25,none⟩ (.int .i64 n))):=⟨{ Q.rd 8 with left:=n },HL.1,{ HQ2.out.2.1 with },HS.out.symm,by show Q.count - 8<=32;omega,by show n<=65535;omega,HQ2.out.2.2.trans HL.2⟩
     have eN:xq0 (w7.setCell ⟨p,25,none⟩ (.int .i64 n)) p 25=n:=xv1 HL.1.cell25.1;have hn1:((n+1:Nat):Int) - 1=(n:Int):=by omega
     clear g1 g2 HL;go_wp2_with fail
     go_roundw
     case rel=>exact HN
     case measure=>rw [e25,eN];omega
    ·rw [if_neg h1] at HS;obtain ⟨t,ht⟩:∃ t,t=P.2:=⟨_,rfl⟩
     have HR:Hid (MM ρ w6 p P.1∧Fr (fun k=>1<=k∧k<=5) ρ w w6∧P.2=t):=⟨g1,HZ.out.2.2.trans g2,ht.symm⟩
     rw [← ht] at h1 ⊢;have h0':((t:Int)==0)=false:=by simp;exact h1
     clear g1 g2 ht;go_wp2_with fail
     go_ret
     unfold y0y;rw [HF.out,HS.out,HR.out.2.2];exact ⟨rfl,HR.out.1,HR.out.2.1⟩
   ·rw [if_neg h0] at HS;obtain ⟨t,ht⟩:∃ t,t=(MS.need 8 y).2:=⟨_,rfl⟩
    have HR:Hid (MM ρ w5 p (MS.need 8 y).1∧Fr (fun k=>1<=k∧k<=5) ρ w w5∧(MS.need 8 y).2=t):=⟨g1,HY.out.fr.trans g2,ht.symm⟩
    rw [← ht] at h0 ⊢;have h0':((t:Int)==0)=false:=by simp;exact h0
    clear g1 g2 ht;go_wp2_with fail
    go_ret
    unfold y0y;rw [HF.out,HS.out,HR.out.2.2];exact ⟨rfl,HR.out.1,HR.out.2.1⟩
theorem xz4{ρ:Nat->Nat}{w:World}{p:Nat}{x:MS}(h:MM ρ w p x)(ok:Ok x)(hx:x.count<=32)(hst:x.st=8) :
  Calls Tryz.prog 102 #[.pointer (some ⟨p,0,none⟩)] w fun v w'=>y0y ρ w p x.b8 v w':=by
 have HM:Hid (MM ρ w p x∧Ok x):=⟨h,ok⟩
 have HE:Hid (x.b8=if (MS.need 32 x).2=0 then (if (MS.need 32 x).1.held / 65536%65536=65535 - (MS.need 32 x).1.num 16 then MS.b9 { (MS.need 32 x).1.rd 32 with left:=(MS.need 32 x).1.num 16,st:=9 } else ({ (MS.need 32 x).1.rd 32 with left:=(MS.need 32 x).1.num 16 }:MS).refuse 9) else MS.need 32 x):=rfl;have c7:=h.cell7.1;rw [hst] at c7;clear h ok hst;go_enter Tryz.func102,Tryz.ntmps102
 go_wp2_with fail
 refine (zvo 32 HM.out.1 HM.out.2 (by omega) (by omega)).mono ?_;rintro v w1 ⟨rfl,g1,g2⟩;by_cases h0:(MS.need 32 x).2=0
 ·have k1:=MS.need_cnt HM.out.2 h0;have k3:=MS.need_ok (k:=32) HM.out.2;rw [h0];rw [if_pos h0] at HE;obtain ⟨q,hq⟩:∃ q,q=(MS.need 32 x).1:=⟨_,rfl⟩
  rw [← hq] at g1 HE k1 k3;have HQ:Hid (MM ρ w1 p q∧Ok q∧Fr (fun k=>1<=k∧k<=5) ρ w w1):=⟨g1,k3,g2⟩
  clear g1 g2 hq k3 h0 HM c7;go_wp2_with fail
  refine (zw3 16 HQ.out.1 HQ.out.2.1 (by omega) (by omega)).mono ?_;rintro v w2 ⟨rfl,g1,g2⟩;have hv:q.num 16<65536:=Nat.mod_lt _ (by decide);have c25:=g1.cell25.1;have z25:=g1.cell25.2;have HL:=g1.left (q.num 16);have HQ2:Hid (MM ρ (w2.setCell ⟨p,25,none⟩ (.int .i64 (q.num 16:Nat))) p { q.rd 16 with left:=q.num 16 }∧Ok { q.rd 16 with left:=q.num 16 }∧Fr (fun k=>1<=k∧k<=5) ρ w (w2.setCell ⟨p,25,none⟩ (.int .i64 (q.num 16:Nat)))):=⟨HL.1,{ HQ.out.2.1.rd (k:=16) (by omega) with },(HQ.out.2.2.trans g2).trans HL.2⟩
  have HNB:Hid (({ q.rd 16 with left:=q.num 16 }:MS).num 16=q.held / 65536%65536∧({ q.rd 16 with left:=q.num 16 }:MS).rd 16={ q.rd 32 with left:=q.num 16 }∧({ q.rd 16 with left:=q.num 16 }:MS).count=q.count - 16):=by
   refine ⟨rfl,?_,rfl⟩;have:=MS.rd_rd q 16 16;unfold MS.rd at this ⊢;injection this;simp_all
  clear g1 g2 HL;obtain ⟨V,hV⟩:∃ V,V=q.num 16:=⟨_,rfl⟩
  rw [← hV] at HQ2 HNB HE hv ⊢;have HV:Hid (V=q.num 16):=hV;clear hV;obtain ⟨z,hz⟩:∃ z:MS,z={ q.rd 16 with left:=V }:=⟨_,rfl⟩
  rw [← hz] at HQ2 HNB;have hzl:z.left=V:=by rw [hz]
  clear hz;have HRD:Hid (∀ wq,MM ρ wq p z->Calls Tryz.prog 134 #[.pointer (some ⟨p,14,none⟩), .int .i64 (16:Nat)] wq fun v w'=>v= .returned (.int .i64 (z.num 16))∧MM ρ w' p (z.rd 16)∧Fr (fun k=>1<=k∧k<=5) ρ wq w'):=fun wq m=>zw3 16 m HQ2.out.2.1 (by have:=HNB.out.2.2;omega) (by have:=HNB.out.2.2;omega)
  have HN16:Hid (z.num 16=q.held / 65536%65536):=HNB.out.1;have hn16:z.num 16<65536:=Nat.mod_lt _ (by decide);obtain ⟨N,hN⟩:∃ N,N=z.num 16:=⟨_,rfl⟩
  rw [← hN] at HRD HN16 hn16;clear hN;rw [← HN16.out] at HE;have HOKZ:Hid (Ok (z.rd 16)):=HQ2.out.2.1.rd (by have:=HNB.out.2.2;omega);obtain ⟨u,hu⟩:∃ u,u=z.rd 16:=⟨_,rfl⟩
  rw [← hu] at HRD HOKZ;have HU:Hid (u={ q.rd 32 with left:=V }):=by show u=_;rw [hu];exact HNB.out.2.1
  clear hu;have huc:u.count<=32:=by rw [HU.out];show q.count - 32<=32;omega
  have hul:u.left=V:=by rw [HU.out]
  generalize hW2:w2.setCell ⟨p,25,none⟩ (.int .i64 (V:Nat))=W2 at *;have d25:W2.cell? ⟨p,25,none⟩=some (.int .i64 V):=by rw [← hzl];exact HQ2.out.1.cell25.1
  have hwv:IntKind.i64.wrap (65535 - (V:Int))=65535 - (V:Int):=by rw [IntWalk.i64_left,IntWalk.wrap64_in _ ⟨by omega,by omega⟩]
  by_cases he:N=65535 - V
  ·rw [if_pos he] at HE;have hed:((N:Int) !=IntKind.i64.wrap (65535 - (V:Int)))=false:=by rw [hwv];simp;omega
   have HF:Hid (x.b8=MS.b9 { u with st:=9 }):=by show x.b8=_;rw [HE.out,HU.out]
   clear he HE;go_wp2_with fail
   go_region_held3 (fun wv=>wv.cell? ⟨p,25,none⟩=some (.int .i64 V)) (first | exact d25 | exact e25') (first | (go_at_call 134;refine (HRD.out _ (HQ2.out.1.drewN 1)).mono ?_;rintro e w3 ⟨rfl,g1,g2⟩;have HR:Hid (MM ρ w3 p u∧Fr (fun k=>1<=k∧k<=5) ρ w w3):=⟨g1,(HQ2.out.2.2.drewN 1).trans g2⟩;have e25':w3.cell? ⟨p,25,none⟩=some (.int .i64 V):=by { rw [← hul];exact g1.cell25.1 };clear g1 g2))
   have k7:=HR.out.1.cell7.1;have z7:=HR.out.1.cell7.2;obtain ⟨R,hR⟩:∃ R,R=MS.b9 { u with st:=9 }:=⟨_,rfl⟩
   rw [← hR] at HF;have H0:Hid (∃ y,Pw ρ w p y R (w3.setCell ⟨p,7,none⟩ (.int .i64 9))):=⟨{ u with st:=9 },(HR.out.1.st 9).1,HOKZ.out.st 9,hR.symm,huc,by show u.left<=65535;omega,HR.out.2.trans (HR.out.1.st 9).2⟩
   clear hR HNB HU HV HN16 HRD HQ2 HQ d25 e25' hzl c25 z25 hul;go_wp2_with fail
   clear hwv hed;generalize (65535 - (V:Int))=vv;generalize ((N:Int) !=vv)=bb;go_loopw [] (fun wr=>Hid (∃ y,Pw ρ w p y R wr)) (fun wr=>xq0 wr p 25)
   case atStart=>exact H0
   case round=>
    clear H0;obtain ⟨y,Y⟩:=hrel.out;have c25:=Y.mm.cell25.1;have e25:=xv1 c25;have hl:=Y.left;have hcn:=Y.cnt;have HY:Hid (Pw ρ w p y R wr):=Y;clear Y hrel;by_cases hz:y.left=0
    ·have HZ:Hid (R=y.endBlock):=by show R=_;rw [← HY.out.eq,MS.plain_zero hz]
     rw [hz] at c25;clear hz;go_wp2_with fail
     refine (kbz HY.out.mm HY.out.ok (by omega)).mono ?_;rintro v w5 ⟨rfl,g1,g2⟩;have HR:Hid (MM ρ w5 p y.endBlock.1∧Fr (fun k=>1<=k∧k<=5) ρ w w5):=⟨g1,HY.out.fr.trans g2⟩
     clear g1 g2;go_wp2_with fail
     go_ret
     unfold y0y;rw [HF.out,HZ.out];exact ⟨rfl,HR.out⟩
    ·obtain ⟨n,hn⟩:∃ n,y.left=n+1:=⟨y.left - 1,by omega⟩
     have HS:Hid (R=if (MS.need 8 y).2=0 then (if ((MS.need 8 y).1.put ((MS.need 8 y).1.num 8)).2=0 then MS.plainL n { ((MS.need 8 y).1.put ((MS.need 8 y).1.num 8)).1.rd 8 with left:=n } else (MS.need 8 y).1.put ((MS.need 8 y).1.num 8)) else MS.need 8 y):=by show R=_;rw [← HY.out.eq,MS.plain_succ hn]
     have hpos:(0:Int)<y.left:=by omega
     clear hz;go_wp2_with fail
     refine (zvo 8 HY.out.mm HY.out.ok (by omega) (by omega)).mono ?_;rintro v w5 ⟨rfl,g1,g2⟩;by_cases h0:(MS.need 8 y).2=0
     ·have k1:=MS.need_cnt HY.out.ok h0;have k2:=MS.need_same HY.out.ok h0;have k3:=MS.need_ok (k:=8) HY.out.ok;rw [h0];rw [if_pos h0] at HS;obtain ⟨z,hzz⟩:∃ z,z=(MS.need 8 y).1:=⟨_,rfl⟩
      rw [← hzz] at g1 HS k1 k2 k3;have hzl:z.left=n+1:=by rw [k2];exact hn
      have HZ:Hid (MM ρ w5 p z∧Ok z∧Fr (fun k=>1<=k∧k<=5) ρ w w5):=⟨g1,k3,HY.out.fr.trans g2⟩
      have c14:=g1.cell14;have hb:z.num 8<256:=Nat.mod_lt _ (by decide);have hbi:(z.held:Int)%256=(z.num 8:Int):=by show _=((z.held%2^8:Nat):Int);omega
      have hhl:=k3.held;clear g1 g2 hzz k2 k3 h0;obtain ⟨P,hP⟩:∃ P,P=z.put (z.num 8):=⟨_,rfl⟩
      have HPF:=MS.put_facts HZ.out.2.1 (z.num 8);have HPT:Hid (Calls Tryz.prog 137 #[.pointer (some ⟨p,0,none⟩), .int .u8 (z.num 8)] w5 fun v w'=>y0y ρ w5 p P v w'):=by
       show Calls _ _ _ _ _;rw [hP];exact mPut (z.num 8) HZ.out.1 HZ.out.2.1 hb
      rw [← hP] at HS HPF;have HPF':Hid (Ok P.1∧(P.2=0->P.1=z.putted (z.num 8))):=HPF;clear hP HPF;obtain ⟨b,hb'⟩:∃ b,b=z.num 8:=⟨_,rfl⟩
      rw [← hb'] at hbi hb HPT HPF';clear hb';go_wp2_with fail
      refine HPT.out.mono ?_;rintro v w6 ⟨rfl,g1,g2⟩;by_cases h1:P.2=0
      ·have hPe:=HPF'.out.2 h1;have hPc:P.1.count=z.count:=by rw [hPe];rfl
       have hPl:P.1.left=n+1:=by rw [hPe];exact hzl
       rw [if_pos h1] at HS;have HQ:Hid (MM ρ w6 p P.1∧Ok P.1∧Fr (fun k=>1<=k∧k<=5) ρ w w6):=⟨g1,HPF'.out.1,HZ.out.2.2.trans g2⟩
       rw [h1];obtain ⟨Q,hQ⟩:∃ Q,Q=P.1:=⟨_,rfl⟩
       rw [← hQ] at HQ hPc hPl HS;clear g1 g2 hPe h1 hQ;go_wp2_with fail
       refine (zw3 8 HQ.out.1 HQ.out.2.1 (by omega) (by omega)).mono ?_;rintro v w7 ⟨rfl,g1,g2⟩;have HQ2:Hid (MM ρ w7 p (Q.rd 8)∧Ok (Q.rd 8)∧Fr (fun k=>1<=k∧k<=5) ρ w w7):=⟨g1,HQ.out.2.1.rd (by omega),HQ.out.2.2.trans g2⟩
       have d25:w7.cell? ⟨p,25,none⟩=some (.int .i64 (n+1:Nat)):=by rw [← hPl];exact g1.cell25.1
       have z25:=g1.cell25.2;have HL:=HQ2.out.1.left n;have HN:Hid (∃ y,Pw ρ w p y R (w7.setCell ⟨p,25,none⟩ (.int .i64 n))):=⟨{ Q.rd 8 with left:=n },HL.1,{ HQ2.out.2.1 with },HS.out.symm,by show Q.count - 8<=32;omega,by show n<=65535;omega,HQ2.out.2.2.trans HL.2⟩
       have eN:xq0 (w7.setCell ⟨p,25,none⟩ (.int .i64 n)) p 25=n:=xv1 HL.1.cell25.1;have hn1:((n+1:Nat):Int) - 1=(n:Int):=by omega
       clear g1 g2 HL;go_wp2_with fail
       go_roundw
       case rel=>exact HN
       case measure=>rw [e25,eN];omega
      ·rw [if_neg h1] at HS;obtain ⟨t,ht⟩:∃ t,t=P.2:=⟨_,rfl⟩
       have HR:Hid (MM ρ w6 p P.1∧Fr (fun k=>1<=k∧k<=5) ρ w w6∧P.2=t):=⟨g1,HZ.out.2.2.trans g2,ht.symm⟩
       rw [← ht] at h1 ⊢;have h0':((t:Int)==0)=false:=by simp;exact h1
       clear g1 g2 ht;go_wp2_with fail
       go_ret
       unfold y0y;rw [HF.out,HS.out,HR.out.2.2];exact ⟨rfl,HR.out.1,HR.out.2.1⟩
     ·rw [if_neg h0] at HS;obtain ⟨t,ht⟩:∃ t,t=(MS.need 8 y).2:=⟨_,rfl⟩
      have HR:Hid (MM ρ w5 p (MS.need 8 y).1∧Fr (fun k=>1<=k∧k<=5) ρ w w5∧(MS.need 8 y).2=t):=⟨g1,HY.out.fr.trans g2,ht.symm⟩
      rw [← ht] at h0 ⊢;have h0':((t:Int)==0)=false:=by simp;exact h0
      clear g1 g2 ht;go_wp2_with fail
      go_ret
      unfold y0y;rw [HF.out,HS.out,HR.out.2.2];exact ⟨rfl,HR.out.1,HR.out.2.1⟩
  ·rw [if_neg he] at HE;have hed:((N:Int) !=IntKind.i64.wrap (65535 - (V:Int)))=true:=by rw [hwv];simp;omega
   have HF:Hid (x.b8=u.refuse 9):=by show x.b8=_;rw [HE.out,HU.out]
   clear he HE;go_wp2_with fail
   go_region_held3 (fun wv=>wv.cell? ⟨p,25,none⟩=some (.int .i64 V)) (first | exact d25 | exact e25') (first | (go_at_call 134;refine (HRD.out _ (HQ2.out.1.drewN 1)).mono ?_;rintro e w3 ⟨rfl,g1,g2⟩;have HR:Hid (MM ρ w3 p u∧Fr (fun k=>1<=k∧k<=5) ρ w w3):=⟨g1,(HQ2.out.2.2.drewN 1).trans g2⟩;have e25':w3.cell? ⟨p,25,none⟩=some (.int .i64 V):=by { rw [← hul];exact g1.cell25.1 };clear g1 g2))
   go_wp2_with fail
   refine (kv8 9 HR.out.1).mono ?_;rintro v w4 ⟨rfl,g3,g4⟩;have HR2:Hid (MM ρ w4 p (u.refuse 9).1∧Fr (fun k=>1<=k∧k<=5) ρ w w4):=⟨g3,HR.out.2.trans g4⟩
   clear g3 g4;go_wp2_with fail
   go_ret
   unfold y0y;rw [HF.out];exact ⟨rfl,HR2.out⟩
 ·rw [if_neg h0] at HE;obtain ⟨t,ht⟩:∃ t,t=(MS.need 32 x).2:=⟨_,rfl⟩
  have HR:Hid (MM ρ w1 p (MS.need 32 x).1∧Fr (fun k=>1<=k∧k<=5) ρ w w1∧(MS.need 32 x).2=t):=⟨g1,g2,ht.symm⟩
  rw [← ht] at h0 ⊢;have h0':((t:Int)==0)=false:=by simp;exact h0
  clear g1 g2 ht;go_wp2_with fail
  go_ret
  unfold y0y;rw [HE.out,HR.out.2.2];exact ⟨rfl,HR.out.1,HR.out.2.1⟩
theorem MM.new{ρ:Nat->Nat}{w:World}{p:Nat}{x:MS}(h:MM ρ w p x)(k:Nat)(hk:w.heap.size<=k):ρ k=0:=by
 obtain ⟨L,B,T⟩:=h;apply Classical.byContradiction;intro hn;have:=T.lt k hn;omega
theorem Fr.cell{R:Nat->Prop}{ρ:Nat->Nat}{w w':World}(f:Fr R ρ w w'){g i:Nat}{v:Value}(h:w.cell? ⟨g,i,none⟩=some v)(hg:g<w.heap.size)(hr:¬ R (ρ g)):w'.cell? ⟨g,i,none⟩=some v:=by
 unfold World.cell? at h ⊢;rw [f.kp.block g hg hr];exact h
theorem Fr.lt{R:Nat->Prop}{ρ:Nat->Nat}{w w':World}(f:Fr R ρ w w'){g:Nat}(h:g<w.heap.size):g<w'.heap.size:=Nat.lt_of_lt_of_le h f.kp.size
theorem no0:¬ (1<=0∧0<=5):=by decide
theorem xh4{ρ:Nat->Nat}{w:World}{p:Nat}{x:MS}(least bits:Nat)(h:MM ρ w p x)(ok:Ok x)(hx:x.count<=40)(hb:bits<=16)(hl:least<=1000000) :
  Calls Tryz.prog 141 #[.pointer (some ⟨p,0,none⟩), .agg #[.int .i64 least, .int .i64 bits]] w fun v w'=>v5b .i64 ρ w p (x.spanR least bits) v w':=by
 have r0:ρ w.heap.size=0:=h.new _ (Nat.le_refl _);have b0:Below w.heap.size w (w.alloc (.cells #[.int .i64 least, .int .i64 bits] 125)):=(Below.refl _ _).alloc (Nat.le_refl _) _;have HM:Hid (MM ρ (w.alloc (.cells #[.int .i64 least, .int .i64 bits] 125)) p x∧Ok x∧Fr (fun k=>1<=k∧k<=5) ρ w (w.alloc (.cells #[.int .i64 least, .int .i64 bits] 125))∧ρ w.heap.size=0):=⟨h.below b0,ok,Fr.below b0,r0⟩
 have HE:Hid (x.spanR least bits=if (MS.need bits x).2=0 then ((MS.need bits x).1.rd bits,0,least+(MS.need bits x).1.num bits) else ((MS.need bits x).1,(MS.need bits x).2,0)):=rfl;have c0:(w.alloc (.cells #[.int .i64 least, .int .i64 bits] 125)).cell? ⟨w.heap.size,0,none⟩=some (.int .i64 least):=by simp
 have c1:(w.alloc (.cells #[.int .i64 least, .int .i64 bits] 125)).cell? ⟨w.heap.size,1,none⟩=some (.int .i64 bits):=by simp
 have hg:w.heap.size<(w.alloc (.cells #[.int .i64 least, .int .i64 bits] 125)).heap.size:=by simp
 clear h ok b0 r0;go_enter Tryz.func141,Tryz.ntmps141
 go_wp2_with fail
 generalize w.alloc (.cells #[.int .i64 least, .int .i64 bits] 125)=W at *;refine (zvo bits HM.out.1 HM.out.2.1 (by omega) (by omega)).mono ?_;rintro v w1 ⟨rfl,g1,g2⟩;by_cases h0:(MS.need bits x).2=0
 ·have k1:=MS.need_cnt HM.out.2.1 h0;have k3:=MS.need_ok (k:=bits) HM.out.2.1;rw [h0];rw [if_pos h0] at HE;obtain ⟨y,hy⟩:∃ y,y=(MS.need bits x).1:=⟨_,rfl⟩
  rw [← hy] at g1 HE k1 k3;have HY:Hid (MM ρ w1 p y∧Ok y∧Fr (fun k=>1<=k∧k<=5) ρ w w1∧ρ w.heap.size=0):=⟨g1,k3,HM.out.2.2.1.trans g2,HM.out.2.2.2⟩
  have d0:=g2.cell c0 hg (by rw [HM.out.2.2.2];exact no0);have d1:=g2.cell c1 hg (by rw [HM.out.2.2.2];exact no0);have hg1:=g2.lt hg;clear g1 g2 hy h0 c0 c1 k3;have HRD:Hid (∀ n,Calls Tryz.prog 134 #[.pointer (some ⟨p,14,none⟩), .int .i64 bits] (w1.drewN n) fun v w'=>v= .returned (.int .i64 (y.num bits))∧MM ρ w' p (y.rd bits)∧Fr (fun k=>1<=k∧k<=5) ρ (w1.drewN n) w'):=fun n=>zw3 bits (HY.out.1.drewN n) HY.out.2.1 k1.1 (by omega)
  have hnum:y.num bits<65536:=Nat.lt_of_lt_of_le (Nat.mod_lt _ (Nat.two_pow_pos bits)) (by
   have:2^bits<=2^16:=Nat.pow_le_pow_right (by decide) hb;simpa using this)
  obtain ⟨m,hm⟩:∃ m,m=y.num bits:=⟨_,rfl⟩
  rw [← hm] at HRD HE hnum;clear hm;have hw:IntKind.i64.wrap ((least:Int)+m)=((least+m:Nat):Int):=by rw [IntWalk.i64_left,IntWalk.wrap64_in _ ⟨by omega,by omega⟩];omega
  have HW:Hid (IntKind.i64.wrap ((least:Int)+m)=((least+m:Nat):Int)):=hw;clear hw;go_wp2_with fail
  go_region_held3 (fun wv=>wv.cell? ⟨w.heap.size,0,none⟩=some (.int .i64 least)∧wv.cell? ⟨w.heap.size,1,none⟩=some (.int .i64 bits)) (first | exact ⟨d0,d1⟩ | exact ⟨e0,e1⟩)
   (first | (go_at_call 134;refine (HRD.out 1).mono ?_;rintro e w2 ⟨rfl,g1,g2⟩;have HR:Hid (MM ρ w2 p (y.rd bits)∧Fr (fun k=>1<=k∧k<=5) ρ w w2):=⟨g1,(HY.out.2.2.1.drewN 1).trans g2⟩;have e0:=g2.cell d0 hg1 (by rw [HY.out.2.2.2];exact no0);have e1:=g2.cell d1 hg1 (by rw [HY.out.2.2.2];exact no0);clear g1 g2))
  all_goals
   go_wp2_with fail
   go_ret2
   unfold v5b;rw [HE.out];first
    | (rw [HW.out];exact ⟨rfl,HR.out⟩)
    | (
      have e9:((least+m:Nat):Int)=(least:Int)+m:=by omega
      rw [e9];exact ⟨rfl,HR.out⟩)
    | (rw [← HW.out];exact ⟨rfl,HR.out⟩)
 ·obtain ⟨t,ht⟩:∃ t,t=(MS.need bits x).2:=⟨_,rfl⟩
  rw [if_neg h0] at HE;have HR:Hid (MM ρ w1 p (MS.need bits x).1∧Fr (fun k=>1<=k∧k<=5) ρ w w1):=⟨g1,HM.out.2.2.1.trans g2⟩
  rw [← ht] at h0 HE ⊢;have h0':((t:Int)==0)=false:=by simp;exact h0
  clear g1 g2 ht;go_wp2_with fail
  go_ret2
  unfold v5b;rw [HE.out];exact ⟨rfl,HR.out⟩
end Go.Proofs.YtbcjmakpempkiaaGreatDoor
