import Derived.Laws.BitsAllLaws
import Derived.Test.YtbcjmakpempkiaaGreatDoorX17
set_option maxRecDepth 100000
set_option maxHeartbeats 8000000
set_option linter.all false
namespace Go.Proofs.YtbcjmakpempkiaaGreatDoor
open Go.RowKit
theorem MS.need_tk{k:Nat}:∀ (l:List Nat) {x:MS},x.rest=l->(MS.need k x).1.rest.length+(MS.need k x).1.tk=x.rest.length+x.tk
 | [],x,e=>by
  by_cases h:k<=x.count
  ·rw [MS.need_done h]
  ·rw [MS.need_nil h e]
 | b :: l,x,e=>by
  by_cases h:k<=x.count
  ·rw [MS.need_done h]
  ·rw [MS.need_cons h e];by_cases hs:x.sp<=x.tk+x.pu
   ·rw [if_pos hs];rfl
   ·rw [if_neg hs,MS.need_tk (k:=k) l (x:=x.fed b l) rfl,e];show l.length+(x.tk+1)=(b :: l).length+x.tk;simp;omega
theorem MS.takeHead_tk(x:MS):x.takeHead.1.rest.length+x.takeHead.1.tk=x.rest.length+x.tk:=by
 have:=MS.need_tk (k:=8) x.rest (x:=x) rfl;unfold MS.takeHead;split
 ·exact this
 ·split
  ·exact this
  ·exact this
theorem ym5(m i:Nat)(hm:m<256)(hi:i<8):bits .and .u8 (m:Int) ((2^i:Nat):Int)=((m / 2^i%2*2^i:Nat):Int):=by
 have h1:m<2^8:=hm;have h2:2^i<2^8:=Nat.pow_lt_pow_right (by decide) hi;rw [(bits_nat .u8 8 (by decide) wraps_u8 m (2^i) h1 h2).1,nat_bit]
theorem x3t(m i:Nat)(hm:m<256)(hi:i<8):(bits .and .u8 (m:Int) ((2^i:Nat):Int)==0)=decide (m / 2^i%2=0):=by
 rw [ym5 m i hm hi];have hp:=Nat.two_pow_pos i;by_cases h:m / 2^i%2=0
 ·rw [h,decide_eq_true rfl];simp
 ·have h1:m / 2^i%2=1:=by omega
  rw [h1];simp;have hpi:(0:Int)<2^i:=Int.pow_pos (by decide);omega
theorem MM.cell9{ρ:Nat->Nat}{w:World}{p:Nat}{x:MS}(h:MM ρ w p x):w.cell? ⟨p,9,none⟩=some (.int .i64 x.tk):=by
 obtain ⟨L,B,T⟩:=h;exact B.row.cell (i:=9) (by omega)
theorem zvv{ρ:Nat->Nat}{w:World}{p:Nat}{x:MS}(i:Nat)(h:MM ρ w p x)(ok:Ok x)(hx:x.count<=8∨x.marks=0)(hi:i<8) :
  Calls Tryz.prog 131 #[.pointer (some ⟨p,0,none⟩), .int .u8 (2^i:Nat)] w fun v w'=>y0y ρ w p (MS.passText (2^i) x) v w':=by
 have HM:Hid (MM ρ w p x∧Ok x):=⟨h,ok⟩
 have c18:w.cell? ⟨p,18,none⟩=some (.int .u8 x.marks):=by obtain ⟨L,B,T⟩:=h;exact B.row.cell (i:=18) (by omega)
 have HE:Hid (MS.passText (2^i) x=if x.marks / 2^i%2=0 then (x,0) else MS.textL (x.more+1) x):=rfl;have hz:=x3t x.marks i ok.marks hi;clear h ok;obtain ⟨m,hm⟩:∃ m,m=2^i:=⟨_,rfl⟩
 rw [← hm] at HE hz ⊢;clear hm;go_enter Tryz.func131,Tryz.ntmps131
 by_cases h0:x.marks / m%2=0
 ·rw [if_pos h0] at HE;rw [decide_eq_true h0] at hz;clear h0 hx;go_wp2_with fail
  go_ret
  unfold y0y;rw [HE.out];exact ⟨rfl,HM.out.1,Fr.refl _ _ _⟩
 ·rw [if_neg h0] at HE;rw [decide_eq_false h0] at hz;have hx8:x.count<=8:=by
   rcases hx with hx | hx
   ·exact hx
   ·rw [hx] at h0;simp at h0
  have H0:Hid (∃ y f,MM ρ w p y∧Ok y∧y.count<=8∧MS.textL f y=MS.textL (x.more+1) x∧y.more<f∧y.rest.length+y.tk=x.rest.length+x.tk∧Fr (fun k=>1<=k∧k<=5) ρ w w):=⟨x,x.more+1,HM.out.1,HM.out.2,hx8,rfl,by omega,rfl,Fr.refl _ _ _⟩
  clear h0 hx HM;obtain ⟨C,hC⟩:∃ C,C=x.rest.length+x.tk:=⟨_,rfl⟩
  rw [← hC] at H0;clear hC;go_wp2_with fail
  go_loopw [] (fun wr=>Hid (∃ y f,MM ρ wr p y∧Ok y∧y.count<=8∧MS.textL f y=MS.textL (x.more+1) x∧y.more<f∧y.rest.length+y.tk=C∧Fr (fun k=>1<=k∧k<=5) ρ w wr)) (fun wr=>C - xq0 wr p 9+xq0 wr p 15 / 8)
  case atStart=>exact H0
  case round=>
   clear H0 c18;obtain ⟨y,f,g1,g2,g3,g4,g5,g6,g7⟩:=hrel.out;have e9:=xv1 g1.cell9;have e15:=xv1 g1.cell15;obtain ⟨f,rfl⟩:∃ n,f=n+1:=⟨f - 1,by omega⟩
   have HL:Hid (MS.textL (x.more+1) x=if y.takeHead.2.1≠0∨y.takeHead.2.2=0 then (y.takeHead.1,y.takeHead.2.1) else MS.textL f y.takeHead.1):=g4.symm;have HY:Hid (MM ρ wr p y∧Ok y∧Fr (fun k=>1<=k∧k<=5) ρ w wr):=⟨g1,g2,g7⟩
   clear g1 g2 g4 g7 hrel;go_wp2_with fail
   refine (kvg HY.out.1 HY.out.2.1 g3).mono ?_;rintro v w1 ⟨rfl,a1,a2⟩;obtain ⟨o1,k1⟩:=MS.takeHead_facts HY.out.2.1 g3;have k2:=MS.takeHead_tk y;obtain ⟨z,t,b,hr⟩:∃ z t b,y.takeHead=(z,t,b):=⟨_,_,_,rfl⟩
   rw [hr] at a1 HL k1 k2 o1 ⊢;have HR:Hid (MM ρ w1 p z∧Ok z∧Fr (fun k=>1<=k∧k<=5) ρ w w1):=⟨a1,o1,HY.out.2.2.trans a2⟩
   have n9:=xv1 a1.cell9;have n15:=xv1 a1.cell15;clear a1 a2 o1 hr;by_cases h0:t=0
   ·obtain ⟨q1,q2,q3,_⟩:=k1 h0;subst h0;by_cases hb:b=0
    ·have hd:((b:Int)==0)=true:=by simp [hb]
     rw [if_pos (Or.inr hb)] at HL;clear hb;go_wp2_with fail
     go_ret
     unfold y0y;rw [HE.out,HL.out];exact ⟨rfl,HR.out.1,HR.out.2.2⟩
    ·have hd:((b:Int)==0)=false:=by simp;exact hb
     rw [if_neg (by simp [hb])] at HL;have HN:Hid (∃ y f,MM ρ w1 p y∧Ok y∧y.count<=8∧MS.textL f y=MS.textL (x.more+1) x∧y.more<f∧y.rest.length+y.tk=C∧Fr (fun k=>1<=k∧k<=5) ρ w w1):=⟨z,f,HR.out.1,HR.out.2.1,by show z.count<=8;have:z.count<8:=q1;omega,HL.out.symm,by have:z.more<y.more:=q3;omega,k2.trans g6,HR.out.2.2⟩
     clear hb;go_wp2_with fail
     go_roundw
     case rel=>exact HN
     case measure=>
      rw [e9,e15,n9,n15];have q4:z.rest.length+z.count / 8<y.rest.length+y.count / 8:=q3;have q5:z.rest.length+z.tk=y.rest.length+y.tk:=k2;show C - z.tk+z.count / 8<C - y.tk+y.count / 8;omega
   ·have hd:((t:Int)==0)=false:=by simp;exact h0
    rw [if_pos (Or.inl h0)] at HL;clear k1;go_wp2_with fail
    go_ret
    unfold y0y;rw [HE.out,HL.out];exact ⟨rfl,HR.out.1,HR.out.2.2⟩
theorem xj1{ρ:Nat->Nat}{w:World}{p:Nat}{x:MS}(h:MM ρ w p x)(ok:Ok x)(hx:x.count<=8∨x.marks=0) :
  Calls Tryz.prog 132 #[.pointer (some ⟨p,0,none⟩)] w fun v w'=>y0y ρ w p x.passCheck v w':=by
 have HM:Hid (MM ρ w p x∧Ok x):=⟨h,ok⟩
 have c18:w.cell? ⟨p,18,none⟩=some (.int .u8 x.marks):=by obtain ⟨L,B,T⟩:=h;exact B.row.cell (i:=18) (by omega)
 have c20:w.cell? ⟨p,20,none⟩=some (.int .u8 x.hsum):=by obtain ⟨L,B,T⟩:=h;exact B.row.cell (i:=20) (by omega)
 have HE:Hid (x.passCheck=if x.marks / 4%2=0 then (x,0) else MS.passByte x.hsum x):=rfl;have hz:(bits .and .u8 (x.marks:Int) 4==0)=decide (x.marks / 4%2=0):=x3t x.marks 2 ok.marks (by decide);have hs:=ok.hsum;clear h ok;go_enter Tryz.func132,Tryz.ntmps132
 by_cases h0:x.marks / 4%2=0
 ·rw [if_pos h0] at HE;rw [decide_eq_true h0] at hz;clear h0 hx;go_wp2_with fail
  go_ret
  unfold y0y;rw [HE.out];exact ⟨rfl,HM.out.1,Fr.refl _ _ _⟩
 ·rw [if_neg h0] at HE;rw [decide_eq_false h0] at hz;have hx8:x.count<=8:=by
   rcases hx with hx | hx
   ·exact hx
   ·rw [hx] at h0;simp at h0
  clear h0 hx;go_wp2_with fail
  refine (jn3 x.hsum HM.out.1 HM.out.2 hx8 hs).mono ?_;rintro v w1 ⟨rfl,g1,g2⟩;have HR:Hid (MM ρ w1 p (MS.passByte x.hsum x).1∧Fr (fun k=>1<=k∧k<=5) ρ w w1):=⟨g1,g2⟩
  clear g1 g2;go_wp2_with fail
  go_ret
  unfold y0y;rw [HE.out];exact ⟨rfl,HR.out⟩
theorem zgi(fm:Nat)(w:World) :
  Calls Tryz.prog 127 #[.int .i64 fm] w fun v w'=>v= .returned (.tuple #[.int .u8 (MS.first fm), .int .u8 (MS.second fm)])∧w=w':=by
 by_cases h:fm=1
 ·have hd:((fm:Int)==1)=true:=by simp;omega
  have HF:Hid (MS.first fm=115∧MS.second fm=1):=by unfold MS.first MS.second;exact ⟨if_pos h,if_pos h⟩
  clear h;go_enter Tryz.func127,Tryz.ntmps127
  go_wp2_with fail
  go_ret2
  rw [HF.out.1,HF.out.2];exact ⟨rfl,rfl⟩
 ·have hd:((fm:Int)==1)=false:=by simp;omega
  have HF:Hid (MS.first fm=76∧MS.second fm=2):=by unfold MS.first MS.second;exact ⟨if_neg h,if_neg h⟩
  clear h;go_enter Tryz.func127,Tryz.ntmps127
  go_wp2_with fail
  go_ret2
  rw [HF.out.1,HF.out.2];exact ⟨rfl,rfl⟩
theorem MB.member{ρ:Nat->Nat}{w:World}{p:Nat}{y:MS}{L:Lo}(h:MB ρ w p y L):MB ρ ((((((w.setCell ⟨p,18,none⟩ (.int .u8 0)).setCell ⟨p,19,none⟩ (.int .i64 0)).setCell ⟨p,20,none⟩ (.int .u8 0)).setCell ⟨p,21,none⟩ (.int .i64 1)).setCell ⟨p,22,none⟩ (.int .i64 0)).setCell ⟨p,23,none⟩ (.int .u16 0)) p { y with marks:=0,head:=0,hsum:=0,sx:=1,sy:=0,size:=0 } L:=
 (((((h.set (y:={ y with marks:=0 }) (M:=L) 18 _ rfl ⟨rfl,rfl,rfl,rfl⟩ ⟨rfl,rfl⟩).set (y:={ y with marks:=0,head:=0 }) (M:=L) 19 _ rfl ⟨rfl,rfl,rfl,rfl⟩ ⟨rfl,rfl⟩).set (y:={ y with marks:=0,head:=0,hsum:=0 }) (M:=L) 20 _ rfl ⟨rfl,rfl,rfl,rfl⟩ ⟨rfl,rfl⟩).set (y:={ y with marks:=0,head:=0,hsum:=0,sx:=1 }) (M:=L) 21 _ rfl ⟨rfl,rfl,rfl,rfl⟩ ⟨rfl,rfl⟩).set (y:={ y with marks:=0,head:=0,hsum:=0,sx:=1,sy:=0 }) (M:=L) 22 _ rfl ⟨rfl,rfl,rfl,rfl⟩ ⟨rfl,rfl⟩).set 23 _ rfl ⟨rfl,rfl,rfl,rfl⟩ ⟨rfl,rfl⟩
theorem Fr.member{ρ:Nat->Nat}{w:World}{p:Nat}(h:ρ p=1)(a b c d e f:Value):Fr (fun k=>1<=k∧k<=5) ρ w ((((((w.setCell ⟨p,18,none⟩ a).setCell ⟨p,19,none⟩ b).setCell ⟨p,20,none⟩ c).setCell ⟨p,21,none⟩ d).setCell ⟨p,22,none⟩ e).setCell ⟨p,23,none⟩ f):=
 (((((Fr.own _ p 18 _ h).trans (Fr.own _ p 19 _ h)).trans (Fr.own _ p 20 _ h)).trans (Fr.own _ p 21 _ h)).trans (Fr.own _ p 22 _ h)).trans (Fr.own _ p 23 _ h)
theorem vq9{ρ:Nat->Nat}{w:World}{p:Nat}{x:MS}(h:MM ρ w p x)(ok:Ok x)(hx:x.count<=8) :
  Calls Tryz.prog 128 #[.pointer (some ⟨p,0,none⟩)] w fun v w'=>y0y ρ w p x.beginMember v w':=by
 have HM:Hid (MM ρ w p x∧Ok x):=⟨h,ok⟩
 have HE:Hid (x.beginMember=if (MS.need 8 x).2=0 then (if (MS.need 8 x).1.mb=(MS.need 8 x).1.me then (MS.need 8 x).1.refuse 6 else ({ (MS.need 8 x).1 with mb:=(MS.need 8 x).1.mb+1,marks:=0,head:=0,hsum:=0,sx:=1,sy:=0,size:=0,qc:=[] },0)) else MS.need 8 x):=rfl;clear h ok;go_enter Tryz.func128,Tryz.ntmps128
 go_wp2_with fail
 refine (zvo 8 HM.out.1 HM.out.2 (by omega) (by omega)).mono ?_;rintro v w1 ⟨rfl,g1,g2⟩;by_cases h0:(MS.need 8 x).2=0
 ·have k3:=MS.need_ok (k:=8) HM.out.2;rw [h0];rw [if_pos h0] at HE;obtain ⟨y,hy⟩:∃ y,y=(MS.need 8 x).1:=⟨_,rfl⟩
  rw [← hy] at g1 HE k3;have HY:Hid (MM ρ w1 p y∧Ok y∧Fr (fun k=>1<=k∧k<=5) ρ w w1):=⟨g1,k3,g2⟩
  have hmb:=k3.mbs;obtain ⟨L,B,T⟩:=g1;have c11:w1.cell? ⟨p,11,none⟩=some (.int .i64 y.mb):=B.row.cell (i:=11) (by omega);have c4:w1.cell? ⟨p,4,none⟩=some (.int .i64 y.me):=B.row.cell (i:=4) (by omega);have z11:=B.row.frozen 11;have HB:Hid (Bh ρ w p y y L w1):=⟨B,T,g2⟩
  clear B T g2 hy k3 h0;by_cases hq:y.mb=y.me
  ·rw [if_pos hq] at HE;have hqd:((y.mb:Int)==(y.me:Int))=true:=by simp [hq]
   clear hq;go_wp2_with fail
   go_quiet (fail)
   go_wp2_with fail
   refine (kv8 6 (HY.out.1.drewN _)).mono ?_;rintro v w2 ⟨rfl,g3,g4⟩;have HR:Hid (MM ρ w2 p (y.refuse 6).1∧Fr (fun k=>1<=k∧k<=5) ρ w w2):=⟨g3,(HY.out.2.2.drewN _).trans g4⟩
   clear g3 g4;go_wp2_with fail
   go_ret
   unfold y0y;rw [HE.out];exact ⟨rfl,HR.out⟩
  ·rw [if_neg hq] at HE;have hqd:((y.mb:Int)==(y.me:Int))=false:=by simp;omega
   have hm1:y.mb+1<=9223372036854775807:=by omega
   clear hq;go_wp2_with fail
   go_quiet (fail)
   go_wp2_with fail
   have HB2:Hid (Bh ρ w p { y with mb:=y.mb+1 } y L ((w1.drewN nq).setCell ⟨p,11,none⟩ (.int .i64 (y.mb+1:Nat)))):=(HB.out.drewN nq).set 11 _ rfl ⟨rfl,rfl⟩;have e1:((y.mb+1:Nat):Int)=(y.mb:Int)+1:=by omega
   rw [e1] at HB2;refine (kmk _).mono ?_;rintro v w3 ⟨rfl,b3⟩;have HB3:Hid (Bh ρ w p { y with mb:=y.mb+1 } y L w3):=HB2.out.below b3;clear b3 HB2;have d18:w3.cell? ⟨p,18,none⟩=some (.int .u8 y.marks):=HB3.out.mb.row.cell (i:=18) (by omega);have d19:w3.cell? ⟨p,19,none⟩=some (.int .i64 y.head):=HB3.out.mb.row.cell (i:=19) (by omega);have d20:w3.cell? ⟨p,20,none⟩=some (.int .u8 y.hsum):=HB3.out.mb.row.cell (i:=20) (by omega);have d21:w3.cell? ⟨p,21,none⟩=some (.int .i64 y.sx):=HB3.out.mb.row.cell (i:=21) (by omega);have d22:w3.cell? ⟨p,22,none⟩=some (.int .i64 y.sy):=HB3.out.mb.row.cell (i:=22) (by omega);have d23:w3.cell? ⟨p,23,none⟩=some (.int .u16 y.size):=HB3.out.mb.row.cell (i:=23) (by omega);have d17:w3.cell? ⟨p,17,none⟩=some (.pointer (some ⟨L.c,0,none⟩)):=HB3.out.mb.row.cell (i:=17) (by omega);have z18:=HB3.out.mb.row.frozen 18;have z19:=HB3.out.mb.row.frozen 19;have z20:=HB3.out.mb.row.frozen 20;have z21:=HB3.out.mb.row.frozen 21;have z22:=HB3.out.mb.row.frozen 22;have z23:=HB3.out.mb.row.frozen 23;have HB4:Hid (Bh ρ w p { y with mb:=y.mb+1,marks:=0,head:=0,hsum:=0,sx:=1,sy:=0,size:=0 } y L ((((((w3.setCell ⟨p,18,none⟩ (.int .u8 0)).setCell ⟨p,19,none⟩ (.int .i64 0)).setCell ⟨p,20,none⟩ (.int .u8 0)).setCell ⟨p,21,none⟩ (.int .i64 1)).setCell ⟨p,22,none⟩ (.int .i64 0)).setCell ⟨p,23,none⟩ (.int .u16 0))):=HB3.out.next HB3.out.mb.member (Fr.member HB3.out.mb.rp _ _ _ _ _ _);go_wp2_with fail
   obtain ⟨o,f,k⟩:=HB4.out.mb.rc;refine (ve5 k).mono ?_;rintro v w5 ⟨rfl,r5,t5⟩;have HB5:Hid (Bh ρ w p { y with mb:=y.mb+1,marks:=0,head:=0,hsum:=0,sx:=1,sy:=0,size:=0,qc:=[] } y L w5):=HB4.out.next (HB4.out.mb.ringC r5 t5) (Fr.five t5 HB4.out.mb.rl.2.2.1 HB4.out.mb.rl.2.2.2 (by decide) (by decide));clear r5 t5 k;go_wp2_with fail
   go_ret
   unfold y0y;rw [HE.out];exact ⟨rfl,HB5.out.done rfl rfl rfl rfl ⟨rfl,rfl⟩⟩
 ·rw [if_neg h0] at HE;obtain ⟨t,ht⟩:∃ t,t=(MS.need 8 x).2:=⟨_,rfl⟩
  have HR:Hid (MM ρ w1 p (MS.need 8 x).1∧Fr (fun k=>1<=k∧k<=5) ρ w w1∧(MS.need 8 x).2=t):=⟨g1,g2,ht.symm⟩
  rw [← ht] at h0 ⊢;have h0':((t:Int)==0)=false:=by simp;exact h0
  clear g1 g2 ht;go_wp2_with fail
  go_ret
  unfold y0y;rw [HE.out,HR.out.2.2];exact ⟨rfl,HR.out.1,HR.out.2.1⟩
end Go.Proofs.YtbcjmakpempkiaaGreatDoor
