import Derived.Test.YtbcjmakpempkiaaGreatDoorX18
set_option maxRecDepth 100000
set_option maxHeartbeats 8000000
set_option linter.all false
namespace Go.Proofs.YtbcjmakpempkiaaGreatDoor
open Go.RowKit
structure Hc(x:MS):Prop where
 ok:Ok x
 cnt:x.count=0∨x.count=8
theorem Hc.le{x:MS}(h:Hc x):x.count<=8:=by rcases h.cnt with h | h <;> omega
theorem Hc.need{x:MS}(h:Hc x)(h0:(MS.need 8 x).2=0):Hc (MS.need 8 x).1∧(MS.need 8 x).1.count=8:=by
 have k1:=MS.need_cnt h.ok h0;have k2:=MS.need_bits h.ok h0;have:=h.cnt;have e:(MS.need 8 x).1.count=8:=by omega
 exact ⟨⟨MS.need_ok h.ok,Or.inr e⟩,e⟩
theorem Hc.takeHead{x:MS}(h:Hc x)(h0:x.takeHead.2.1=0):Hc x.takeHead.1∧x.takeHead.1.fm=x.fm∧x.takeHead.1.count=0:=by
 obtain ⟨o,k⟩:=MS.takeHead_facts h.ok h.le;obtain ⟨_,_,_,k4⟩:=k h0;have hf:x.takeHead.1.fm=x.fm:=by rw [k4]
 have hn:(MS.need 8 x).2=0:=by
  apply Classical.byContradiction;intro hn;unfold MS.takeHead at h0;rw [if_pos hn] at h0;exact hn h0
 have hc:x.takeHead.1.count=0:=by
  have e:=(h.need hn).2;unfold MS.takeHead at h0 ⊢;rw [if_neg (by rw [hn];simp)] at h0 ⊢;by_cases hq:(MS.need 8 x).1.head=(MS.need 8 x).1.he
  ·rw [if_pos hq] at h0;cases h0
  ·rw [if_neg hq];show (MS.need 8 x).1.count - 8=0;omega
 exact ⟨⟨o,Or.inl hc⟩,hf,hc⟩
theorem Hc.passByte{x:MS}(h:Hc x){want:Nat}(h0:(MS.passByte want x).2=0):Hc (MS.passByte want x).1∧(MS.passByte want x).1.fm=x.fm:=by
 have e:MS.passByte want x=if x.takeHead.2.1=0 then (if x.takeHead.2.2=want then (x.takeHead.1,0) else x.takeHead.1.refuse 4) else (x.takeHead.1,x.takeHead.2.1):=rfl;rw [e] at h0 ⊢;by_cases ht:x.takeHead.2.1=0
 ·rw [if_pos ht] at h0 ⊢;by_cases hw:x.takeHead.2.2=want
  ·rw [if_pos hw];exact ⟨(h.takeHead ht).1,(h.takeHead ht).2.1⟩
  ·rw [if_neg hw] at h0;cases h0
 ·rw [if_neg ht] at h0;exact absurd h0 ht
theorem Hc.passFixed{x:MS}(h:Hc x){want:Nat}(h0:(MS.passFixed want x).2=0):Hc (MS.passFixed want x).1∧(MS.passFixed want x).1.fm=x.fm:=by
 unfold MS.passFixed at *;by_cases hf:x.fm=0
 ·rw [if_pos hf];exact ⟨h,rfl⟩
 ·rw [if_neg hf] at h0 ⊢;exact h.passByte h0
theorem Hc.passMarks{x:MS}(h:Hc x)(h0:x.passMarks.2=0):Hc x.passMarks.1∧x.passMarks.1.fm=x.fm:=by
 have e:x.passMarks=if x.fm=2 then (if x.takeHead.2.1=0 then (if 7<x.takeHead.2.2 then x.takeHead.1.refuse 4 else ({ x.takeHead.1 with marks:=x.takeHead.2.2 },0)) else (x.takeHead.1,x.takeHead.2.1)) else (x,0):=rfl;rw [e] at h0 ⊢;by_cases hf:x.fm=2
 ·rw [if_pos hf] at h0 ⊢;by_cases ht:x.takeHead.2.1=0
  ·rw [if_pos ht] at h0 ⊢;by_cases hw:7<x.takeHead.2.2
   ·rw [if_pos hw] at h0;cases h0
   ·rw [if_neg hw];exact ⟨⟨{ (h.takeHead ht).1.ok with marks:=by show x.takeHead.2.2<256;omega },(h.takeHead ht).1.cnt⟩,(h.takeHead ht).2.1⟩
  ·rw [if_neg ht] at h0;exact absurd h0 ht
 ·rw [if_neg hf];exact ⟨h,rfl⟩
theorem Hc.textL:∀ (f:Nat) {x:MS},Hc x->(MS.textL f x).2=0->Hc (MS.textL f x).1∧(MS.textL f x).1.fm=x.fm
 | 0,x,h,h0=>by cases h0
 | f+1,x,h,h0=>by
  unfold MS.textL at h0 ⊢;by_cases hq:x.takeHead.2.1≠0∨x.takeHead.2.2=0
  ·rw [if_pos hq] at h0 ⊢;exact ⟨(h.takeHead h0).1,(h.takeHead h0).2.1⟩
  ·rw [if_neg hq] at h0 ⊢;have ht:x.takeHead.2.1=0:=Classical.byContradiction fun hn=>hq (Or.inl hn)
   obtain ⟨a,b⟩:=Hc.textL f (h.takeHead ht).1 h0;exact ⟨a,b.trans (h.takeHead ht).2.1⟩
theorem Hc.passText{x:MS}(h:Hc x){m:Nat}(h0:(MS.passText m x).2=0):Hc (MS.passText m x).1∧(MS.passText m x).1.fm=x.fm:=by
 unfold MS.passText at *;by_cases hq:x.marks / m%2=0
 ·rw [if_pos hq];exact ⟨h,rfl⟩
 ·rw [if_neg hq] at h0 ⊢;exact Hc.textL _ h h0
theorem Hc.passCheck{x:MS}(h:Hc x)(h0:x.passCheck.2=0):Hc x.passCheck.1∧x.passCheck.1.fm=x.fm:=by
 unfold MS.passCheck at *;by_cases hq:x.marks / 4%2=0
 ·rw [if_pos hq];exact ⟨h,rfl⟩
 ·rw [if_neg hq] at h0 ⊢;exact h.passByte h0
theorem Hc.beginMember{x:MS}(h:Hc x)(h0:x.beginMember.2=0):Hc x.beginMember.1∧x.beginMember.1.fm=x.fm:=by
 have e:x.beginMember=if (MS.need 8 x).2=0 then (if (MS.need 8 x).1.mb=(MS.need 8 x).1.me then (MS.need 8 x).1.refuse 6 else ({ (MS.need 8 x).1 with mb:=(MS.need 8 x).1.mb+1,marks:=0,head:=0,hsum:=0,sx:=1,sy:=0,size:=0,qc:=[] },0)) else MS.need 8 x:=rfl;rw [e] at h0 ⊢;by_cases hn:(MS.need 8 x).2=0
 ·rw [if_pos hn] at h0 ⊢;by_cases hq:(MS.need 8 x).1.mb=(MS.need 8 x).1.me
  ·rw [if_pos hq] at h0;cases h0
  ·rw [if_neg hq];have k:=(h.need hn).1;have hf:(MS.need 8 x).1.fm=x.fm:=by rw [MS.need_same h.ok hn]
   exact ⟨⟨{ k.ok with mbs:=⟨by have:=k.ok.mbs.1;show (MS.need 8 x).1.mb+1<=(MS.need 8 x).1.me;omega,k.ok.mbs.2⟩,hd:=⟨Nat.zero_le _,k.ok.hd.2⟩,hsum:=by show 0<256;omega,size:=by show 0<65536;omega,marks:=by show 0<256;omega,sum:=⟨by show 1<=65520;omega,Nat.zero_le _⟩ },k.cnt⟩,hf⟩
 ·rw [if_neg hn] at h0;exact absurd h0 hn
theorem Ok.st{x:MS}(h:Ok x)(n:Nat):Ok { x with st:=n }:={ h with }
theorem MM.st{ρ:Nat->Nat}{w:World}{p:Nat}{x:MS}(h:MM ρ w p x)(n:Nat):MM ρ (w.setCell ⟨p,7,none⟩ (.int .i64 n)) p { x with st:=n }∧Fr (fun k=>1<=k∧k<=5) ρ w (w.setCell ⟨p,7,none⟩ (.int .i64 n)):=by
 obtain ⟨L,B,T⟩:=h;exact (((show Bh ρ w p x x L w from ⟨B,T,Fr.refl _ _ _⟩).set (z:={ x with st:=n }) 7 _ rfl ⟨rfl,rfl⟩).done rfl rfl rfl rfl ⟨rfl,rfl⟩)
theorem MM.cell7{ρ:Nat->Nat}{w:World}{p:Nat}{x:MS}(h:MM ρ w p x):w.cell? ⟨p,7,none⟩=some (.int .i64 x.st)∧w.frozen? ⟨p,7,none⟩=false:=by
 obtain ⟨L,B,T⟩:=h;exact ⟨B.row.cell (i:=7) (by omega),B.row.frozen 7⟩
theorem MM.cell0{ρ:Nat->Nat}{w:World}{p:Nat}{x:MS}(h:MM ρ w p x):w.cell? ⟨p,0,none⟩=some (.int .i64 x.fm):=by
 obtain ⟨L,B,T⟩:=h;exact B.row.cell (i:=0) (by omega)
structure Hw(ρ:Nat->Nat)(w:World)(p:Nat)(x y:MS)(w':World):Prop where
 mm:MM ρ w' p y
 hc:Hc y
 fm:y.fm=x.fm
 fr:Fr (fun k=>1<=k∧k<=5) ρ w w'
theorem Hw.next{ρ:Nat->Nat}{w w1 w2:World}{p:Nat}{x y:MS}{r:MS×Nat}(h:Hw ρ w p x y w1)(m:MM ρ w2 p r.1)(f:Fr (fun k=>1<=k∧k<=5) ρ w1 w2)(k:Hc r.1∧r.1.fm=y.fm)(n:Nat):Hw ρ w p x { r.1 with st:=n } (w2.setCell ⟨p,7,none⟩ (.int .i64 n)):=⟨(m.st n).1,⟨k.1.ok.st n,k.1.cnt⟩,k.2.trans h.fm,(h.fr.trans f).trans (m.st n).2⟩
theorem zvt(fm:Nat):MS.first fm<256:=by unfold MS.first;split <;> omega
theorem kph(fm:Nat):MS.second fm<256:=by unfold MS.second;split <;> omega
theorem vkj{ρ:Nat->Nat}{w:World}{p:Nat}{x:MS}(h:MM ρ w p x)(hc:Hc x)(hst:x.st=6) :
  Calls Tryz.prog 100 #[.pointer (some ⟨p,0,none⟩)] w fun v w'=>y0y ρ w p (MS.h6 x) v w':=by
 have H6:Hid (Hw ρ w p x x w):=⟨h,hc,rfl,Fr.refl _ _ _⟩
 have c0:=h.cell0;have c7:=h.cell7.1;rw [hst] at c7;clear h hc hst;go_enter Tryz.func100,Tryz.ntmps100
 go_wp2_with fail
 refine (zgi x.fm w).mono ?_;rintro v w' ⟨rfl,rfl⟩;obtain ⟨b1,hb1⟩:∃ b,b=MS.first x.fm:=⟨_,rfl⟩
 obtain ⟨b2,hb2⟩:∃ b,b=MS.second x.fm:=⟨_,rfl⟩
 rw [← hb1,← hb2];have HB1:Hid (b1=MS.first x.fm):=hb1;have HB2:Hid (b2=MS.second x.fm):=hb2;clear hb1 hb2;go_wp2_with fail
 refine (xj1 H6.out.mm H6.out.hc.ok (Or.inl H6.out.hc.le)).mono ?_;rintro v w7 ⟨rfl,g1,g2⟩;have R6':Hid (MS.h6 x=if (x.passCheck).2=0 then ({ (x.passCheck).1 with st:=7 },0) else x.passCheck):=by
  show MS.h6 x=_;rfl
 by_cases h6:(x.passCheck).2=0
 ·rw [if_pos h6] at R6';have H7:Hid (Hw ρ w p x { (x.passCheck).1 with st:=7 } (w7.setCell ⟨p,7,none⟩ (.int .i64 (7:Nat)))):=H6.out.next g1 g2 (H6.out.hc.passCheck h6) 7;have k7:=g1.cell7;have k70:=k7.1;have k71:=k7.2;rw [h6];clear g1 g2 k7;go_wp2_with fail
  go_ret
  unfold y0y;rw [R6'.out];exact ⟨rfl,H7.out.mm,H7.out.fr⟩
 ·rw [if_neg h6] at R6';have HR:Hid (MM ρ w7 p (x.passCheck).1∧Fr (fun k=>1<=k∧k<=5) ρ w w7):=⟨g1,H6.out.fr.trans g2⟩
  obtain ⟨t,ht⟩:∃ t,t=(x.passCheck).2:=⟨_,rfl⟩
  have HT:Hid ((x.passCheck).2=t):=ht.symm;rw [← ht] at h6 ⊢;have h0':((t:Int)==0)=false:=by simp;exact h6
  clear g1 g2 ht;go_wp2_with fail
  go_ret
  unfold y0y;rw [R6'.out,HT.out];exact ⟨rfl,HR.out⟩
theorem jqj{ρ:Nat->Nat}{w:World}{p:Nat}{x:MS}(h:MM ρ w p x)(hc:Hc x)(hst:x.st=5) :
  Calls Tryz.prog 100 #[.pointer (some ⟨p,0,none⟩)] w fun v w'=>y0y ρ w p (MS.h5 x) v w':=by
 have H5:Hid (Hw ρ w p x x w):=⟨h,hc,rfl,Fr.refl _ _ _⟩
 have c0:=h.cell0;have c7:=h.cell7.1;rw [hst] at c7;clear h hc hst;go_enter Tryz.func100,Tryz.ntmps100
 go_wp2_with fail
 refine (zgi x.fm w).mono ?_;rintro v w' ⟨rfl,rfl⟩;obtain ⟨b1,hb1⟩:∃ b,b=MS.first x.fm:=⟨_,rfl⟩
 obtain ⟨b2,hb2⟩:∃ b,b=MS.second x.fm:=⟨_,rfl⟩
 rw [← hb1,← hb2];have HB1:Hid (b1=MS.first x.fm):=hb1;have HB2:Hid (b2=MS.second x.fm):=hb2;clear hb1 hb2;go_wp2_with fail
 refine (zvv 1 H5.out.mm H5.out.hc.ok (Or.inl H5.out.hc.le) (by omega)).mono ?_;rintro v w6 ⟨rfl,g1,g2⟩;have R5':Hid (MS.h5 x=if (MS.passText 2 x).2=0 then MS.h6 { (MS.passText 2 x).1 with st:=6 } else MS.passText 2 x):=by
  show MS.h5 x=_;rfl
 by_cases h5:(MS.passText 2 x).2=0
 ·rw [if_pos h5] at R5';have H6:Hid (Hw ρ w p x { (MS.passText 2 x).1 with st:=6 } (w6.setCell ⟨p,7,none⟩ (.int .i64 (6:Nat)))):=H5.out.next g1 g2 (H5.out.hc.passText h5) 6;have k7:=g1.cell7;have k70:=k7.1;have k71:=k7.2;rw [h5];clear g1 g2 k7;obtain ⟨y6,hy⟩:∃ y:MS,y={ (MS.passText 2 x).1 with st:=6 }:=⟨_,rfl⟩
  rw [← hy] at H6 R5';have R6:Hid (MS.h5 x=MS.h6 y6):=R5'.out;clear hy R5' H5;go_wp2_with fail
  refine (xj1 H6.out.mm H6.out.hc.ok (Or.inl H6.out.hc.le)).mono ?_;rintro v w7 ⟨rfl,g1,g2⟩;have R6':Hid (MS.h5 x=if (y6.passCheck).2=0 then ({ (y6.passCheck).1 with st:=7 },0) else y6.passCheck):=by
   show MS.h5 x=_;rw [R6.out];rfl
  clear R6;by_cases h6:(y6.passCheck).2=0
  ·rw [if_pos h6] at R6';have H7:Hid (Hw ρ w p x { (y6.passCheck).1 with st:=7 } (w7.setCell ⟨p,7,none⟩ (.int .i64 (7:Nat)))):=H6.out.next g1 g2 (H6.out.hc.passCheck h6) 7;have k7:=g1.cell7;have k70:=k7.1;have k71:=k7.2;rw [h6];clear g1 g2 k7;go_wp2_with fail
   go_ret
   unfold y0y;rw [R6'.out];exact ⟨rfl,H7.out.mm,H7.out.fr⟩
  ·rw [if_neg h6] at R6';have HR:Hid (MM ρ w7 p (y6.passCheck).1∧Fr (fun k=>1<=k∧k<=5) ρ w w7):=⟨g1,H6.out.fr.trans g2⟩
   obtain ⟨t,ht⟩:∃ t,t=(y6.passCheck).2:=⟨_,rfl⟩
   have HT:Hid ((y6.passCheck).2=t):=ht.symm;rw [← ht] at h6 ⊢;have h0':((t:Int)==0)=false:=by simp;exact h6
   clear g1 g2 ht;go_wp2_with fail
   go_ret
   unfold y0y;rw [R6'.out,HT.out];exact ⟨rfl,HR.out⟩
 ·rw [if_neg h5] at R5';have HR:Hid (MM ρ w6 p (MS.passText 2 x).1∧Fr (fun k=>1<=k∧k<=5) ρ w w6):=⟨g1,H5.out.fr.trans g2⟩
  obtain ⟨t,ht⟩:∃ t,t=(MS.passText 2 x).2:=⟨_,rfl⟩
  have HT:Hid ((MS.passText 2 x).2=t):=ht.symm;rw [← ht] at h5 ⊢;have h0':((t:Int)==0)=false:=by simp;exact h5
  clear g1 g2 ht;go_wp2_with fail
  go_ret
  unfold y0y;rw [R5'.out,HT.out];exact ⟨rfl,HR.out⟩
theorem zqf{ρ:Nat->Nat}{w:World}{p:Nat}{x:MS}(h:MM ρ w p x)(hc:Hc x)(hst:x.st=4) :
  Calls Tryz.prog 100 #[.pointer (some ⟨p,0,none⟩)] w fun v w'=>y0y ρ w p (MS.h4 x) v w':=by
 have H4:Hid (Hw ρ w p x x w):=⟨h,hc,rfl,Fr.refl _ _ _⟩
 have c0:=h.cell0;have c7:=h.cell7.1;rw [hst] at c7;clear h hc hst;go_enter Tryz.func100,Tryz.ntmps100
 go_wp2_with fail
 refine (zgi x.fm w).mono ?_;rintro v w' ⟨rfl,rfl⟩;obtain ⟨b1,hb1⟩:∃ b,b=MS.first x.fm:=⟨_,rfl⟩
 obtain ⟨b2,hb2⟩:∃ b,b=MS.second x.fm:=⟨_,rfl⟩
 rw [← hb1,← hb2];have HB1:Hid (b1=MS.first x.fm):=hb1;have HB2:Hid (b2=MS.second x.fm):=hb2;clear hb1 hb2;go_wp2_with fail
 refine (zvv 0 H4.out.mm H4.out.hc.ok (Or.inl H4.out.hc.le) (by omega)).mono ?_;rintro v w5 ⟨rfl,g1,g2⟩;have R4':Hid (MS.h4 x=if (MS.passText 1 x).2=0 then MS.h5 { (MS.passText 1 x).1 with st:=5 } else MS.passText 1 x):=by
  show MS.h4 x=_;rfl
 by_cases h4:(MS.passText 1 x).2=0
 ·rw [if_pos h4] at R4';have H5:Hid (Hw ρ w p x { (MS.passText 1 x).1 with st:=5 } (w5.setCell ⟨p,7,none⟩ (.int .i64 (5:Nat)))):=H4.out.next g1 g2 (H4.out.hc.passText h4) 5;have k7:=g1.cell7;have k70:=k7.1;have k71:=k7.2;rw [h4];clear g1 g2 k7;obtain ⟨y5,hy⟩:∃ y:MS,y={ (MS.passText 1 x).1 with st:=5 }:=⟨_,rfl⟩
  rw [← hy] at H5 R4';have R5:Hid (MS.h4 x=MS.h5 y5):=R4'.out;clear hy R4' H4;go_wp2_with fail
  refine (zvv 1 H5.out.mm H5.out.hc.ok (Or.inl H5.out.hc.le) (by omega)).mono ?_;rintro v w6 ⟨rfl,g1,g2⟩;have R5':Hid (MS.h4 x=if (MS.passText 2 y5).2=0 then MS.h6 { (MS.passText 2 y5).1 with st:=6 } else MS.passText 2 y5):=by
   show MS.h4 x=_;rw [R5.out];rfl
  clear R5;by_cases h5:(MS.passText 2 y5).2=0
  ·rw [if_pos h5] at R5';have H6:Hid (Hw ρ w p x { (MS.passText 2 y5).1 with st:=6 } (w6.setCell ⟨p,7,none⟩ (.int .i64 (6:Nat)))):=H5.out.next g1 g2 (H5.out.hc.passText h5) 6;have k7:=g1.cell7;have k70:=k7.1;have k71:=k7.2;rw [h5];clear g1 g2 k7;obtain ⟨y6,hy⟩:∃ y:MS,y={ (MS.passText 2 y5).1 with st:=6 }:=⟨_,rfl⟩
   rw [← hy] at H6 R5';have R6:Hid (MS.h4 x=MS.h6 y6):=R5'.out;clear hy R5' H5;go_wp2_with fail
   refine (xj1 H6.out.mm H6.out.hc.ok (Or.inl H6.out.hc.le)).mono ?_;rintro v w7 ⟨rfl,g1,g2⟩;have R6':Hid (MS.h4 x=if (y6.passCheck).2=0 then ({ (y6.passCheck).1 with st:=7 },0) else y6.passCheck):=by
    show MS.h4 x=_;rw [R6.out];rfl
   clear R6;by_cases h6:(y6.passCheck).2=0
   ·rw [if_pos h6] at R6';have H7:Hid (Hw ρ w p x { (y6.passCheck).1 with st:=7 } (w7.setCell ⟨p,7,none⟩ (.int .i64 (7:Nat)))):=H6.out.next g1 g2 (H6.out.hc.passCheck h6) 7;have k7:=g1.cell7;have k70:=k7.1;have k71:=k7.2;rw [h6];clear g1 g2 k7;go_wp2_with fail
    go_ret
    unfold y0y;rw [R6'.out];exact ⟨rfl,H7.out.mm,H7.out.fr⟩
   ·rw [if_neg h6] at R6';have HR:Hid (MM ρ w7 p (y6.passCheck).1∧Fr (fun k=>1<=k∧k<=5) ρ w w7):=⟨g1,H6.out.fr.trans g2⟩
    obtain ⟨t,ht⟩:∃ t,t=(y6.passCheck).2:=⟨_,rfl⟩
    have HT:Hid ((y6.passCheck).2=t):=ht.symm;rw [← ht] at h6 ⊢;have h0':((t:Int)==0)=false:=by simp;exact h6
    clear g1 g2 ht;go_wp2_with fail
    go_ret
    unfold y0y;rw [R6'.out,HT.out];exact ⟨rfl,HR.out⟩
  ·rw [if_neg h5] at R5';have HR:Hid (MM ρ w6 p (MS.passText 2 y5).1∧Fr (fun k=>1<=k∧k<=5) ρ w w6):=⟨g1,H5.out.fr.trans g2⟩
   obtain ⟨t,ht⟩:∃ t,t=(MS.passText 2 y5).2:=⟨_,rfl⟩
   have HT:Hid ((MS.passText 2 y5).2=t):=ht.symm;rw [← ht] at h5 ⊢;have h0':((t:Int)==0)=false:=by simp;exact h5
   clear g1 g2 ht;go_wp2_with fail
   go_ret
   unfold y0y;rw [R5'.out,HT.out];exact ⟨rfl,HR.out⟩
 ·rw [if_neg h4] at R4';have HR:Hid (MM ρ w5 p (MS.passText 1 x).1∧Fr (fun k=>1<=k∧k<=5) ρ w w5):=⟨g1,H4.out.fr.trans g2⟩
  obtain ⟨t,ht⟩:∃ t,t=(MS.passText 1 x).2:=⟨_,rfl⟩
  have HT:Hid ((MS.passText 1 x).2=t):=ht.symm;rw [← ht] at h4 ⊢;have h0':((t:Int)==0)=false:=by simp;exact h4
  clear g1 g2 ht;go_wp2_with fail
  go_ret
  unfold y0y;rw [R4'.out,HT.out];exact ⟨rfl,HR.out⟩
theorem x0l{ρ:Nat->Nat}{w:World}{p:Nat}{x:MS}(h:MM ρ w p x)(hc:Hc x)(hst:x.st=3) :
  Calls Tryz.prog 100 #[.pointer (some ⟨p,0,none⟩)] w fun v w'=>y0y ρ w p (MS.h3 x) v w':=by
 have H3:Hid (Hw ρ w p x x w):=⟨h,hc,rfl,Fr.refl _ _ _⟩
 have c0:=h.cell0;have c7:=h.cell7.1;rw [hst] at c7;clear h hc hst;go_enter Tryz.func100,Tryz.ntmps100
 go_wp2_with fail
 refine (zgi x.fm w).mono ?_;rintro v w' ⟨rfl,rfl⟩;obtain ⟨b1,hb1⟩:∃ b,b=MS.first x.fm:=⟨_,rfl⟩
 obtain ⟨b2,hb2⟩:∃ b,b=MS.second x.fm:=⟨_,rfl⟩
 rw [← hb1,← hb2];have HB1:Hid (b1=MS.first x.fm):=hb1;have HB2:Hid (b2=MS.second x.fm):=hb2;clear hb1 hb2;go_wp2_with fail
 refine (xdp H3.out.mm H3.out.hc.ok (Or.inl H3.out.hc.le)).mono ?_;rintro v w4 ⟨rfl,g1,g2⟩;have R3':Hid (MS.h3 x=if (x.passMarks).2=0 then MS.h4 { (x.passMarks).1 with st:=4 } else x.passMarks):=by
  show MS.h3 x=_;rfl
 by_cases h3:(x.passMarks).2=0
 ·rw [if_pos h3] at R3';have H4:Hid (Hw ρ w p x { (x.passMarks).1 with st:=4 } (w4.setCell ⟨p,7,none⟩ (.int .i64 (4:Nat)))):=H3.out.next g1 g2 (H3.out.hc.passMarks h3) 4;have k7:=g1.cell7;have k70:=k7.1;have k71:=k7.2;rw [h3];clear g1 g2 k7;obtain ⟨y4,hy⟩:∃ y:MS,y={ (x.passMarks).1 with st:=4 }:=⟨_,rfl⟩
  rw [← hy] at H4 R3';have R4:Hid (MS.h3 x=MS.h4 y4):=R3'.out;clear hy R3' H3;go_wp2_with fail
  refine (zvv 0 H4.out.mm H4.out.hc.ok (Or.inl H4.out.hc.le) (by omega)).mono ?_;rintro v w5 ⟨rfl,g1,g2⟩;have R4':Hid (MS.h3 x=if (MS.passText 1 y4).2=0 then MS.h5 { (MS.passText 1 y4).1 with st:=5 } else MS.passText 1 y4):=by
   show MS.h3 x=_;rw [R4.out];rfl
  clear R4;by_cases h4:(MS.passText 1 y4).2=0
  ·rw [if_pos h4] at R4';have H5:Hid (Hw ρ w p x { (MS.passText 1 y4).1 with st:=5 } (w5.setCell ⟨p,7,none⟩ (.int .i64 (5:Nat)))):=H4.out.next g1 g2 (H4.out.hc.passText h4) 5;have k7:=g1.cell7;have k70:=k7.1;have k71:=k7.2;rw [h4];clear g1 g2 k7;obtain ⟨y5,hy⟩:∃ y:MS,y={ (MS.passText 1 y4).1 with st:=5 }:=⟨_,rfl⟩
   rw [← hy] at H5 R4';have R5:Hid (MS.h3 x=MS.h5 y5):=R4'.out;clear hy R4' H4;go_wp2_with fail
   refine (zvv 1 H5.out.mm H5.out.hc.ok (Or.inl H5.out.hc.le) (by omega)).mono ?_;rintro v w6 ⟨rfl,g1,g2⟩;have R5':Hid (MS.h3 x=if (MS.passText 2 y5).2=0 then MS.h6 { (MS.passText 2 y5).1 with st:=6 } else MS.passText 2 y5):=by
    show MS.h3 x=_;rw [R5.out];rfl
   clear R5;by_cases h5:(MS.passText 2 y5).2=0
   ·rw [if_pos h5] at R5';have H6:Hid (Hw ρ w p x { (MS.passText 2 y5).1 with st:=6 } (w6.setCell ⟨p,7,none⟩ (.int .i64 (6:Nat)))):=H5.out.next g1 g2 (H5.out.hc.passText h5) 6;have k7:=g1.cell7;have k70:=k7.1;have k71:=k7.2;rw [h5];clear g1 g2 k7;obtain ⟨y6,hy⟩:∃ y:MS,y={ (MS.passText 2 y5).1 with st:=6 }:=⟨_,rfl⟩
    rw [← hy] at H6 R5';have R6:Hid (MS.h3 x=MS.h6 y6):=R5'.out;clear hy R5' H5;go_wp2_with fail
    refine (xj1 H6.out.mm H6.out.hc.ok (Or.inl H6.out.hc.le)).mono ?_;rintro v w7 ⟨rfl,g1,g2⟩;have R6':Hid (MS.h3 x=if (y6.passCheck).2=0 then ({ (y6.passCheck).1 with st:=7 },0) else y6.passCheck):=by
     show MS.h3 x=_;rw [R6.out];rfl
    clear R6;by_cases h6:(y6.passCheck).2=0
    ·rw [if_pos h6] at R6';have H7:Hid (Hw ρ w p x { (y6.passCheck).1 with st:=7 } (w7.setCell ⟨p,7,none⟩ (.int .i64 (7:Nat)))):=H6.out.next g1 g2 (H6.out.hc.passCheck h6) 7;have k7:=g1.cell7;have k70:=k7.1;have k71:=k7.2;rw [h6];clear g1 g2 k7;go_wp2_with fail
     go_ret
     unfold y0y;rw [R6'.out];exact ⟨rfl,H7.out.mm,H7.out.fr⟩
    ·rw [if_neg h6] at R6';have HR:Hid (MM ρ w7 p (y6.passCheck).1∧Fr (fun k=>1<=k∧k<=5) ρ w w7):=⟨g1,H6.out.fr.trans g2⟩
     obtain ⟨t,ht⟩:∃ t,t=(y6.passCheck).2:=⟨_,rfl⟩
     have HT:Hid ((y6.passCheck).2=t):=ht.symm;rw [← ht] at h6 ⊢;have h0':((t:Int)==0)=false:=by simp;exact h6
     clear g1 g2 ht;go_wp2_with fail
     go_ret
     unfold y0y;rw [R6'.out,HT.out];exact ⟨rfl,HR.out⟩
   ·rw [if_neg h5] at R5';have HR:Hid (MM ρ w6 p (MS.passText 2 y5).1∧Fr (fun k=>1<=k∧k<=5) ρ w w6):=⟨g1,H5.out.fr.trans g2⟩
    obtain ⟨t,ht⟩:∃ t,t=(MS.passText 2 y5).2:=⟨_,rfl⟩
    have HT:Hid ((MS.passText 2 y5).2=t):=ht.symm;rw [← ht] at h5 ⊢;have h0':((t:Int)==0)=false:=by simp;exact h5
    clear g1 g2 ht;go_wp2_with fail
    go_ret
    unfold y0y;rw [R5'.out,HT.out];exact ⟨rfl,HR.out⟩
  ·rw [if_neg h4] at R4';have HR:Hid (MM ρ w5 p (MS.passText 1 y4).1∧Fr (fun k=>1<=k∧k<=5) ρ w w5):=⟨g1,H4.out.fr.trans g2⟩
   obtain ⟨t,ht⟩:∃ t,t=(MS.passText 1 y4).2:=⟨_,rfl⟩
   have HT:Hid ((MS.passText 1 y4).2=t):=ht.symm;rw [← ht] at h4 ⊢;have h0':((t:Int)==0)=false:=by simp;exact h4
   clear g1 g2 ht;go_wp2_with fail
   go_ret
   unfold y0y;rw [R4'.out,HT.out];exact ⟨rfl,HR.out⟩
 ·rw [if_neg h3] at R3';have HR:Hid (MM ρ w4 p (x.passMarks).1∧Fr (fun k=>1<=k∧k<=5) ρ w w4):=⟨g1,H3.out.fr.trans g2⟩
  obtain ⟨t,ht⟩:∃ t,t=(x.passMarks).2:=⟨_,rfl⟩
  have HT:Hid ((x.passMarks).2=t):=ht.symm;rw [← ht] at h3 ⊢;have h0':((t:Int)==0)=false:=by simp;exact h3
  clear g1 g2 ht;go_wp2_with fail
  go_ret
  unfold y0y;rw [R3'.out,HT.out];exact ⟨rfl,HR.out⟩
theorem vr2{ρ:Nat->Nat}{w:World}{p:Nat}{x:MS}(h:MM ρ w p x)(hc:Hc x)(hst:x.st=2) :
  Calls Tryz.prog 100 #[.pointer (some ⟨p,0,none⟩)] w fun v w'=>y0y ρ w p (MS.h2 x) v w':=by
 have H2:Hid (Hw ρ w p x x w):=⟨h,hc,rfl,Fr.refl _ _ _⟩
 have c0:=h.cell0;have c7:=h.cell7.1;rw [hst] at c7;clear h hc hst;go_enter Tryz.func100,Tryz.ntmps100
 go_wp2_with fail
 refine (zgi x.fm w).mono ?_;rintro v w' ⟨rfl,rfl⟩;obtain ⟨b1,hb1⟩:∃ b,b=MS.first x.fm:=⟨_,rfl⟩
 obtain ⟨b2,hb2⟩:∃ b,b=MS.second x.fm:=⟨_,rfl⟩
 rw [← hb1,← hb2];have HB1:Hid (b1=MS.first x.fm):=hb1;have HB2:Hid (b2=MS.second x.fm):=hb2;clear hb1 hb2;go_wp2_with fail
 have E2:Hid (b2=MS.second x.fm):=by show b2=_;rw [H2.out.fm];exact HB2.out
 have C2:=zmn (MS.second x.fm) H2.out.mm H2.out.hc.ok (Or.inl H2.out.hc.le) (kph _);rw [← E2.out] at C2;refine C2.mono ?_;clear C2;rintro v w3 ⟨rfl,g1,g2⟩;have R2':Hid (MS.h2 x=if (MS.passFixed b2 x).2=0 then MS.h3 { (MS.passFixed b2 x).1 with st:=3 } else MS.passFixed b2 x):=by
  show MS.h2 x=_;rw [E2.out];rfl
 by_cases h2:(MS.passFixed b2 x).2=0
 ·rw [if_pos h2] at R2';have H3:Hid (Hw ρ w p x { (MS.passFixed b2 x).1 with st:=3 } (w3.setCell ⟨p,7,none⟩ (.int .i64 (3:Nat)))):=H2.out.next g1 g2 (H2.out.hc.passFixed h2) 3;have k7:=g1.cell7;have k70:=k7.1;have k71:=k7.2;rw [h2];clear g1 g2 k7;obtain ⟨y3,hy⟩:∃ y:MS,y={ (MS.passFixed b2 x).1 with st:=3 }:=⟨_,rfl⟩
  rw [← hy] at H3 R2';have R3:Hid (MS.h2 x=MS.h3 y3):=R2'.out;clear hy R2' H2;go_wp2_with fail
  refine (xdp H3.out.mm H3.out.hc.ok (Or.inl H3.out.hc.le)).mono ?_;rintro v w4 ⟨rfl,g1,g2⟩;have R3':Hid (MS.h2 x=if (y3.passMarks).2=0 then MS.h4 { (y3.passMarks).1 with st:=4 } else y3.passMarks):=by
   show MS.h2 x=_;rw [R3.out];rfl
  clear R3;by_cases h3:(y3.passMarks).2=0
  ·rw [if_pos h3] at R3';have H4:Hid (Hw ρ w p x { (y3.passMarks).1 with st:=4 } (w4.setCell ⟨p,7,none⟩ (.int .i64 (4:Nat)))):=H3.out.next g1 g2 (H3.out.hc.passMarks h3) 4;have k7:=g1.cell7;have k70:=k7.1;have k71:=k7.2;rw [h3];clear g1 g2 k7;obtain ⟨y4,hy⟩:∃ y:MS,y={ (y3.passMarks).1 with st:=4 }:=⟨_,rfl⟩
   rw [← hy] at H4 R3';have R4:Hid (MS.h2 x=MS.h4 y4):=R3'.out;clear hy R3' H3;go_wp2_with fail
   refine (zvv 0 H4.out.mm H4.out.hc.ok (Or.inl H4.out.hc.le) (by omega)).mono ?_;rintro v w5 ⟨rfl,g1,g2⟩;have R4':Hid (MS.h2 x=if (MS.passText 1 y4).2=0 then MS.h5 { (MS.passText 1 y4).1 with st:=5 } else MS.passText 1 y4):=by
    show MS.h2 x=_;rw [R4.out];rfl
   clear R4;by_cases h4:(MS.passText 1 y4).2=0
   ·rw [if_pos h4] at R4';have H5:Hid (Hw ρ w p x { (MS.passText 1 y4).1 with st:=5 } (w5.setCell ⟨p,7,none⟩ (.int .i64 (5:Nat)))):=H4.out.next g1 g2 (H4.out.hc.passText h4) 5;have k7:=g1.cell7;have k70:=k7.1;have k71:=k7.2;rw [h4];clear g1 g2 k7;obtain ⟨y5,hy⟩:∃ y:MS,y={ (MS.passText 1 y4).1 with st:=5 }:=⟨_,rfl⟩
    rw [← hy] at H5 R4';have R5:Hid (MS.h2 x=MS.h5 y5):=R4'.out;clear hy R4' H4;go_wp2_with fail
    refine (zvv 1 H5.out.mm H5.out.hc.ok (Or.inl H5.out.hc.le) (by omega)).mono ?_;rintro v w6 ⟨rfl,g1,g2⟩;have R5':Hid (MS.h2 x=if (MS.passText 2 y5).2=0 then MS.h6 { (MS.passText 2 y5).1 with st:=6 } else MS.passText 2 y5):=by
     show MS.h2 x=_;rw [R5.out];rfl
    clear R5;by_cases h5:(MS.passText 2 y5).2=0
    ·rw [if_pos h5] at R5';have H6:Hid (Hw ρ w p x { (MS.passText 2 y5).1 with st:=6 } (w6.setCell ⟨p,7,none⟩ (.int .i64 (6:Nat)))):=H5.out.next g1 g2 (H5.out.hc.passText h5) 6;have k7:=g1.cell7;have k70:=k7.1;have k71:=k7.2;rw [h5];clear g1 g2 k7;obtain ⟨y6,hy⟩:∃ y:MS,y={ (MS.passText 2 y5).1 with st:=6 }:=⟨_,rfl⟩
     rw [← hy] at H6 R5';have R6:Hid (MS.h2 x=MS.h6 y6):=R5'.out;clear hy R5' H5;go_wp2_with fail
     refine (xj1 H6.out.mm H6.out.hc.ok (Or.inl H6.out.hc.le)).mono ?_;rintro v w7 ⟨rfl,g1,g2⟩;have R6':Hid (MS.h2 x=if (y6.passCheck).2=0 then ({ (y6.passCheck).1 with st:=7 },0) else y6.passCheck):=by
      show MS.h2 x=_;rw [R6.out];rfl
     clear R6;by_cases h6:(y6.passCheck).2=0
     ·rw [if_pos h6] at R6';have H7:Hid (Hw ρ w p x { (y6.passCheck).1 with st:=7 } (w7.setCell ⟨p,7,none⟩ (.int .i64 (7:Nat)))):=H6.out.next g1 g2 (H6.out.hc.passCheck h6) 7;have k7:=g1.cell7;have k70:=k7.1;have k71:=k7.2;rw [h6];clear g1 g2 k7;go_wp2_with fail
      go_ret
      unfold y0y;rw [R6'.out];exact ⟨rfl,H7.out.mm,H7.out.fr⟩
     ·rw [if_neg h6] at R6';have HR:Hid (MM ρ w7 p (y6.passCheck).1∧Fr (fun k=>1<=k∧k<=5) ρ w w7):=⟨g1,H6.out.fr.trans g2⟩
      obtain ⟨t,ht⟩:∃ t,t=(y6.passCheck).2:=⟨_,rfl⟩
      have HT:Hid ((y6.passCheck).2=t):=ht.symm;rw [← ht] at h6 ⊢;have h0':((t:Int)==0)=false:=by simp;exact h6
      clear g1 g2 ht;go_wp2_with fail
      go_ret
      unfold y0y;rw [R6'.out,HT.out];exact ⟨rfl,HR.out⟩
    ·rw [if_neg h5] at R5';have HR:Hid (MM ρ w6 p (MS.passText 2 y5).1∧Fr (fun k=>1<=k∧k<=5) ρ w w6):=⟨g1,H5.out.fr.trans g2⟩
     obtain ⟨t,ht⟩:∃ t,t=(MS.passText 2 y5).2:=⟨_,rfl⟩
     have HT:Hid ((MS.passText 2 y5).2=t):=ht.symm;rw [← ht] at h5 ⊢;have h0':((t:Int)==0)=false:=by simp;exact h5
     clear g1 g2 ht;go_wp2_with fail
     go_ret
     unfold y0y;rw [R5'.out,HT.out];exact ⟨rfl,HR.out⟩
   ·rw [if_neg h4] at R4';have HR:Hid (MM ρ w5 p (MS.passText 1 y4).1∧Fr (fun k=>1<=k∧k<=5) ρ w w5):=⟨g1,H4.out.fr.trans g2⟩
    obtain ⟨t,ht⟩:∃ t,t=(MS.passText 1 y4).2:=⟨_,rfl⟩
    have HT:Hid ((MS.passText 1 y4).2=t):=ht.symm;rw [← ht] at h4 ⊢;have h0':((t:Int)==0)=false:=by simp;exact h4
    clear g1 g2 ht;go_wp2_with fail
    go_ret
    unfold y0y;rw [R4'.out,HT.out];exact ⟨rfl,HR.out⟩
  ·rw [if_neg h3] at R3';have HR:Hid (MM ρ w4 p (y3.passMarks).1∧Fr (fun k=>1<=k∧k<=5) ρ w w4):=⟨g1,H3.out.fr.trans g2⟩
   obtain ⟨t,ht⟩:∃ t,t=(y3.passMarks).2:=⟨_,rfl⟩
   have HT:Hid ((y3.passMarks).2=t):=ht.symm;rw [← ht] at h3 ⊢;have h0':((t:Int)==0)=false:=by simp;exact h3
   clear g1 g2 ht;go_wp2_with fail
   go_ret
   unfold y0y;rw [R3'.out,HT.out];exact ⟨rfl,HR.out⟩
 ·rw [if_neg h2] at R2';have HR:Hid (MM ρ w3 p (MS.passFixed b2 x).1∧Fr (fun k=>1<=k∧k<=5) ρ w w3):=⟨g1,H2.out.fr.trans g2⟩
  obtain ⟨t,ht⟩:∃ t,t=(MS.passFixed b2 x).2:=⟨_,rfl⟩
  have HT:Hid ((MS.passFixed b2 x).2=t):=ht.symm;rw [← ht] at h2 ⊢;have h0':((t:Int)==0)=false:=by simp;exact h2
  clear g1 g2 ht;go_wp2_with fail
  go_ret
  unfold y0y;rw [R2'.out,HT.out];exact ⟨rfl,HR.out⟩
theorem y1s{ρ:Nat->Nat}{w:World}{p:Nat}{x:MS}(h:MM ρ w p x)(hc:Hc x)(hst:x.st=1) :
  Calls Tryz.prog 100 #[.pointer (some ⟨p,0,none⟩)] w fun v w'=>y0y ρ w p (MS.h1 x) v w':=by
 have H1:Hid (Hw ρ w p x x w):=⟨h,hc,rfl,Fr.refl _ _ _⟩
 have c0:=h.cell0;have c7:=h.cell7.1;rw [hst] at c7;clear h hc hst;go_enter Tryz.func100,Tryz.ntmps100
 go_wp2_with fail
 refine (zgi x.fm w).mono ?_;rintro v w' ⟨rfl,rfl⟩;obtain ⟨b1,hb1⟩:∃ b,b=MS.first x.fm:=⟨_,rfl⟩
 obtain ⟨b2,hb2⟩:∃ b,b=MS.second x.fm:=⟨_,rfl⟩
 rw [← hb1,← hb2];have HB1:Hid (b1=MS.first x.fm):=hb1;have HB2:Hid (b2=MS.second x.fm):=hb2;clear hb1 hb2;go_wp2_with fail
 have E1:Hid (b1=MS.first x.fm):=by show b1=_;rw [H1.out.fm];exact HB1.out
 have C1:=zmn (MS.first x.fm) H1.out.mm H1.out.hc.ok (Or.inl H1.out.hc.le) (zvt _);rw [← E1.out] at C1;refine C1.mono ?_;clear C1;rintro v w2 ⟨rfl,g1,g2⟩;have R1':Hid (MS.h1 x=if (MS.passFixed b1 x).2=0 then MS.h2 { (MS.passFixed b1 x).1 with st:=2 } else MS.passFixed b1 x):=by
  show MS.h1 x=_;rw [E1.out];rfl
 by_cases h1:(MS.passFixed b1 x).2=0
 ·rw [if_pos h1] at R1';have H2:Hid (Hw ρ w p x { (MS.passFixed b1 x).1 with st:=2 } (w2.setCell ⟨p,7,none⟩ (.int .i64 (2:Nat)))):=H1.out.next g1 g2 (H1.out.hc.passFixed h1) 2;have k7:=g1.cell7;have k70:=k7.1;have k71:=k7.2;rw [h1];clear g1 g2 k7;obtain ⟨y2,hy⟩:∃ y:MS,y={ (MS.passFixed b1 x).1 with st:=2 }:=⟨_,rfl⟩
  rw [← hy] at H2 R1';have R2:Hid (MS.h1 x=MS.h2 y2):=R1'.out;clear hy R1' H1;go_wp2_with fail
  have E2:Hid (b2=MS.second y2.fm):=by show b2=_;rw [H2.out.fm];exact HB2.out
  have C2:=zmn (MS.second y2.fm) H2.out.mm H2.out.hc.ok (Or.inl H2.out.hc.le) (kph _);rw [← E2.out] at C2;refine C2.mono ?_;clear C2;rintro v w3 ⟨rfl,g1,g2⟩;have R2':Hid (MS.h1 x=if (MS.passFixed b2 y2).2=0 then MS.h3 { (MS.passFixed b2 y2).1 with st:=3 } else MS.passFixed b2 y2):=by
   show MS.h1 x=_;rw [R2.out];rw [E2.out];rfl
  clear R2;by_cases h2:(MS.passFixed b2 y2).2=0
  ·rw [if_pos h2] at R2';have H3:Hid (Hw ρ w p x { (MS.passFixed b2 y2).1 with st:=3 } (w3.setCell ⟨p,7,none⟩ (.int .i64 (3:Nat)))):=H2.out.next g1 g2 (H2.out.hc.passFixed h2) 3;have k7:=g1.cell7;have k70:=k7.1;have k71:=k7.2;rw [h2];clear g1 g2 k7;obtain ⟨y3,hy⟩:∃ y:MS,y={ (MS.passFixed b2 y2).1 with st:=3 }:=⟨_,rfl⟩
   rw [← hy] at H3 R2';have R3:Hid (MS.h1 x=MS.h3 y3):=R2'.out;clear hy R2' H2;go_wp2_with fail
   refine (xdp H3.out.mm H3.out.hc.ok (Or.inl H3.out.hc.le)).mono ?_;rintro v w4 ⟨rfl,g1,g2⟩;have R3':Hid (MS.h1 x=if (y3.passMarks).2=0 then MS.h4 { (y3.passMarks).1 with st:=4 } else y3.passMarks):=by
    show MS.h1 x=_;rw [R3.out];rfl
   clear R3;by_cases h3:(y3.passMarks).2=0
   ·rw [if_pos h3] at R3';have H4:Hid (Hw ρ w p x { (y3.passMarks).1 with st:=4 } (w4.setCell ⟨p,7,none⟩ (.int .i64 (4:Nat)))):=H3.out.next g1 g2 (H3.out.hc.passMarks h3) 4;have k7:=g1.cell7;have k70:=k7.1;have k71:=k7.2;rw [h3];clear g1 g2 k7;obtain ⟨y4,hy⟩:∃ y:MS,y={ (y3.passMarks).1 with st:=4 }:=⟨_,rfl⟩
    rw [← hy] at H4 R3';have R4:Hid (MS.h1 x=MS.h4 y4):=R3'.out;clear hy R3' H3;go_wp2_with fail
    refine (zvv 0 H4.out.mm H4.out.hc.ok (Or.inl H4.out.hc.le) (by omega)).mono ?_;rintro v w5 ⟨rfl,g1,g2⟩;have R4':Hid (MS.h1 x=if (MS.passText 1 y4).2=0 then MS.h5 { (MS.passText 1 y4).1 with st:=5 } else MS.passText 1 y4):=by
     show MS.h1 x=_;rw [R4.out];rfl
    clear R4;by_cases h4:(MS.passText 1 y4).2=0
    ·rw [if_pos h4] at R4';have H5:Hid (Hw ρ w p x { (MS.passText 1 y4).1 with st:=5 } (w5.setCell ⟨p,7,none⟩ (.int .i64 (5:Nat)))):=H4.out.next g1 g2 (H4.out.hc.passText h4) 5;have k7:=g1.cell7;have k70:=k7.1;have k71:=k7.2;rw [h4];clear g1 g2 k7;obtain ⟨y5,hy⟩:∃ y:MS,y={ (MS.passText 1 y4).1 with st:=5 }:=⟨_,rfl⟩
     rw [← hy] at H5 R4';have R5:Hid (MS.h1 x=MS.h5 y5):=R4'.out;clear hy R4' H4;go_wp2_with fail
     refine (zvv 1 H5.out.mm H5.out.hc.ok (Or.inl H5.out.hc.le) (by omega)).mono ?_;rintro v w6 ⟨rfl,g1,g2⟩;have R5':Hid (MS.h1 x=if (MS.passText 2 y5).2=0 then MS.h6 { (MS.passText 2 y5).1 with st:=6 } else MS.passText 2 y5):=by
      show MS.h1 x=_;rw [R5.out];rfl
     clear R5;by_cases h5:(MS.passText 2 y5).2=0
     ·rw [if_pos h5] at R5';have H6:Hid (Hw ρ w p x { (MS.passText 2 y5).1 with st:=6 } (w6.setCell ⟨p,7,none⟩ (.int .i64 (6:Nat)))):=H5.out.next g1 g2 (H5.out.hc.passText h5) 6;have k7:=g1.cell7;have k70:=k7.1;have k71:=k7.2;rw [h5];clear g1 g2 k7;obtain ⟨y6,hy⟩:∃ y:MS,y={ (MS.passText 2 y5).1 with st:=6 }:=⟨_,rfl⟩
      rw [← hy] at H6 R5';have R6:Hid (MS.h1 x=MS.h6 y6):=R5'.out;clear hy R5' H5;go_wp2_with fail
      refine (xj1 H6.out.mm H6.out.hc.ok (Or.inl H6.out.hc.le)).mono ?_;rintro v w7 ⟨rfl,g1,g2⟩;have R6':Hid (MS.h1 x=if (y6.passCheck).2=0 then ({ (y6.passCheck).1 with st:=7 },0) else y6.passCheck):=by
       show MS.h1 x=_;rw [R6.out];rfl
      clear R6;by_cases h6:(y6.passCheck).2=0
      ·rw [if_pos h6] at R6';have H7:Hid (Hw ρ w p x { (y6.passCheck).1 with st:=7 } (w7.setCell ⟨p,7,none⟩ (.int .i64 (7:Nat)))):=H6.out.next g1 g2 (H6.out.hc.passCheck h6) 7;have k7:=g1.cell7;have k70:=k7.1;have k71:=k7.2;rw [h6];clear g1 g2 k7;go_wp2_with fail
       go_ret
       unfold y0y;rw [R6'.out];exact ⟨rfl,H7.out.mm,H7.out.fr⟩
      ·rw [if_neg h6] at R6';have HR:Hid (MM ρ w7 p (y6.passCheck).1∧Fr (fun k=>1<=k∧k<=5) ρ w w7):=⟨g1,H6.out.fr.trans g2⟩
       obtain ⟨t,ht⟩:∃ t,t=(y6.passCheck).2:=⟨_,rfl⟩
       have HT:Hid ((y6.passCheck).2=t):=ht.symm;rw [← ht] at h6 ⊢;have h0':((t:Int)==0)=false:=by simp;exact h6
       clear g1 g2 ht;go_wp2_with fail
       go_ret
       unfold y0y;rw [R6'.out,HT.out];exact ⟨rfl,HR.out⟩
     ·rw [if_neg h5] at R5';have HR:Hid (MM ρ w6 p (MS.passText 2 y5).1∧Fr (fun k=>1<=k∧k<=5) ρ w w6):=⟨g1,H5.out.fr.trans g2⟩
      obtain ⟨t,ht⟩:∃ t,t=(MS.passText 2 y5).2:=⟨_,rfl⟩
      have HT:Hid ((MS.passText 2 y5).2=t):=ht.symm;rw [← ht] at h5 ⊢;have h0':((t:Int)==0)=false:=by simp;exact h5
      clear g1 g2 ht;go_wp2_with fail
      go_ret
      unfold y0y;rw [R5'.out,HT.out];exact ⟨rfl,HR.out⟩
    ·rw [if_neg h4] at R4';have HR:Hid (MM ρ w5 p (MS.passText 1 y4).1∧Fr (fun k=>1<=k∧k<=5) ρ w w5):=⟨g1,H4.out.fr.trans g2⟩
     obtain ⟨t,ht⟩:∃ t,t=(MS.passText 1 y4).2:=⟨_,rfl⟩
     have HT:Hid ((MS.passText 1 y4).2=t):=ht.symm;rw [← ht] at h4 ⊢;have h0':((t:Int)==0)=false:=by simp;exact h4
     clear g1 g2 ht;go_wp2_with fail
     go_ret
     unfold y0y;rw [R4'.out,HT.out];exact ⟨rfl,HR.out⟩
   ·rw [if_neg h3] at R3';have HR:Hid (MM ρ w4 p (y3.passMarks).1∧Fr (fun k=>1<=k∧k<=5) ρ w w4):=⟨g1,H3.out.fr.trans g2⟩
    obtain ⟨t,ht⟩:∃ t,t=(y3.passMarks).2:=⟨_,rfl⟩
    have HT:Hid ((y3.passMarks).2=t):=ht.symm;rw [← ht] at h3 ⊢;have h0':((t:Int)==0)=false:=by simp;exact h3
    clear g1 g2 ht;go_wp2_with fail
    go_ret
    unfold y0y;rw [R3'.out,HT.out];exact ⟨rfl,HR.out⟩
  ·rw [if_neg h2] at R2';have HR:Hid (MM ρ w3 p (MS.passFixed b2 y2).1∧Fr (fun k=>1<=k∧k<=5) ρ w w3):=⟨g1,H2.out.fr.trans g2⟩
   obtain ⟨t,ht⟩:∃ t,t=(MS.passFixed b2 y2).2:=⟨_,rfl⟩
   have HT:Hid ((MS.passFixed b2 y2).2=t):=ht.symm;rw [← ht] at h2 ⊢;have h0':((t:Int)==0)=false:=by simp;exact h2
   clear g1 g2 ht;go_wp2_with fail
   go_ret
   unfold y0y;rw [R2'.out,HT.out];exact ⟨rfl,HR.out⟩
 ·rw [if_neg h1] at R1';have HR:Hid (MM ρ w2 p (MS.passFixed b1 x).1∧Fr (fun k=>1<=k∧k<=5) ρ w w2):=⟨g1,H1.out.fr.trans g2⟩
  obtain ⟨t,ht⟩:∃ t,t=(MS.passFixed b1 x).2:=⟨_,rfl⟩
  have HT:Hid ((MS.passFixed b1 x).2=t):=ht.symm;rw [← ht] at h1 ⊢;have h0':((t:Int)==0)=false:=by simp;exact h1
  clear g1 g2 ht;go_wp2_with fail
  go_ret
  unfold y0y;rw [R1'.out,HT.out];exact ⟨rfl,HR.out⟩
theorem z54{ρ:Nat->Nat}{w:World}{p:Nat}{x:MS}(h:MM ρ w p x)(hc:Hc x)(hst:x.st=0) :
  Calls Tryz.prog 100 #[.pointer (some ⟨p,0,none⟩)] w fun v w'=>y0y ρ w p (MS.h0 x) v w':=by
 have H0:Hid (Hw ρ w p x x w):=⟨h,hc,rfl,Fr.refl _ _ _⟩
 have c0:=h.cell0;have c7:=h.cell7.1;rw [hst] at c7;clear h hc hst;go_enter Tryz.func100,Tryz.ntmps100
 go_wp2_with fail
 refine (zgi x.fm w).mono ?_;rintro v w' ⟨rfl,rfl⟩;obtain ⟨b1,hb1⟩:∃ b,b=MS.first x.fm:=⟨_,rfl⟩
 obtain ⟨b2,hb2⟩:∃ b,b=MS.second x.fm:=⟨_,rfl⟩
 rw [← hb1,← hb2];have HB1:Hid (b1=MS.first x.fm):=hb1;have HB2:Hid (b2=MS.second x.fm):=hb2;clear hb1 hb2;go_wp2_with fail
 refine (vq9 H0.out.mm H0.out.hc.ok H0.out.hc.le).mono ?_;rintro v w1 ⟨rfl,g1,g2⟩;have R0':Hid (MS.h0 x=if (x.beginMember).2=0 then MS.h1 { (x.beginMember).1 with st:=1 } else x.beginMember):=by
  show MS.h0 x=_;rfl
 by_cases h0:(x.beginMember).2=0
 ·rw [if_pos h0] at R0';have H1:Hid (Hw ρ w p x { (x.beginMember).1 with st:=1 } (w1.setCell ⟨p,7,none⟩ (.int .i64 (1:Nat)))):=H0.out.next g1 g2 (H0.out.hc.beginMember h0) 1;have k7:=g1.cell7;have k70:=k7.1;have k71:=k7.2;rw [h0];clear g1 g2 k7;obtain ⟨y1,hy⟩:∃ y:MS,y={ (x.beginMember).1 with st:=1 }:=⟨_,rfl⟩
  rw [← hy] at H1 R0';have R1:Hid (MS.h0 x=MS.h1 y1):=R0'.out;clear hy R0' H0;go_wp2_with fail
  have E1:Hid (b1=MS.first y1.fm):=by show b1=_;rw [H1.out.fm];exact HB1.out
  have C1:=zmn (MS.first y1.fm) H1.out.mm H1.out.hc.ok (Or.inl H1.out.hc.le) (zvt _);rw [← E1.out] at C1;refine C1.mono ?_;clear C1;rintro v w2 ⟨rfl,g1,g2⟩;have R1':Hid (MS.h0 x=if (MS.passFixed b1 y1).2=0 then MS.h2 { (MS.passFixed b1 y1).1 with st:=2 } else MS.passFixed b1 y1):=by
   show MS.h0 x=_;rw [R1.out];rw [E1.out];rfl
  clear R1;by_cases h1:(MS.passFixed b1 y1).2=0
  ·rw [if_pos h1] at R1';have H2:Hid (Hw ρ w p x { (MS.passFixed b1 y1).1 with st:=2 } (w2.setCell ⟨p,7,none⟩ (.int .i64 (2:Nat)))):=H1.out.next g1 g2 (H1.out.hc.passFixed h1) 2;have k7:=g1.cell7;have k70:=k7.1;have k71:=k7.2;rw [h1];clear g1 g2 k7;obtain ⟨y2,hy⟩:∃ y:MS,y={ (MS.passFixed b1 y1).1 with st:=2 }:=⟨_,rfl⟩
   rw [← hy] at H2 R1';have R2:Hid (MS.h0 x=MS.h2 y2):=R1'.out;clear hy R1' H1;go_wp2_with fail
   have E2:Hid (b2=MS.second y2.fm):=by show b2=_;rw [H2.out.fm];exact HB2.out
   have C2:=zmn (MS.second y2.fm) H2.out.mm H2.out.hc.ok (Or.inl H2.out.hc.le) (kph _);rw [← E2.out] at C2;refine C2.mono ?_;clear C2;rintro v w3 ⟨rfl,g1,g2⟩;have R2':Hid (MS.h0 x=if (MS.passFixed b2 y2).2=0 then MS.h3 { (MS.passFixed b2 y2).1 with st:=3 } else MS.passFixed b2 y2):=by
    show MS.h0 x=_;rw [R2.out];rw [E2.out];rfl
   clear R2;by_cases h2:(MS.passFixed b2 y2).2=0
   ·rw [if_pos h2] at R2';have H3:Hid (Hw ρ w p x { (MS.passFixed b2 y2).1 with st:=3 } (w3.setCell ⟨p,7,none⟩ (.int .i64 (3:Nat)))):=H2.out.next g1 g2 (H2.out.hc.passFixed h2) 3;have k7:=g1.cell7;have k70:=k7.1;have k71:=k7.2;rw [h2];clear g1 g2 k7;obtain ⟨y3,hy⟩:∃ y:MS,y={ (MS.passFixed b2 y2).1 with st:=3 }:=⟨_,rfl⟩
    rw [← hy] at H3 R2';have R3:Hid (MS.h0 x=MS.h3 y3):=R2'.out;clear hy R2' H2;go_wp2_with fail
    refine (xdp H3.out.mm H3.out.hc.ok (Or.inl H3.out.hc.le)).mono ?_;rintro v w4 ⟨rfl,g1,g2⟩;have R3':Hid (MS.h0 x=if (y3.passMarks).2=0 then MS.h4 { (y3.passMarks).1 with st:=4 } else y3.passMarks):=by
     show MS.h0 x=_;rw [R3.out];rfl
    clear R3;by_cases h3:(y3.passMarks).2=0
    ·rw [if_pos h3] at R3';have H4:Hid (Hw ρ w p x { (y3.passMarks).1 with st:=4 } (w4.setCell ⟨p,7,none⟩ (.int .i64 (4:Nat)))):=H3.out.next g1 g2 (H3.out.hc.passMarks h3) 4;have k7:=g1.cell7;have k70:=k7.1;have k71:=k7.2;rw [h3];clear g1 g2 k7;obtain ⟨y4,hy⟩:∃ y:MS,y={ (y3.passMarks).1 with st:=4 }:=⟨_,rfl⟩
     rw [← hy] at H4 R3';have R4:Hid (MS.h0 x=MS.h4 y4):=R3'.out;clear hy R3' H3;go_wp2_with fail
     refine (zvv 0 H4.out.mm H4.out.hc.ok (Or.inl H4.out.hc.le) (by omega)).mono ?_;rintro v w5 ⟨rfl,g1,g2⟩;have R4':Hid (MS.h0 x=if (MS.passText 1 y4).2=0 then MS.h5 { (MS.passText 1 y4).1 with st:=5 } else MS.passText 1 y4):=by
      show MS.h0 x=_;rw [R4.out];rfl
     clear R4;by_cases h4:(MS.passText 1 y4).2=0
     ·rw [if_pos h4] at R4';have H5:Hid (Hw ρ w p x { (MS.passText 1 y4).1 with st:=5 } (w5.setCell ⟨p,7,none⟩ (.int .i64 (5:Nat)))):=H4.out.next g1 g2 (H4.out.hc.passText h4) 5;have k7:=g1.cell7;have k70:=k7.1;have k71:=k7.2;rw [h4];clear g1 g2 k7;obtain ⟨y5,hy⟩:∃ y:MS,y={ (MS.passText 1 y4).1 with st:=5 }:=⟨_,rfl⟩
      rw [← hy] at H5 R4';have R5:Hid (MS.h0 x=MS.h5 y5):=R4'.out;clear hy R4' H4;go_wp2_with fail
      refine (zvv 1 H5.out.mm H5.out.hc.ok (Or.inl H5.out.hc.le) (by omega)).mono ?_;rintro v w6 ⟨rfl,g1,g2⟩;have R5':Hid (MS.h0 x=if (MS.passText 2 y5).2=0 then MS.h6 { (MS.passText 2 y5).1 with st:=6 } else MS.passText 2 y5):=by
       show MS.h0 x=_;rw [R5.out];rfl
      clear R5;by_cases h5:(MS.passText 2 y5).2=0
      ·rw [if_pos h5] at R5';have H6:Hid (Hw ρ w p x { (MS.passText 2 y5).1 with st:=6 } (w6.setCell ⟨p,7,none⟩ (.int .i64 (6:Nat)))):=H5.out.next g1 g2 (H5.out.hc.passText h5) 6;have k7:=g1.cell7;have k70:=k7.1;have k71:=k7.2;rw [h5];clear g1 g2 k7;obtain ⟨y6,hy⟩:∃ y:MS,y={ (MS.passText 2 y5).1 with st:=6 }:=⟨_,rfl⟩
       rw [← hy] at H6 R5';have R6:Hid (MS.h0 x=MS.h6 y6):=R5'.out;clear hy R5' H5;go_wp2_with fail
       refine (xj1 H6.out.mm H6.out.hc.ok (Or.inl H6.out.hc.le)).mono ?_;rintro v w7 ⟨rfl,g1,g2⟩;have R6':Hid (MS.h0 x=if (y6.passCheck).2=0 then ({ (y6.passCheck).1 with st:=7 },0) else y6.passCheck):=by
        show MS.h0 x=_;rw [R6.out];rfl
       clear R6;by_cases h6:(y6.passCheck).2=0
       ·rw [if_pos h6] at R6';have H7:Hid (Hw ρ w p x { (y6.passCheck).1 with st:=7 } (w7.setCell ⟨p,7,none⟩ (.int .i64 (7:Nat)))):=H6.out.next g1 g2 (H6.out.hc.passCheck h6) 7;have k7:=g1.cell7;have k70:=k7.1;have k71:=k7.2;rw [h6];clear g1 g2 k7;go_wp2_with fail
        go_ret
        unfold y0y;rw [R6'.out];exact ⟨rfl,H7.out.mm,H7.out.fr⟩
       ·rw [if_neg h6] at R6';have HR:Hid (MM ρ w7 p (y6.passCheck).1∧Fr (fun k=>1<=k∧k<=5) ρ w w7):=⟨g1,H6.out.fr.trans g2⟩
        obtain ⟨t,ht⟩:∃ t,t=(y6.passCheck).2:=⟨_,rfl⟩
        have HT:Hid ((y6.passCheck).2=t):=ht.symm;rw [← ht] at h6 ⊢;have h0':((t:Int)==0)=false:=by simp;exact h6
        clear g1 g2 ht;go_wp2_with fail
        go_ret
        unfold y0y;rw [R6'.out,HT.out];exact ⟨rfl,HR.out⟩
      ·rw [if_neg h5] at R5';have HR:Hid (MM ρ w6 p (MS.passText 2 y5).1∧Fr (fun k=>1<=k∧k<=5) ρ w w6):=⟨g1,H5.out.fr.trans g2⟩
       obtain ⟨t,ht⟩:∃ t,t=(MS.passText 2 y5).2:=⟨_,rfl⟩
       have HT:Hid ((MS.passText 2 y5).2=t):=ht.symm;rw [← ht] at h5 ⊢;have h0':((t:Int)==0)=false:=by simp;exact h5
       clear g1 g2 ht;go_wp2_with fail
       go_ret
       unfold y0y;rw [R5'.out,HT.out];exact ⟨rfl,HR.out⟩
     ·rw [if_neg h4] at R4';have HR:Hid (MM ρ w5 p (MS.passText 1 y4).1∧Fr (fun k=>1<=k∧k<=5) ρ w w5):=⟨g1,H4.out.fr.trans g2⟩
      obtain ⟨t,ht⟩:∃ t,t=(MS.passText 1 y4).2:=⟨_,rfl⟩
      have HT:Hid ((MS.passText 1 y4).2=t):=ht.symm;rw [← ht] at h4 ⊢;have h0':((t:Int)==0)=false:=by simp;exact h4
      clear g1 g2 ht;go_wp2_with fail
      go_ret
      unfold y0y;rw [R4'.out,HT.out];exact ⟨rfl,HR.out⟩
    ·rw [if_neg h3] at R3';have HR:Hid (MM ρ w4 p (y3.passMarks).1∧Fr (fun k=>1<=k∧k<=5) ρ w w4):=⟨g1,H3.out.fr.trans g2⟩
     obtain ⟨t,ht⟩:∃ t,t=(y3.passMarks).2:=⟨_,rfl⟩
     have HT:Hid ((y3.passMarks).2=t):=ht.symm;rw [← ht] at h3 ⊢;have h0':((t:Int)==0)=false:=by simp;exact h3
     clear g1 g2 ht;go_wp2_with fail
     go_ret
     unfold y0y;rw [R3'.out,HT.out];exact ⟨rfl,HR.out⟩
   ·rw [if_neg h2] at R2';have HR:Hid (MM ρ w3 p (MS.passFixed b2 y2).1∧Fr (fun k=>1<=k∧k<=5) ρ w w3):=⟨g1,H2.out.fr.trans g2⟩
    obtain ⟨t,ht⟩:∃ t,t=(MS.passFixed b2 y2).2:=⟨_,rfl⟩
    have HT:Hid ((MS.passFixed b2 y2).2=t):=ht.symm;rw [← ht] at h2 ⊢;have h0':((t:Int)==0)=false:=by simp;exact h2
    clear g1 g2 ht;go_wp2_with fail
    go_ret
    unfold y0y;rw [R2'.out,HT.out];exact ⟨rfl,HR.out⟩
  ·rw [if_neg h1] at R1';have HR:Hid (MM ρ w2 p (MS.passFixed b1 y1).1∧Fr (fun k=>1<=k∧k<=5) ρ w w2):=⟨g1,H1.out.fr.trans g2⟩
   obtain ⟨t,ht⟩:∃ t,t=(MS.passFixed b1 y1).2:=⟨_,rfl⟩
   have HT:Hid ((MS.passFixed b1 y1).2=t):=ht.symm;rw [← ht] at h1 ⊢;have h0':((t:Int)==0)=false:=by simp;exact h1
   clear g1 g2 ht;go_wp2_with fail
   go_ret
   unfold y0y;rw [R1'.out,HT.out];exact ⟨rfl,HR.out⟩
 ·rw [if_neg h0] at R0';have HR:Hid (MM ρ w1 p (x.beginMember).1∧Fr (fun k=>1<=k∧k<=5) ρ w w1):=⟨g1,H0.out.fr.trans g2⟩
  obtain ⟨t,ht⟩:∃ t,t=(x.beginMember).2:=⟨_,rfl⟩
  have HT:Hid ((x.beginMember).2=t):=ht.symm;rw [← ht] at h0 ⊢;have h0':((t:Int)==0)=false:=by simp;exact h0
  clear g1 g2 ht;go_wp2_with fail
  go_ret
  unfold y0y;rw [R0'.out,HT.out];exact ⟨rfl,HR.out⟩
end Go.Proofs.YtbcjmakpempkiaaGreatDoor
