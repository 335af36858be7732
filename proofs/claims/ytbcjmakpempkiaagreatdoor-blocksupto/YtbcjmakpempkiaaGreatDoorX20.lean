import Derived.Test.YtbcjmakpempkiaaGreatDoorX19
set_option maxRecDepth 100000
set_option maxHeartbeats 8000000
set_option linter.all false
namespace Go.Proofs.YtbcjmakpempkiaaGreatDoor
open Go.RowKit
theorem z45{ρ:Nat->Nat}{w:World}{p:Nat}{x:MS}(h:MM ρ w p x)(ok:Ok x)(hx:x.count<=63) :
  Calls Tryz.prog 135 #[.pointer (some ⟨p,0,none⟩)] w fun v w'=>y0y ρ w p x.skipBits v w':=by
 have HM:Hid (MM ρ w p x∧Ok x):=⟨h,ok⟩
 have HE:Hid (x.skipBits=if x.num x.count=0 then (x.rd x.count,0) else (x.rd x.count).refuse 8):=rfl;have c15:=h.cell15;clear h ok;have HRD:Hid (∀ n,Calls Tryz.prog 134 #[.pointer (some ⟨p,14,none⟩), .int .i64 x.count] (w.drewN n) fun v w'=>v= .returned (.int .i64 (x.num x.count))∧MM ρ w' p (x.rd x.count)∧Fr (fun k=>1<=k∧k<=5) ρ (w.drewN n) w'):=fun n=>zw3 x.count (HM.out.1.drewN n) HM.out.2 (Nat.le_refl _) hx
 obtain ⟨m,hm⟩:∃ m,m=x.num x.count:=⟨_,rfl⟩
 rw [← hm] at HE HRD;clear hm;go_enter Tryz.func135,Tryz.ntmps135
 by_cases h0:m=0
 ·rw [if_pos h0] at HE;subst h0;go_wp2_with fail
  go_region_with (go_at_call 134;refine (HRD.out 1).mono ?_;rintro e w2 ⟨rfl,g1,g2⟩;have HR:Hid (MM ρ w2 p (x.rd x.count)∧Fr (fun k=>1<=k∧k<=5) ρ w w2):=⟨g1,((Fr.refl _ _ _).drewN 1).trans g2⟩;clear g1 g2)
  all_goals
   go_wp2_with fail
   go_ret
   unfold y0y;rw [HE.out];exact ⟨rfl,HR.out⟩
 ·rw [if_neg h0] at HE;have h0':((m:Int)==0)=false:=by simp;exact h0
  go_wp2_with fail
  go_region_with (go_at_call 134;refine (HRD.out 1).mono ?_;rintro e w2 ⟨rfl,g1,g2⟩;have HR:Hid (MM ρ w2 p (x.rd x.count)∧Fr (fun k=>1<=k∧k<=5) ρ w w2):=⟨g1,((Fr.refl _ _ _).drewN 1).trans g2⟩;clear g1 g2)
  all_goals
   go_wp2_with fail
   refine (kv8 8 HR.out.1).mono ?_;rintro v w3 ⟨rfl,g3,g4⟩;have HR2:Hid (MM ρ w3 p ((x.rd x.count).refuse 8).1∧Fr (fun k=>1<=k∧k<=5) ρ w w3):=⟨g3,HR.out.2.trans g4⟩
   clear g3 g4;go_wp2_with fail
   go_ret
   unfold y0y;rw [HE.out];exact ⟨rfl,HR2.out⟩
theorem kbz{ρ:Nat->Nat}{w:World}{p:Nat}{x:MS}(h:MM ρ w p x)(ok:Ok x)(hx:x.count<=63) :
  Calls Tryz.prog 138 #[.pointer (some ⟨p,0,none⟩)] w fun v w'=>y0y ρ w p x.endBlock v w':=by
 have HM:Hid (MM ρ w p x∧Ok x):=⟨h,ok⟩
 have HEf:x.last=false->x.endBlock=({ x with st:=7 },0):=fun h=>by unfold MS.endBlock;rw [if_neg (by rw [h];decide)]
 have HEt:x.last=true->x.endBlock=MS.skipBits { x with st:=22 }:=fun h=>by unfold MS.endBlock;rw [if_pos h]
 have c24:w.cell? ⟨p,24,none⟩=some (.bool x.last):=by obtain ⟨L,B,T⟩:=h;exact B.row.cell (i:=24) (by omega)
 have c7:=h.cell7.1;have z7:=h.cell7.2;clear h ok;have H7:Hid (MM ρ (w.setCell ⟨p,7,none⟩ (.int .i64 7)) p { x with st:=7 }∧Fr (fun k=>1<=k∧k<=5) ρ w (w.setCell ⟨p,7,none⟩ (.int .i64 7))):=HM.out.1.st 7;have H22:Hid (MM ρ (w.setCell ⟨p,7,none⟩ (.int .i64 22)) p { x with st:=22 }∧Fr (fun k=>1<=k∧k<=5) ρ w (w.setCell ⟨p,7,none⟩ (.int .i64 22))):=HM.out.1.st 22;go_enter Tryz.func138,Tryz.ntmps138
 cases hla:x.last with
 | false=>
  have HE2:Hid (x.endBlock=({ x with st:=7 },0)):=HEf hla;rw [hla] at c24;clear HEf HEt hla;go_wp2_with fail
  go_ret
  unfold y0y;rw [HE2.out];exact ⟨rfl,H7.out⟩
 | true=>
  have HE2:Hid (x.endBlock=MS.skipBits { x with st:=22 }):=HEt hla;rw [hla] at c24;clear HEf HEt hla;go_wp2_with fail
  refine (z45 H22.out.1 (HM.out.2.st 22) hx).mono ?_;rintro v w1 ⟨rfl,g1,g2⟩;have HR:Hid (MM ρ w1 p (MS.skipBits { x with st:=22 }).1∧Fr (fun k=>1<=k∧k<=5) ρ w w1):=⟨g1,H22.out.2.trans g2⟩
  clear g1 g2;obtain ⟨r,hr⟩:∃ r,r=MS.skipBits { x with st:=22 }:=⟨_,rfl⟩
  rw [← hr] at HR HE2 ⊢;clear hr;go_wp2_with fail
  go_ret
  unfold y0y;rw [HE2.out];exact ⟨rfl,HR.out⟩
theorem MS.rd_rd(x:MS)(a b:Nat):(x.rd a).rd b=x.rd (a+b):=by
 unfold MS.rd;rw [show (x.held / 2^a) / 2^b=x.held / 2^(a+b) by rw [Nat.div_div_eq_div_mul,← Nat.pow_add],show x.count - a - b=x.count - (a+b) by omega]
theorem jhs{ρ:Nat->Nat}{w:World}{p:Nat}{x:MS}(h:MM ρ w p x)(ok:Ok x)(hx:x.count<=32) :
  Calls Tryz.prog 146 #[.pointer (some ⟨p,0,none⟩)] w fun v w'=>y0y ρ w p x.passSize v w':=by
 have HM:Hid (MM ρ w p x∧Ok x):=⟨h,ok⟩
 have HE:Hid (x.passSize=if x.fm=2 then (if (MS.need 16 x).2=0 then (if (MS.need 16 x).1.num 16=(MS.need 16 x).1.size then ((MS.need 16 x).1.rd 16,0) else ((MS.need 16 x).1.rd 16).refuse 13) else MS.need 16 x) else (x,0)):=rfl;have c0:=h.cell0;clear h ok;go_enter Tryz.func146,Tryz.ntmps146
 by_cases h2:x.fm=2
 ·rw [if_pos h2] at HE;have hd:((x.fm:Int)==2)=true:=by simp;omega
  clear h2;go_wp2_with fail
  refine (zvo 16 HM.out.1 HM.out.2 (by omega) (by omega)).mono ?_;rintro v w1 ⟨rfl,g1,g2⟩;by_cases h0:(MS.need 16 x).2=0
  ·have k1:=MS.need_cnt HM.out.2 h0;have k3:=MS.need_ok (k:=16) HM.out.2;rw [h0];rw [if_pos h0] at HE;obtain ⟨y,hy⟩:∃ y,y=(MS.need 16 x).1:=⟨_,rfl⟩
   rw [← hy] at g1 HE k1 k3;have HY:Hid (MM ρ w1 p y∧Ok y∧Fr (fun k=>1<=k∧k<=5) ρ w w1):=⟨g1,k3,g2⟩
   have hsz:=k3.size;have c23:w1.cell? ⟨p,23,none⟩=some (.int .u16 y.size):=by obtain ⟨L,B,T⟩:=g1;exact B.row.cell (i:=23) (by omega)
   clear g1 g2 hy k3 h0;have HRD:Hid (∀ n,Calls Tryz.prog 134 #[.pointer (some ⟨p,14,none⟩), .int .i64 (16:Nat)] (w1.drewN n) fun v w'=>v= .returned (.int .i64 (y.num 16))∧MM ρ w' p (y.rd 16)∧Fr (fun k=>1<=k∧k<=5) ρ (w1.drewN n) w'):=fun n=>zw3 16 (HY.out.1.drewN n) HY.out.2.1 k1.1 (by omega)
   have HS:Hid (∀ w',MM ρ w' p (y.rd 16)->w'.cell? ⟨p,23,none⟩=some (.int .u16 y.size)):=fun w' m=>by obtain ⟨L,B,T⟩:=m;exact B.row.cell (i:=23) (by omega)
   have hni:y.num 16<65536:=Nat.mod_lt _ (by decide);obtain ⟨m,hm⟩:∃ m,m=y.num 16:=⟨_,rfl⟩
   rw [← hm] at HE HRD hni;clear hm;have hws:IntKind.i64.wrap (y.size:Int)=(y.size:Int):=by rw [IntWalk.i64_left,IntWalk.wrap64_in _ ⟨by omega,by omega⟩]
   by_cases he:m=y.size
   ·rw [if_pos he] at HE;have hed:((m:Int) !=IntKind.i64.wrap (y.size:Int))=false:=by rw [hws];simp [he]
    clear he;go_wp2_with fail
    go_region_held3 (fun wv=>wv.cell? ⟨p,23,none⟩=some (.int .u16 y.size)) (first | exact c23 | exact d23) (first | (go_at_call 134;refine (HRD.out 1).mono ?_;rintro e w2 ⟨rfl,g1,g2⟩;have HR:Hid (MM ρ w2 p (y.rd 16)∧Fr (fun k=>1<=k∧k<=5) ρ w w2):=⟨g1,(HY.out.2.2.drewN 1).trans g2⟩;have d23:=HS.out _ g1;clear g1 g2))
    all_goals
     go_wp2_with fail
     go_ret
     unfold y0y;rw [HE.out];exact ⟨rfl,HR.out⟩
   ·rw [if_neg he] at HE;have hed:((m:Int) !=IntKind.i64.wrap (y.size:Int))=true:=by rw [hws];simp;omega
    clear he;go_wp2_with fail
    go_region_held3 (fun wv=>wv.cell? ⟨p,23,none⟩=some (.int .u16 y.size)) (first | exact c23 | exact d23) (first | (go_at_call 134;refine (HRD.out 1).mono ?_;rintro e w2 ⟨rfl,g1,g2⟩;have HR:Hid (MM ρ w2 p (y.rd 16)∧Fr (fun k=>1<=k∧k<=5) ρ w w2):=⟨g1,(HY.out.2.2.drewN 1).trans g2⟩;have d23:=HS.out _ g1;clear g1 g2))
    all_goals
     go_wp2_with fail
     refine (kv8 13 HR.out.1).mono ?_;rintro v w3 ⟨rfl,g3,g4⟩;have HR2:Hid (MM ρ w3 p ((y.rd 16).refuse 13).1∧Fr (fun k=>1<=k∧k<=5) ρ w w3):=⟨g3,HR.out.2.trans g4⟩
     clear g3 g4;go_wp2_with fail
     go_ret
     unfold y0y;rw [HE.out];exact ⟨rfl,HR2.out⟩
  ·rw [if_neg h0] at HE;obtain ⟨t,ht⟩:∃ t,t=(MS.need 16 x).2:=⟨_,rfl⟩
   have HR:Hid (MM ρ w1 p (MS.need 16 x).1∧Fr (fun k=>1<=k∧k<=5) ρ w w1∧(MS.need 16 x).2=t):=⟨g1,g2,ht.symm⟩
   rw [← ht] at h0 ⊢;have h0':((t:Int)==0)=false:=by simp;exact h0
   clear g1 g2 ht;go_wp2_with fail
   go_ret
   unfold y0y;rw [HE.out,HR.out.2.2];exact ⟨rfl,HR.out.1,HR.out.2.1⟩
 ·rw [if_neg h2] at HE;have hd:((x.fm:Int)==2)=false:=by simp;omega
  clear h2;go_wp2_with fail
  go_ret
  unfold y0y;rw [HE.out];exact ⟨rfl,HM.out.1,Fr.refl _ _ _⟩
def zji(h:Nat):Nat->Nat
 | 0=>0
 | k+1=>256*zji h k+h / 2^(8*k)%256
theorem jtg(h k:Nat):zji h k<256^k:=by
 induction k with
 | zero=>simp [zji]
 | succ k ih=>rw [zji,Nat.pow_succ];have:=Nat.mod_lt (h / 2^(8*k)) (show 0<256 by decide);omega
theorem z1i(h:Nat):zji h 4=big4 h:=by
 simp only [zji,big4];simp
theorem veq(n:Int)(h₀:0<=n)(h₁:n<2^62):IntKind.i64.wrap n=n:=by
 have:(2:Int)^62=4611686018427387904:=by decide
 rw [IntWalk.i64_left,IntWalk.wrap64_in _ ⟨by omega,by omega⟩]
theorem zr4(T b:Nat)(hT:T<16777216)(hb:b<256):bits .or .i64 ((T:Int)*256) (b:Int)=((256*T+b:Nat):Int):=by
 have h1:(2:Int)^62=4611686018427387904:=by decide
 have h2:(2:Int)^8=256:=by decide
 rw [bits_join .i64 62 (by decide) veq 8 ((T:Int)*256) (b:Int) (by omega) (by rw [h2];omega) (by omega) (by omega) (by rw [h2];omega) (by omega)];omega
theorem MM.two{ρ:Nat->Nat}{w:World}{p:Nat}{x:MS}(h:MM ρ w p x):w.cell? ⟨p,21,none⟩=some (.int .i64 x.sx)∧w.cell? ⟨p,22,none⟩=some (.int .i64 x.sy):=by
 obtain ⟨L,B,T⟩:=h;exact ⟨B.row.cell (i:=21) (by omega),B.row.cell (i:=22) (by omega)⟩
theorem ycd{ρ:Nat->Nat}{w:World}{p:Nat}{x:MS}(h:MM ρ w p x)(ok:Ok x)(hx:x.count<=32) :
  Calls Tryz.prog 145 #[.pointer (some ⟨p,0,none⟩)] w fun v w'=>y0y ρ w p x.passSum v w':=by
 have HM:Hid (MM ρ w p x∧Ok x):=⟨h,ok⟩
 have HE:Hid (x.passSum=if x.fm=0 then (x,0) else (if (MS.need 32 x).2=0 then (if big4 (MS.need 32 x).1.held=65536*(MS.need 32 x).1.sy+(MS.need 32 x).1.sx then ((MS.need 32 x).1.rd 32,0) else ((MS.need 32 x).1.rd 32).refuse 12) else MS.need 32 x)):=rfl;have c0:=h.cell0;clear h ok;go_enter Tryz.func145,Tryz.ntmps145
 by_cases h2:x.fm=0
 ·rw [if_pos h2] at HE;have hd:((x.fm:Int)==0)=true:=by simp [h2]
  clear h2;go_wp2_with fail
  go_ret
  unfold y0y;rw [HE.out];exact ⟨rfl,HM.out.1,Fr.refl _ _ _⟩
 ·rw [if_neg h2] at HE;have hd:((x.fm:Int)==0)=false:=by simp;exact h2
  clear h2;go_wp2_with fail
  refine (zvo 32 HM.out.1 HM.out.2 (by omega) (by omega)).mono ?_;rintro v w1 ⟨rfl,g1,g2⟩;by_cases h0:(MS.need 32 x).2=0
  ·have k1:=MS.need_cnt HM.out.2 h0;have k3:=MS.need_ok (k:=32) HM.out.2;rw [h0];rw [if_pos h0] at HE;obtain ⟨y,hy⟩:∃ y,y=(MS.need 32 x).1:=⟨_,rfl⟩
   rw [← hy] at g1 HE k1 k3;have hs:=k3.sum;have H0:Hid (MM ρ w1 p (y.rd (8*0))∧Ok (y.rd (8*0))∧Fr (fun k=>1<=k∧k<=5) ρ w w1):=by
    have e:y.rd (8*0)=y:=by unfold MS.rd;simp
    show _∧_∧_;rw [e];exact ⟨g1,k3,g2⟩
   clear g1 g2 hy h0 k3;go_wp2_with fail
   go_loopw [4,16] (fun t i wr=>∃ k:Nat,k<=4∧i= .int .i64 k∧t= .int .i64 (zji y.held k)∧Hid (MM ρ wr p (y.rd (8*k))∧Ok (y.rd (8*k))∧Fr (fun k=>1<=k∧k<=5) ρ w wr)) (fun _ i _=>4 - (intOf i).toNat)
   case atStart=>exact ⟨0,by omega,rfl,rfl,H0⟩
   case round=>
    clear H0;obtain ⟨k,hk,rfl,rfl,HK⟩:=hrel;by_cases hlt:k<4
    ·have hT:zji y.held k<16777216:=Nat.lt_of_lt_of_le (jtg y.held k) (by
      have:256^k<=256^3:=Nat.pow_le_pow_right (by decide) (by omega);simpa using this)
     have hcnt:8<=(y.rd (8*k)).count∧(y.rd (8*k)).count<=63:=by
      show 8<=y.count - 8*k∧y.count - 8*k<=63;omega
     have hb:(y.rd (8*k)).num 8<256:=Nat.mod_lt _ (by decide);have HOR:Hid (bits .or .i64 ((zji y.held k:Int)*256) ((y.rd (8*k)).num 8:Int)=((zji y.held (k+1):Nat):Int)):=zr4 _ _ hT hb;have HRR:Hid ((y.rd (8*k)).rd 8=y.rd (8*(k+1))):=MS.rd_rd y (8*k) 8;have HRD:Hid (Calls Tryz.prog 134 #[.pointer (some ⟨p,14,none⟩), .int .i64 (8:Nat)] wr fun v w'=>v= .returned (.int .i64 ((y.rd (8*k)).num 8))∧MM ρ w' p ((y.rd (8*k)).rd 8)∧Fr (fun k=>1<=k∧k<=5) ρ wr w'):=zw3 8 HK.out.1 HK.out.2.1 hcnt.1 hcnt.2;have HOK:Hid (Ok (y.rd (8*(k+1)))):=by show Ok _;rw [← HRR.out];exact HK.out.2.1.rd hcnt.1
     rw [HRR.out] at HRD;obtain ⟨T,hT'⟩:∃ T,T=zji y.held k:=⟨_,rfl⟩
     obtain ⟨b,hb'⟩:∃ b,b=(y.rd (8*k)).num 8:=⟨_,rfl⟩
     rw [← hT'] at hT HOR ⊢;rw [← hb'] at hb HOR HRD;clear hT' hb' hcnt;go_wp2_with fail
     refine HRD.out.mono ?_;rintro v w2 ⟨rfl,g3,g4⟩;have HN:Hid (MM ρ w2 p (y.rd (8*(k+1)))∧Ok (y.rd (8*(k+1)))∧Fr (fun k=>1<=k∧k<=5) ρ w w2):=⟨g3,HOK.out,HK.out.2.2.trans g4⟩
     clear g3 g4;go_wp2_with fail
     go_roundw
     case rel=>exact ⟨k+1,by omega,by go_num,by rw [← HOR.out],HN⟩
     case measure=>simp [intOf];omega
    ·obtain rfl:k=4:=by omega
     have HE2:Hid (x.passSum=if zji y.held 4=65536*y.sy+y.sx then (y.rd (8*4),0) else (y.rd (8*4)).refuse 12):=by show _=_;rw [z1i];exact HE.out
     have c21:wr.cell? ⟨p,21,none⟩=some (.int .i64 y.sx):=HK.out.1.two.1;have c22:wr.cell? ⟨p,22,none⟩=some (.int .i64 y.sy):=HK.out.1.two.2;have HSN:Hid (Calls Tryz.prog 112 #[.agg #[.int .i64 y.sx, .int .i64 y.sy]] wr fun e w'=>e= .returned (.int .i64 (65536*(y.sy:Int)+y.sx))∧Below wr.heap.size wr w'):=zf1 y.sx y.sy wr (by omega) (by omega);obtain ⟨z,hz⟩:∃ z,z=y.rd (8*4):=⟨_,rfl⟩
     rw [← hz] at HE2 HK;clear hz HE;obtain ⟨T,hT'⟩:∃ T,T=zji y.held 4:=⟨_,rfl⟩
     rw [← hT'] at HE2 ⊢;clear hT';by_cases he:T=65536*y.sy+y.sx
     ·rw [if_pos he] at HE2;have hed:((T:Int)==65536*(y.sy:Int)+y.sx)=true:=by simp;omega
      clear he;go_wp2_with fail
      refine HSN.out.mono ?_;rintro v w3 ⟨rfl,b3⟩;have HR:Hid (MM ρ w3 p z∧Fr (fun k=>1<=k∧k<=5) ρ w w3):=⟨HK.out.1.below b3,HK.out.2.2.trans (Fr.below b3)⟩
      clear b3;go_wp2_with fail
      go_ret
      unfold y0y;rw [HE2.out];exact ⟨rfl,HR.out⟩
     ·rw [if_neg he] at HE2;have hed:((T:Int)==65536*(y.sy:Int)+y.sx)=false:=by simp;omega
      clear he;go_wp2_with fail
      refine HSN.out.mono ?_;rintro v w3 ⟨rfl,b3⟩;have HR:Hid (MM ρ w3 p z∧Fr (fun k=>1<=k∧k<=5) ρ w w3):=⟨HK.out.1.below b3,HK.out.2.2.trans (Fr.below b3)⟩
      clear b3;go_wp2_with fail
      refine (kv8 12 HR.out.1).mono ?_;rintro v w4 ⟨rfl,g3,g4⟩;have HR2:Hid (MM ρ w4 p (z.refuse 12).1∧Fr (fun k=>1<=k∧k<=5) ρ w w4):=⟨g3,HR.out.2.trans g4⟩
      clear g3 g4;go_wp2_with fail
      go_ret
      unfold y0y;rw [HE2.out];exact ⟨rfl,HR2.out⟩
  ·rw [if_neg h0] at HE;obtain ⟨t,ht⟩:∃ t,t=(MS.need 32 x).2:=⟨_,rfl⟩
   have HR:Hid (MM ρ w1 p (MS.need 32 x).1∧Fr (fun k=>1<=k∧k<=5) ρ w w1∧(MS.need 32 x).2=t):=⟨g1,g2,ht.symm⟩
   rw [← ht] at h0 ⊢;have h0':((t:Int)==0)=false:=by simp;exact h0
   clear g1 g2 ht;go_wp2_with fail
   go_ret
   unfold y0y;rw [HE.out,HR.out.2.2];exact ⟨rfl,HR.out.1,HR.out.2.1⟩
theorem z0q{ρ:Nat->Nat}{w:World}{p:Nat}{x:MS}(h:MM ρ w p x)(ok:Ok x)(hx:x.count<=32)(hst:x.st=24) :
  Calls Tryz.prog 105 #[.pointer (some ⟨p,0,none⟩)] w fun v w'=>y0y ρ w p x.e24 v w':=by
 have HM:Hid (MM ρ w p x∧Ok x):=⟨h,ok⟩
 have HE:Hid (x.e24=if (MS.need 8 x).2=0 then (if (MS.need 8 x).1.fm=2 then ({ (MS.need 8 x).1 with st:=0 },0) else (MS.need 8 x).1.refuse 14) else MS.need 8 x):=rfl;have c7:=h.cell7.1;rw [hst] at c7;clear h ok hst;go_enter Tryz.func105,Tryz.ntmps105
 go_wp2_with fail
 refine (zvo 8 HM.out.1 HM.out.2 (by omega) (by omega)).mono ?_;rintro v w1 ⟨rfl,g1,g2⟩;by_cases h0:(MS.need 8 x).2=0
 ·rw [h0];rw [if_pos h0] at HE;obtain ⟨y,hy⟩:∃ y,y=(MS.need 8 x).1:=⟨_,rfl⟩
  rw [← hy] at g1 HE;have HY:Hid (MM ρ w1 p y∧Fr (fun k=>1<=k∧k<=5) ρ w w1):=⟨g1,g2⟩
  have c0:=g1.cell0;have k7:=g1.cell7.1;have z7:=g1.cell7.2;clear g1 g2 hy h0;by_cases h2:y.fm=2
  ·rw [if_pos h2] at HE;have hd:((y.fm:Int)==2)=true:=by simp;omega
   have H0:Hid (MM ρ (w1.setCell ⟨p,7,none⟩ (.int .i64 0)) p { y with st:=0 }∧Fr (fun k=>1<=k∧k<=5) ρ w1 (w1.setCell ⟨p,7,none⟩ (.int .i64 0))):=HY.out.1.st 0;clear h2;go_wp2_with fail
   go_ret
   unfold y0y;rw [HE.out];exact ⟨rfl,H0.out.1,HY.out.2.trans H0.out.2⟩
  ·rw [if_neg h2] at HE;have hd:((y.fm:Int)==2)=false:=by simp;omega
   clear h2;go_wp2_with fail
   refine (kv8 14 HY.out.1).mono ?_;rintro v w4 ⟨rfl,g3,g4⟩;have HR2:Hid (MM ρ w4 p (y.refuse 14).1∧Fr (fun k=>1<=k∧k<=5) ρ w w4):=⟨g3,HY.out.2.trans g4⟩
   clear g3 g4;go_wp2_with fail
   go_ret
   unfold y0y;rw [HE.out];exact ⟨rfl,HR2.out⟩
 ·rw [if_neg h0] at HE;obtain ⟨t,ht⟩:∃ t,t=(MS.need 8 x).2:=⟨_,rfl⟩
  have HR:Hid (MM ρ w1 p (MS.need 8 x).1∧Fr (fun k=>1<=k∧k<=5) ρ w w1∧(MS.need 8 x).2=t):=⟨g1,g2,ht.symm⟩
  rw [← ht] at h0 ⊢;have h0':((t:Int)==0)=false:=by simp;exact h0
  clear g1 g2 ht;go_wp2_with fail
  go_ret
  unfold y0y;rw [HE.out,HR.out.2.2];exact ⟨rfl,HR.out.1,HR.out.2.1⟩
theorem MS.passSize_facts{x:MS}(ok:Ok x)(hx:x.count<=32)(h0:x.passSize.2=0):Ok x.passSize.1∧x.passSize.1.count<=32:=by
 have e:x.passSize=if x.fm=2 then (if (MS.need 16 x).2=0 then (if (MS.need 16 x).1.num 16=(MS.need 16 x).1.size then ((MS.need 16 x).1.rd 16,0) else ((MS.need 16 x).1.rd 16).refuse 13) else MS.need 16 x) else (x,0):=rfl;rw [e] at h0 ⊢;by_cases h2:x.fm=2
 ·rw [if_pos h2] at h0 ⊢;by_cases hn:(MS.need 16 x).2=0
  ·rw [if_pos hn] at h0 ⊢;by_cases he:(MS.need 16 x).1.num 16=(MS.need 16 x).1.size
   ·rw [if_pos he];have k:=MS.need_cnt ok hn;refine ⟨(MS.need_ok ok).rd k.1,?_⟩;show (MS.need 16 x).1.count - 16<=32;omega
   ·rw [if_neg he] at h0;cases h0
  ·rw [if_neg hn] at h0;exact absurd h0 hn
 ·rw [if_neg h2];exact ⟨ok,hx⟩
theorem MS.passSum_facts{x:MS}(ok:Ok x)(hx:x.count<=32)(h0:x.passSum.2=0):Ok x.passSum.1∧x.passSum.1.count<=32:=by
 have e:x.passSum=if x.fm=0 then (x,0) else (if (MS.need 32 x).2=0 then (if big4 (MS.need 32 x).1.held=65536*(MS.need 32 x).1.sy+(MS.need 32 x).1.sx then ((MS.need 32 x).1.rd 32,0) else ((MS.need 32 x).1.rd 32).refuse 12) else MS.need 32 x):=rfl;rw [e] at h0 ⊢;by_cases h2:x.fm=0
 ·rw [if_pos h2];exact ⟨ok,hx⟩
 ·rw [if_neg h2] at h0 ⊢;by_cases hn:(MS.need 32 x).2=0
  ·rw [if_pos hn] at h0 ⊢;by_cases he:big4 (MS.need 32 x).1.held=65536*(MS.need 32 x).1.sy+(MS.need 32 x).1.sx
   ·rw [if_pos he];have k:=MS.need_cnt ok hn;refine ⟨(MS.need_ok ok).rd k.1,?_⟩;show (MS.need 32 x).1.count - 32<=32;omega
   ·rw [if_neg he] at h0;cases h0
  ·rw [if_neg hn] at h0;exact absurd h0 hn
theorem j0c{ρ:Nat->Nat}{w:World}{p:Nat}{x:MS}(h:MM ρ w p x)(ok:Ok x)(hx:x.count<=32)(hst:x.st=23) :
  Calls Tryz.prog 105 #[.pointer (some ⟨p,0,none⟩)] w fun v w'=>y0y ρ w p x.e23 v w':=by
 have H23:Hid (MM ρ w p x∧Ok x∧x.count<=32∧Fr (fun k=>1<=k∧k<=5) ρ w w):=⟨h,ok,hx,Fr.refl _ _ _⟩
 have R:Hid (x.e23=MS.andThen x.passSize fun y=>MS.e24 { y with st:=24 }):=rfl;have c7:=h.cell7.1;rw [hst] at c7;clear h ok hst;go_enter Tryz.func105,Tryz.ntmps105
 go_wp2_with fail
 refine (jhs H23.out.1 H23.out.2.1 H23.out.2.2.1).mono ?_;rintro v wb ⟨rfl,g1,g2⟩;have R':Hid (x.e23=if (x.passSize).2=0 then MS.e24 { (x.passSize).1 with st:=24 } else x.passSize):=R.out;by_cases h0:(x.passSize).2=0
 ·rw [if_pos h0] at R';have k7:=g1.cell7.1;have z7:=g1.cell7.2;have F:=MS.passSize_facts H23.out.2.1 H23.out.2.2.1 h0;have H24:Hid (MM ρ (wb.setCell ⟨p,7,none⟩ (.int .i64 (24:Nat))) p { (x.passSize).1 with st:=24 }∧Ok { (x.passSize).1 with st:=24 }∧(x.passSize).1.count<=32∧Fr (fun k=>1<=k∧k<=5) ρ w (wb.setCell ⟨p,7,none⟩ (.int .i64 (24:Nat)))):=⟨(g1.st 24).1,F.1.st 24,F.2,(H23.out.2.2.2.trans g2).trans (g1.st 24).2⟩
  rw [h0];obtain ⟨x24,hx24⟩:∃ q:MS,q={ (x.passSize).1 with st:=24 }:=⟨_,rfl⟩
  have hcx:x24.count=(x.passSize).1.count:=by rw [hx24]
  rw [← hcx,← hx24] at H24;rw [← hx24] at R';clear g1 g2 R F hx24 hcx h0;have R:Hid (x.e23=MS.e24 x24):=R'.out;clear R';go_wp2_with fail
  refine (zvo 8 H24.out.1 H24.out.2.1 (by omega) (by have:=H24.out.2.2.1;omega)).mono ?_;rintro v wc ⟨rfl,g1,g2⟩;have HE:Hid (x.e23=if (MS.need 8 x24).2=0 then (if (MS.need 8 x24).1.fm=2 then ({ (MS.need 8 x24).1 with st:=0 },0) else (MS.need 8 x24).1.refuse 14) else MS.need 8 x24):=R.out;by_cases h0:(MS.need 8 x24).2=0
  ·rw [h0];rw [if_pos h0] at HE;obtain ⟨y,hy⟩:∃ y,y=(MS.need 8 x24).1:=⟨_,rfl⟩
   rw [← hy] at g1 HE;have HY:Hid (MM ρ wc p y∧Fr (fun k=>1<=k∧k<=5) ρ w wc):=⟨g1,H24.out.2.2.2.trans g2⟩
   have c0':=g1.cell0;have k7':=g1.cell7.1;have z7':=g1.cell7.2;clear g1 g2 hy h0;by_cases h2:y.fm=2
   ·rw [if_pos h2] at HE;have hd:((y.fm:Int)==2)=true:=by simp;omega
    have H0:Hid (MM ρ (wc.setCell ⟨p,7,none⟩ (.int .i64 0)) p { y with st:=0 }∧Fr (fun k=>1<=k∧k<=5) ρ wc (wc.setCell ⟨p,7,none⟩ (.int .i64 0))):=HY.out.1.st 0;clear h2;go_wp2_with fail
    go_ret
    unfold y0y;rw [HE.out];exact ⟨rfl,H0.out.1,HY.out.2.trans H0.out.2⟩
   ·rw [if_neg h2] at HE;have hd:((y.fm:Int)==2)=false:=by simp;omega
    clear h2;go_wp2_with fail
    refine (kv8 14 HY.out.1).mono ?_;rintro v w4 ⟨rfl,g3,g4⟩;have HR2:Hid (MM ρ w4 p (y.refuse 14).1∧Fr (fun k=>1<=k∧k<=5) ρ w w4):=⟨g3,HY.out.2.trans g4⟩
    clear g3 g4;go_wp2_with fail
    go_ret
    unfold y0y;rw [HE.out];exact ⟨rfl,HR2.out⟩
  ·rw [if_neg h0] at HE;obtain ⟨t,ht⟩:∃ t,t=(MS.need 8 x24).2:=⟨_,rfl⟩
   have HR:Hid (MM ρ wc p (MS.need 8 x24).1∧Fr (fun k=>1<=k∧k<=5) ρ w wc∧(MS.need 8 x24).2=t):=⟨g1,H24.out.2.2.2.trans g2,ht.symm⟩
   rw [← ht] at h0 ⊢;have h0':((t:Int)==0)=false:=by simp;exact h0
   clear g1 g2 ht;go_wp2_with fail
   go_ret
   unfold y0y;rw [HE.out,HR.out.2.2];exact ⟨rfl,HR.out.1,HR.out.2.1⟩
 ·rw [if_neg h0] at R';obtain ⟨t,ht⟩:∃ t,t=(x.passSize).2:=⟨_,rfl⟩
  have HR:Hid (MM ρ wb p (x.passSize).1∧Fr (fun k=>1<=k∧k<=5) ρ w wb∧(x.passSize).2=t):=⟨g1,H23.out.2.2.2.trans g2,ht.symm⟩
  rw [← ht] at h0 ⊢;have h0':((t:Int)==0)=false:=by simp;exact h0
  clear g1 g2 ht;go_wp2_with fail
  go_ret
  unfold y0y;rw [R'.out,HR.out.2.2];exact ⟨rfl,HR.out.1,HR.out.2.1⟩
theorem van{ρ:Nat->Nat}{w:World}{p:Nat}{x:MS}(h:MM ρ w p x)(ok:Ok x)(hx:x.count<=32)(hst:x.st=22) :
  Calls Tryz.prog 105 #[.pointer (some ⟨p,0,none⟩)] w fun v w'=>y0y ρ w p x.e22 v w':=by
 have H22:Hid (MM ρ w p x∧Ok x∧x.count<=32∧Fr (fun k=>1<=k∧k<=5) ρ w w):=⟨h,ok,hx,Fr.refl _ _ _⟩
 have R:Hid (x.e22=MS.andThen x.passSum fun y=>MS.e23 { y with st:=23 }):=rfl;have c7:=h.cell7.1;rw [hst] at c7;clear h ok hst;go_enter Tryz.func105,Tryz.ntmps105
 go_wp2_with fail
 refine (ycd H22.out.1 H22.out.2.1 H22.out.2.2.1).mono ?_;rintro v wa ⟨rfl,g1,g2⟩;have R':Hid (x.e22=if (x.passSum).2=0 then MS.e23 { (x.passSum).1 with st:=23 } else x.passSum):=R.out;by_cases h0:(x.passSum).2=0
 ·rw [if_pos h0] at R';have k7:=g1.cell7.1;have z7:=g1.cell7.2;have F:=MS.passSum_facts H22.out.2.1 H22.out.2.2.1 h0;have H23:Hid (MM ρ (wa.setCell ⟨p,7,none⟩ (.int .i64 (23:Nat))) p { (x.passSum).1 with st:=23 }∧Ok { (x.passSum).1 with st:=23 }∧(x.passSum).1.count<=32∧Fr (fun k=>1<=k∧k<=5) ρ w (wa.setCell ⟨p,7,none⟩ (.int .i64 (23:Nat)))):=⟨(g1.st 23).1,F.1.st 23,F.2,(H22.out.2.2.2.trans g2).trans (g1.st 23).2⟩
  rw [h0];obtain ⟨x23,hx23⟩:∃ q:MS,q={ (x.passSum).1 with st:=23 }:=⟨_,rfl⟩
  have hcx:x23.count=(x.passSum).1.count:=by rw [hx23]
  rw [← hcx,← hx23] at H23;rw [← hx23] at R';clear g1 g2 R F hx23 hcx h0;have R:Hid (x.e22=MS.e23 x23):=R'.out;clear R';go_wp2_with fail
  refine (jhs H23.out.1 H23.out.2.1 H23.out.2.2.1).mono ?_;rintro v wb ⟨rfl,g1,g2⟩;have R':Hid (x.e22=if (x23.passSize).2=0 then MS.e24 { (x23.passSize).1 with st:=24 } else x23.passSize):=R.out;by_cases h0:(x23.passSize).2=0
  ·rw [if_pos h0] at R';have k7:=g1.cell7.1;have z7:=g1.cell7.2;have F:=MS.passSize_facts H23.out.2.1 H23.out.2.2.1 h0;have H24:Hid (MM ρ (wb.setCell ⟨p,7,none⟩ (.int .i64 (24:Nat))) p { (x23.passSize).1 with st:=24 }∧Ok { (x23.passSize).1 with st:=24 }∧(x23.passSize).1.count<=32∧Fr (fun k=>1<=k∧k<=5) ρ w (wb.setCell ⟨p,7,none⟩ (.int .i64 (24:Nat)))):=⟨(g1.st 24).1,F.1.st 24,F.2,(H23.out.2.2.2.trans g2).trans (g1.st 24).2⟩
   rw [h0];obtain ⟨x24,hx24⟩:∃ q:MS,q={ (x23.passSize).1 with st:=24 }:=⟨_,rfl⟩
   have hcx:x24.count=(x23.passSize).1.count:=by rw [hx24]
   rw [← hcx,← hx24] at H24;rw [← hx24] at R';clear g1 g2 R F hx24 hcx h0;have R:Hid (x.e22=MS.e24 x24):=R'.out;clear R';go_wp2_with fail
   refine (zvo 8 H24.out.1 H24.out.2.1 (by omega) (by have:=H24.out.2.2.1;omega)).mono ?_;rintro v wc ⟨rfl,g1,g2⟩;have HE:Hid (x.e22=if (MS.need 8 x24).2=0 then (if (MS.need 8 x24).1.fm=2 then ({ (MS.need 8 x24).1 with st:=0 },0) else (MS.need 8 x24).1.refuse 14) else MS.need 8 x24):=R.out;by_cases h0:(MS.need 8 x24).2=0
   ·rw [h0];rw [if_pos h0] at HE;obtain ⟨y,hy⟩:∃ y,y=(MS.need 8 x24).1:=⟨_,rfl⟩
    rw [← hy] at g1 HE;have HY:Hid (MM ρ wc p y∧Fr (fun k=>1<=k∧k<=5) ρ w wc):=⟨g1,H24.out.2.2.2.trans g2⟩
    have c0':=g1.cell0;have k7':=g1.cell7.1;have z7':=g1.cell7.2;clear g1 g2 hy h0;by_cases h2:y.fm=2
    ·rw [if_pos h2] at HE;have hd:((y.fm:Int)==2)=true:=by simp;omega
     have H0:Hid (MM ρ (wc.setCell ⟨p,7,none⟩ (.int .i64 0)) p { y with st:=0 }∧Fr (fun k=>1<=k∧k<=5) ρ wc (wc.setCell ⟨p,7,none⟩ (.int .i64 0))):=HY.out.1.st 0;clear h2;go_wp2_with fail
     go_ret
     unfold y0y;rw [HE.out];exact ⟨rfl,H0.out.1,HY.out.2.trans H0.out.2⟩
    ·rw [if_neg h2] at HE;have hd:((y.fm:Int)==2)=false:=by simp;omega
     clear h2;go_wp2_with fail
     refine (kv8 14 HY.out.1).mono ?_;rintro v w4 ⟨rfl,g3,g4⟩;have HR2:Hid (MM ρ w4 p (y.refuse 14).1∧Fr (fun k=>1<=k∧k<=5) ρ w w4):=⟨g3,HY.out.2.trans g4⟩
     clear g3 g4;go_wp2_with fail
     go_ret
     unfold y0y;rw [HE.out];exact ⟨rfl,HR2.out⟩
   ·rw [if_neg h0] at HE;obtain ⟨t,ht⟩:∃ t,t=(MS.need 8 x24).2:=⟨_,rfl⟩
    have HR:Hid (MM ρ wc p (MS.need 8 x24).1∧Fr (fun k=>1<=k∧k<=5) ρ w wc∧(MS.need 8 x24).2=t):=⟨g1,H24.out.2.2.2.trans g2,ht.symm⟩
    rw [← ht] at h0 ⊢;have h0':((t:Int)==0)=false:=by simp;exact h0
    clear g1 g2 ht;go_wp2_with fail
    go_ret
    unfold y0y;rw [HE.out,HR.out.2.2];exact ⟨rfl,HR.out.1,HR.out.2.1⟩
  ·rw [if_neg h0] at R';obtain ⟨t,ht⟩:∃ t,t=(x23.passSize).2:=⟨_,rfl⟩
   have HR:Hid (MM ρ wb p (x23.passSize).1∧Fr (fun k=>1<=k∧k<=5) ρ w wb∧(x23.passSize).2=t):=⟨g1,H23.out.2.2.2.trans g2,ht.symm⟩
   rw [← ht] at h0 ⊢;have h0':((t:Int)==0)=false:=by simp;exact h0
   clear g1 g2 ht;go_wp2_with fail
   go_ret
   unfold y0y;rw [R'.out,HR.out.2.2];exact ⟨rfl,HR.out.1,HR.out.2.1⟩
 ·rw [if_neg h0] at R';obtain ⟨t,ht⟩:∃ t,t=(x.passSum).2:=⟨_,rfl⟩
  have HR:Hid (MM ρ wa p (x.passSum).1∧Fr (fun k=>1<=k∧k<=5) ρ w wa∧(x.passSum).2=t):=⟨g1,H22.out.2.2.2.trans g2,ht.symm⟩
  rw [← ht] at h0 ⊢;have h0':((t:Int)==0)=false:=by simp;exact h0
  clear g1 g2 ht;go_wp2_with fail
  go_ret
  unfold y0y;rw [R'.out,HR.out.2.2];exact ⟨rfl,HR.out.1,HR.out.2.1⟩
theorem Ok.putted{x:MS}(h:Ok x)(h0:x.putE=0)(b:Nat):Ok (x.putted b):=by
 have hs:¬ x.sp<=x.tk+x.pu:=fun hq=>by unfold MS.putE at h0;rw [if_pos hq] at h0;cases h0
 have g1:x.tk+(x.pu+1)<=x.sp:=by omega
 have g2:(x.sx+b)%65521<=65520:=by have:=Nat.mod_lt (x.sx+b) (show 0<65521 by decide);omega
 have g3:(x.sy+(x.sx+b)%65521)%65521<=65520:=by have:=Nat.mod_lt (x.sy+(x.sx+b)%65521) (show 0<65521 by decide);omega
 exact { h with steps:=g1,sum:=⟨g2,g3⟩,size:=Nat.mod_lt _ (by decide) }
theorem MS.put_facts{x:MS}(ok:Ok x)(b:Nat):Ok (x.put b).1∧((x.put b).2=0->(x.put b).1=x.putted b):=by
 unfold MS.put;by_cases h1:x.qa.length=64
 ·rw [if_pos h1];exact ⟨ok,fun h=>by cases h⟩
 ·rw [if_neg h1];by_cases h2:x.putE=0
  ·rw [if_neg (by rw [h2];simp)];exact ⟨ok.putted h2 b,fun _=>rfl⟩
  ·rw [if_pos h2];exact ⟨ok.refuse _,fun h=>by cases h⟩
theorem MM.cell25{ρ:Nat->Nat}{w:World}{p:Nat}{x:MS}(h:MM ρ w p x):w.cell? ⟨p,25,none⟩=some (.int .i64 x.left)∧w.frozen? ⟨p,25,none⟩=false:=by
 obtain ⟨L,B,T⟩:=h;exact ⟨B.row.cell (i:=25) (by omega),B.row.frozen 25⟩
theorem MM.cell14{ρ:Nat->Nat}{w:World}{p:Nat}{x:MS}(h:MM ρ w p x):w.cell? ⟨p,14,none⟩=some (.int .u64 x.held):=by
 obtain ⟨L,B,T⟩:=h;exact B.row.cell (i:=14) (by omega)
theorem MM.left{ρ:Nat->Nat}{w:World}{p:Nat}{x:MS}(h:MM ρ w p x)(n:Nat):MM ρ (w.setCell ⟨p,25,none⟩ (.int .i64 n)) p { x with left:=n }∧Fr (fun k=>1<=k∧k<=5) ρ w (w.setCell ⟨p,25,none⟩ (.int .i64 n)):=by
 obtain ⟨L,B,T⟩:=h;exact (((show Bh ρ w p x x L w from ⟨B,T,Fr.refl _ _ _⟩).set (z:={ x with left:=n }) 25 _ rfl ⟨rfl,rfl⟩).done rfl rfl rfl rfl ⟨rfl,rfl⟩)
structure Pw(ρ:Nat->Nat)(w:World)(p:Nat)(y:MS)(R:MS×Nat)(w':World):Prop where
 mm:MM ρ w' p y
 ok:Ok y
 eq:MS.plainL y.left y=R
 cnt:y.count<=32
 left:y.left<=65535
 fr:Fr (fun k=>1<=k∧k<=5) ρ w w'
theorem MS.plain_zero{y:MS}(h:y.left=0):MS.plainL y.left y=y.endBlock:=by rw [h];rfl
theorem MS.plain_succ{y:MS}{n:Nat}(h:y.left=n+1):MS.plainL y.left y=if (MS.need 8 y).2=0 then (if ((MS.need 8 y).1.put ((MS.need 8 y).1.num 8)).2=0 then MS.plainL n { ((MS.need 8 y).1.put ((MS.need 8 y).1.num 8)).1.rd 8 with left:=n } else (MS.need 8 y).1.put ((MS.need 8 y).1.num 8)) else MS.need 8 y:=by rw [h];rfl
theorem x1y{ρ:Nat->Nat}{w:World}{p:Nat}{x:MS}(h:MM ρ w p x)(ok:Ok x)(hx:x.count<=32)(hl:x.left<=65535)(hst:x.st=9) :
  Calls Tryz.prog 102 #[.pointer (some ⟨p,0,none⟩)] w fun v w'=>y0y ρ w p x.b9 v w':=by
 obtain ⟨R,hR⟩:∃ R,R=MS.plainL x.left x:=⟨_,rfl⟩
 have H0:Hid (∃ y,Pw ρ w p y R w):=⟨x,h,ok,hR.symm,hx,hl,Fr.refl _ _ _⟩
 have HF:Hid (x.b9=R):=by show x.b9=R;rw [hR];rfl
 have c7:=h.cell7.1;rw [hst] at c7;clear h ok hst hR hl hx;go_enter Tryz.func102,Tryz.ntmps102
 go_wp2_with fail
 go_loopw [] (fun wr=>Hid (∃ y,Pw ρ w p y R wr)) (fun wr=>xq0 wr p 25)
 case atStart=>exact H0
 case round=>
  clear H0;obtain ⟨y,Y⟩:=hrel.out;have c25:=Y.mm.cell25.1;have e25:=xv1 c25;have hl:=Y.left;have hcn:=Y.cnt;have HY:Hid (Pw ρ w p y R wr):=Y;clear Y hrel;by_cases hz:y.left=0
  ·have HZ:Hid (R=y.endBlock):=by show R=_;rw [← HY.out.eq,MS.plain_zero hz]
   rw [hz] at c25;clear hz;go_wp2_with fail
   refine (kbz HY.out.mm HY.out.ok (by omega)).mono ?_;rintro v w5 ⟨rfl,g1,g2⟩;have HR:Hid (MM ρ w5 p y.endBlock.1∧Fr (fun k=>1<=k∧k<=5) ρ w w5):=⟨g1,HY.out.fr.trans g2⟩
   clear g1 g2;go_wp2_with fail
   go_ret
   unfold y0y;rw [HF.out,HZ.out];exact ⟨rfl,HR.out⟩
  ·obtain ⟨n,hn⟩:∃ n,y.left=n+1:=⟨y.left - 1,by omega⟩
   have HS:Hid (R=if (MS.need 8 y).2=0 then (if ((MS.need 8 y).1.put ((MS.need 8 y).1.num 8)).2=0 then MS.plainL n { ((MS.need 8 y).1.put ((MS.need 8 y).1.num 8)).1.rd 8 with left:=n } else (MS.need 8 y).1.put ((MS.need 8 y).1.num 8)) else MS.need 8 y):=by show R=_;rw [← HY.out.eq,MS.plain_succ hn]
   have hpos:(0:Int)<y.left:=by omega
   clear hz;go_wp2_with fail
   refine (zvo 8 HY.out.mm HY.out.ok (by omega) (by omega)).mono ?_;rintro v w5 ⟨rfl,g1,g2⟩;by_cases h0:(MS.need 8 y).2=0
   ·have k1:=MS.need_cnt HY.out.ok h0;have k2:=MS.need_same HY.out.ok h0;have k3:=MS.need_ok (k:=8) HY.out.ok;rw [h0];rw [if_pos h0] at HS;obtain ⟨z,hzz⟩:∃ z,z=(MS.need 8 y).1:=⟨_,rfl⟩
    rw [← hzz] at g1 HS k1 k2 k3;have hzl:z.left=n+1:=by rw [k2];exact hn
    have HZ:Hid (MM ρ w5 p z∧Ok z∧Fr (fun k=>1<=k∧k<=5) ρ w w5):=⟨g1,k3,HY.out.fr.trans g2⟩
    have c14:=g1.cell14;have hb:z.num 8<256:=Nat.mod_lt _ (by decide);have hbi:(z.held:Int)%256=(z.num 8:Int):=by show _=((z.held%2^8:Nat):Int);omega
    have hhl:=k3.held;clear g1 g2 hzz k2 k3 h0;obtain ⟨P,hP⟩:∃ P,P=z.put (z.num 8):=⟨_,rfl⟩
    have HPF:=MS.put_facts HZ.out.2.1 (z.num 8);have HPT:Hid (Calls Tryz.prog 137 #[.pointer (some ⟨p,0,none⟩), .int .u8 (z.num 8)] w5 fun v w'=>y0y ρ w5 p P v w'):=by
     show Calls _ _ _ _ _;rw [hP];exact mPut (z.num 8) HZ.out.1 HZ.out.2.1 hb
    rw [← hP] at HS HPF;have HPF':Hid (Ok P.1∧(P.2=0->P.1=z.putted (z.num 8))):=HPF;clear hP HPF;obtain ⟨b,hb'⟩:∃ b,b=z.num 8:=⟨_,rfl⟩
    rw [← hb'] at hbi hb HPT HPF';clear hb';go_wp2_with fail
    refine HPT.out.mono ?_;rintro v w6 ⟨rfl,g1,g2⟩;by_cases h1:P.2=0
    ·have hPe:=HPF'.out.2 h1;have hPc:P.1.count=z.count:=by rw [hPe];rfl
     have hPl:P.1.left=n+1:=by rw [hPe];exact hzl
     rw [if_pos h1] at HS;have HQ:Hid (MM ρ w6 p P.1∧Ok P.1∧Fr (fun k=>1<=k∧k<=5) ρ w w6):=⟨g1,HPF'.out.1,HZ.out.2.2.trans g2⟩
     rw [h1];obtain ⟨Q,hQ⟩:∃ Q,Q=P.1:=⟨_,rfl⟩
     rw [← hQ] at HQ hPc hPl HS;clear g1 g2 hPe h1 hQ;go_wp2_with fail
     refine (zw3 8 HQ.out.1 HQ.out.2.1 (by omega) (by omega)).mono ?_;rintro v w7 ⟨rfl,g1,g2⟩;have HQ2:Hid (MM ρ w7 p (Q.rd 8)∧Ok (Q.rd 8)∧Fr (fun k=>1<=k∧k<=5) ρ w w7):=⟨g1,HQ.out.2.1.rd (by omega),HQ.out.2.2.trans g2⟩
     have d25:w7.cell? ⟨p,25,none⟩=some (.int .i64 (n+1:Nat)):=by rw [← hPl];exact g1.cell25.1
     have z25:=g1.cell25.2;have HL:=HQ2.out.1.left n;have HN:Hid (∃ y,Pw ρ w p y R (w7.setCell ⟨p,25,none⟩ (.int .i64 n))):=⟨{ Q.rd 8 with left:=n },HL.1,{ HQ2.out.2.1 with },HS.out.symm,by show Q.count - 8<=32;omega,by show n<=65535;omega,HQ2.out.2.2.trans HL.2⟩
     have eN:xq0 (w7.setCell ⟨p,25,none⟩ (.int .i64 n)) p 25=n:=xv1 HL.1.cell25.1;have hn1:((n+1:Nat):Int) - 1=(n:Int):=by omega
     clear g1 g2 HL;go_wp2_with fail
     go_roundw
     case rel=>exact HN
     case measure=>rw [e25,eN];omega
    ·rw [if_neg h1] at HS;obtain ⟨t,ht⟩:∃ t,t=P.2:=⟨_,rfl⟩
     have HR:Hid (MM ρ w6 p P.1∧Fr (fun k=>1<=k∧k<=5) ρ w w6∧P.2=t):=⟨g1,HZ.out.2.2.trans g2,ht.symm⟩
     rw [← ht] at h1 ⊢;have h0':((t:Int)==0)=false:=by simp;exact h1
     clear g1 g2 ht;go_wp2_with fail
     go_ret
     unfold y0y;rw [HF.out,HS.out,HR.out.2.2];exact ⟨rfl,HR.out.1,HR.out.2.1⟩
   ·rw [if_neg h0] at HS;obtain ⟨t,ht⟩:∃ t,t=(MS.need 8 y).2:=⟨_,rfl⟩
    have HR:Hid (MM ρ w5 p (MS.need 8 y).1∧Fr (fun k=>1<=k∧k<=5) ρ w w5∧(MS.need 8 y).2=t):=⟨g1,HY.out.fr.trans g2,ht.symm⟩
    rw [← ht] at h0 ⊢;have h0':((t:Int)==0)=false:=by simp;exact h0
    clear g1 g2 ht;go_wp2_with fail
    go_ret
    unfold y0y;rw [HF.out,HS.out,HR.out.2.2];exact ⟨rfl,HR.out.1,HR.out.2.1⟩
end Go.Proofs.YtbcjmakpempkiaaGreatDoor
