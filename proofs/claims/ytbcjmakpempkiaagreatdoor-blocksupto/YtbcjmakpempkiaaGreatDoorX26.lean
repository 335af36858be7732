import Derived.Test.YtbcjmakpempkiaaGreatDoorX25
set_option maxRecDepth 100000
set_option maxHeartbeats 8000000
set_option linter.all false
namespace Go.Proofs.YtbcjmakpempkiaaGreatDoor
open Go.RowKit
def jsb(k:Nat):Nat:=if k=12∨k=13∨k=14 then 0 else k
theorem z3l(k:Nat):v3q k=#[.int .i64 (jsb k), .bool (decide (k=12)), .int .i64 (hleast k), .int .i64 (hbits k)]:=by
 unfold v3q jsb hleast hbits;by_cases h1:k=12
 ·subst h1;rfl
 ·by_cases h2:k=13
  ·subst h2;rfl
  ·by_cases h3:k=14
   ·subst h3;rfl
   ·simp [h1,h2,h3]
theorem yfb(k:Nat):hbits k<=6:=by
  unfold hbits;repeat' split
  all_goals omega
theorem x4x(k:Nat):hleast k<=11:=by
  unfold hleast;repeat' split
  all_goals omega
theorem MM.help{ρ:Nat->Nat}{w:World}{p:Nat}{x:MS}(h:MM ρ w p x)(hn:x.hs≠[]):∃ t,w.cell? ⟨p,30,none⟩=some (.pointer (some ⟨t,0,none⟩))∧TabS ρ w 265 4 (fun i=>(v3q i).toList) t x.hs:=by
 obtain ⟨L,B,T⟩:=h;rcases T.hp with h | ⟨t,e,k⟩
 ·exact absurd h hn
 ·exact ⟨t,by rw [← e];exact B.row.cell (i:=30) (by omega),k⟩
theorem MM.frz{ρ:Nat->Nat}{w:World}{p:Nat}{x:MS}(h:MM ρ w p x)(i:Nat):w.frozen? ⟨p,i,none⟩=false:=by
 obtain ⟨L,B,T⟩:=h;exact B.row.frozen i
theorem MM.helped{ρ:Nat->Nat}{w:World}{p:Nat}{x:MS}(h:MM ρ w p x)(k:Nat):MM ρ ((((w.setCell ⟨p,31,none⟩ (.int .i64 (jsb k))).setCell ⟨p,32,none⟩ (.bool (decide (k=12)))).setCell ⟨p,33,none⟩ (.int .i64 (hleast k))).setCell ⟨p,34,none⟩ (.int .i64 (hbits k))) p (x.helped k)∧Fr (fun k=>1<=k∧k<=5) ρ w ((((w.setCell ⟨p,31,none⟩ (.int .i64 (jsb k))).setCell ⟨p,32,none⟩ (.bool (decide (k=12)))).setCell ⟨p,33,none⟩ (.int .i64 (hleast k))).setCell ⟨p,34,none⟩ (.int .i64 (hbits k))):=by
 obtain ⟨L,B,T⟩:=h;exact ((((((show Bh ρ w p x x L w from ⟨B,T,Fr.refl _ _ _⟩).set (z:={ x with hlen:=jsb k }) 31 _ rfl ⟨rfl,rfl⟩).set (z:={ x with hlen:=jsb k,hbef:=decide (k=12) }) 32 _ rfl ⟨rfl,rfl⟩).set (z:={ x with hlen:=jsb k,hbef:=decide (k=12),hleast:=hleast k }) 33 _ rfl ⟨rfl,rfl⟩).set (z:=x.helped k) 34 _ rfl ⟨rfl,rfl⟩).done rfl rfl rfl rfl ⟨rfl,rfl⟩)
structure Rok(x:MS):Prop where
 nl:257<=x.nl∧x.nl<=269
 nd:1<=x.nd∧x.nd<=16
 rr:inRange x.row=true
 len:x.row.length<x.nl+x.nd
theorem inRange_append{a b:List Int}(ha:inRange a=true)(hb:inRange b=true):inRange (a++b)=true:=by
 rw [vto] at *;intro x hx;rcases List.mem_append.1 hx with h | h
 ·exact ha x h
 ·exact hb x h
theorem x6i{n:Nat}{a:Int}(h:yuc a=true):inRange (List.replicate n a)=true:=by
 rw [vto];intro x hx;have:x=a:=List.eq_of_mem_replicate hx;subst this;simpa [yuc] using h
theorem yit{x:MS}(hr:inRange x.row=true)(hh:x.hlen<=11):yuc x.rowLen=true:=by
 unfold MS.rowLen;split
 ·exact yyi hr _
 ·simp [yuc];omega
structure Tw(ρ:Nat->Nat)(w:World)(p:Nat)(y:MS)(w':World):Prop where
 mm:MM ρ w' p y
 ok:Ok y
 cnt:y.count<=40
 fr:Fr mine ρ w w'
theorem yf3{ρ:Nat->Nat}{w:World}{p:Nat}{x:MS}(h:MM ρ w p x)(ok:Ok x)(hc:x.count<=40)(RK:Rok x)(hb:x.hbits<=6)(hl:x.hleast<=11)(RK2:x.hlen<=11)(hst:x.st=15) :
  Calls Tryz.prog 104 #[.pointer (some ⟨p,0,none⟩)] w fun v w'=>xxu ρ w p x.r15 v w':=by
 have H15:Hid (Tw ρ w p x w):=⟨h,ok,hc,Fr.refl _ _ _⟩
 have B15:x.hbits<=16∧x.hleast<=1000000∧x.hleast+2^x.hbits<=1000:=⟨by omega,by omega,by
  have:2^x.hbits<=2^6:=Nat.pow_le_pow_right (by decide) hb;have e:2^6=64:=by decide
  omega⟩
 have R15:Hid (x.r15=MS.symThen (x.spanR x.hleast x.hbits) fun y times=>if (y.hbef=true∧y.row.length=0)∨y.nl+y.nd<y.row.length+times then y.refuse 10 else MS.rowEnd { y with row:=y.row++List.replicate times y.rowLen,st:=14 }):=rfl;obtain ⟨_,_,_,_,_,c33,c34,_⟩:=h.own;have c7:=h.cell7.1;rw [hst] at c7;clear h ok hst hc;go_enter Tryz.func104,Tryz.ntmps104
 go_wp2_with fail
 refine (xh4 x.hleast x.hbits H15.out.mm H15.out.ok H15.out.cnt B15.1 B15.2.1).mono ?_;rintro v wa ⟨rfl,g1,g2⟩;have SF:=MS.spanR_facts (least:=x.hleast) H15.out.ok H15.out.cnt B15.1;have R':Hid (x.r15=if (x.spanR x.hleast x.hbits).2.1=0 then (if (((x.spanR x.hleast x.hbits).1.hbef=true∧(x.spanR x.hleast x.hbits).1.row.length=0)∨(x.spanR x.hleast x.hbits).1.nl+(x.spanR x.hleast x.hbits).1.nd<(x.spanR x.hleast x.hbits).1.row.length+(x.spanR x.hleast x.hbits).2.2) then (x.spanR x.hleast x.hbits).1.refuse 10 else MS.rowEnd { (x.spanR x.hleast x.hbits).1 with row:=(x.spanR x.hleast x.hbits).1.row++List.replicate (x.spanR x.hleast x.hbits).2.2 (x.spanR x.hleast x.hbits).1.rowLen,st:=14 }) else ((x.spanR x.hleast x.hbits).1,(x.spanR x.hleast x.hbits).2.1)):=R15.out;clear R15;by_cases h0:(x.spanR x.hleast x.hbits).2.1=0
 ·rw [if_pos h0] at R';obtain ⟨s1,s2,s3,s4⟩:=SF.2 h0;have so:=SF.1;have hT:(x.spanR x.hleast x.hbits).2.2<=1000:=by have:=B15.2.2;omega
  obtain ⟨z,t,N,hr⟩:∃ z t N,x.spanR x.hleast x.hbits=(z,t,N):=⟨_,_,_,rfl⟩
  rw [hr] at g1 R' s4 so hT h0 ⊢;have h0':t=0:=h0;subst h0';have hzr:Rok z∧z.hlen<=11:=by
   have e:z=_:=s4;have a1:z.nl=x.nl:=by rw [e]
   have a2:z.nd=x.nd:=by rw [e]
   have a3:z.row=x.row:=by rw [e]
   have a4:z.hlen=x.hlen:=by rw [e]
   exact ⟨⟨by rw [a1];exact RK.nl,by rw [a2];exact RK.nd,by rw [a3];exact RK.rr,by rw [a1,a2,a3];exact RK.len⟩,by rw [a4];exact RK2⟩
  have HZ:Hid (MM ρ wa p z∧Fr mine ρ w wa∧Rok z∧z.hlen<=11):=⟨g1,H15.out.fr.trans g2.five_mine,hzr.1,hzr.2⟩
  have n1:=hzr.1.nl;have n2:=hzr.1.nd;have n3:=hzr.1.len;have n4:=hzr.2;clear g1 g2 hr s1 s2 s3 s4 so SF h0 hzr;go_wp2_with fail
  refine (juf N HZ.out.1 (by omega) (by omega) (by omega) hT (by omega)).mono ?_;rintro v wb EX;unfold ExtE at EX;by_cases hbad:(z.hbef=true∧z.row.length=0)∨z.nl+z.nd<z.row.length+N
  ·rw [if_pos hbad] at EX R';obtain ⟨rfl,AF⟩:=EX;obtain ⟨ρ',ex,mm⟩:=AF.ex;have HX:Hid (MM ρ' wb p z∧Ext w.heap.size ρ ρ'∧Fr mine ρ w wb):=⟨mm,fun k hk=>ex k (Nat.lt_of_lt_of_le hk HZ.out.2.1.kp.size),HZ.out.2.1.trans AF.fr⟩
   clear AF ex mm hbad;go_wp2_with fail
   refine (kv8 10 HX.out.1).mono ?_;rintro v wc ⟨rfl,g3,g4⟩;have HR2:Hid (ym0 ρ w p (z.refuse 10).1 wc):=⟨⟨ρ',HX.out.2.1,g3⟩,HX.out.2.2.ext g4.five_mine HX.out.2.1⟩
   clear g3 g4;go_wp2_with fail
   go_ret
   unfold xxu;rw [R'.out];exact ⟨rfl,HR2.out⟩
  ·rw [if_neg hbad] at EX R';obtain ⟨rfl,AF⟩:=EX;obtain ⟨ρ',ex,mm⟩:=AF.ex;have k7:=mm.cell7.1;have z7:=mm.frz 7;have hnb:z.row.length+N<=z.nl+z.nd:=by
    apply Classical.byContradiction;intro hq;exact hbad (Or.inr (by omega))
   obtain ⟨u,hu⟩:∃ u:MS,u={ z with row:=z.row++List.replicate N z.rowLen,st:=14 }:=⟨_,rfl⟩
   have hul:u.row.length=z.row.length+N:=by rw [hu];simp
   have hun:u.nl=z.nl∧u.nd=z.nd:=by rw [hu];exact ⟨rfl,rfl⟩
   have hur:inRange u.row=true:=by rw [hu];exact inRange_append HZ.out.2.2.1.rr (x6i (yit HZ.out.2.2.1.rr HZ.out.2.2.2))
   have HX:Hid (MM ρ' (wb.setCell ⟨p,7,none⟩ (.int .i64 14)) p u∧Ext w.heap.size ρ ρ'∧Fr mine ρ w (wb.setCell ⟨p,7,none⟩ (.int .i64 14))):=by
    have e1:Ext w.heap.size ρ ρ':=fun k hk=>ex k (Nat.lt_of_lt_of_le hk HZ.out.2.1.kp.size)
    refine ⟨by rw [hu];exact (mm.st 14).1,e1,?_⟩;exact (HZ.out.2.1.trans AF.fr).ext (mm.st 14).2.five_mine e1
   have R3:Hid (x.r15=MS.rowEnd u):=by show x.r15=_;rw [hu];exact R'.out
   clear AF ex mm hbad hu R';have HW:Hid (Calls Tryz.prog 143 #[.pointer (some ⟨p,26,none⟩)] (wb.setCell ⟨p,7,none⟩ (.int .i64 14)) fun v w'=>v= .returned (.bool (decide (u.row.length=u.nl+u.nd)))∧∃ n,w'=(wb.setCell ⟨p,7,none⟩ (.int .i64 14)).drewN n):=ksc HX.out.1 (by omega) (by omega) (by omega);by_cases hw:u.row.length=u.nl+u.nd
   ·have R4:Hid (x.r15=u.endRow):=by show x.r15=_;rw [R3.out];exact if_pos hw
    rw [decide_eq_true hw] at HW;go_wp2_with fail
    refine HW.out.mono ?_;rintro v wc ⟨rfl,m,hm⟩;have HC:Hid (MM ρ' wc p u∧Fr mine ρ w wc):=by
     show _∧_;rw [hm];exact ⟨HX.out.1.drewN m,HX.out.2.2.drewN m⟩
    clear hm HW;go_wp2_with fail
    refine (kpl HC.out.1 hur hw (by rw [hun.1];exact n1) (by rw [hun.2];exact n2)).mono ?_;rintro v wd ⟨rfl,AF⟩;have HR2:Hid (ym0 ρ w p u.endRow.1 wd):=ym0.next HX.out.2.1 HC.out.2 AF;clear AF;obtain ⟨E,hE⟩:∃ E,E=u.endRow:=⟨_,rfl⟩
    rw [← hE] at HR2 R4 ⊢;clear hE;go_wp2_with fail
    go_ret
    unfold xxu;rw [R4.out];exact ⟨rfl,HR2.out⟩
   ·have R4:Hid (x.r15=(u,0)):=by show x.r15=_;rw [R3.out];exact if_neg hw
    rw [decide_eq_false hw] at HW;go_wp2_with fail
    refine HW.out.mono ?_;rintro v wc ⟨rfl,m,hm⟩;have HC:Hid (ym0 ρ w p u wc):=by
     show ym0 _ _ _ _ _;rw [hm];exact ⟨⟨ρ',HX.out.2.1,HX.out.1.drewN m⟩,HX.out.2.2.drewN m⟩
    clear hm HW;go_wp2_with fail
    go_ret
    unfold xxu;rw [R4.out];exact ⟨rfl,HC.out⟩
 ·rw [if_neg h0] at R';obtain ⟨e,he⟩:∃ e,e=(x.spanR x.hleast x.hbits).2.1:=⟨_,rfl⟩
  have HR:Hid (ym0 ρ w p (x.spanR x.hleast x.hbits).1 wa∧(x.spanR x.hleast x.hbits).2.1=e):=⟨ym0.of g1 (H15.out.fr.trans g2.five_mine),he.symm⟩
  rw [← he] at h0 ⊢;have h0':((e:Int)==0)=false:=by simp;exact h0
  clear g1 g2 he;go_wp2_with fail
  go_ret
  unfold xxu;rw [R'.out,HR.out.2];exact ⟨rfl,HR.out.1⟩
theorem xsa{ρ:Nat->Nat}{w:World}{p:Nat}{x:MS}(h:MM ρ w p x)(ok:Ok x)(hc:x.count<=40)(RK0:Rok x)(hs:x.hs≠[])(hsl:x.hs.length<=15)(hst:x.st=14) :
  Calls Tryz.prog 104 #[.pointer (some ⟨p,0,none⟩)] w fun v w'=>xxu ρ w p x.r14 v w':=by
 have HM:Hid (MM ρ w p x∧Ok x):=⟨h,ok⟩
 obtain ⟨th,c30,TH⟩:=h.help hs;have THr:=TH.rng;have HTH:Hid (TabS ρ w 265 4 (fun i=>(v3q i).toList) th x.hs):=TH;have c7:=h.cell7.1;rw [hst] at c7;clear h ok hst TH;go_enter Tryz.func104,Tryz.ntmps104
 go_wp2_with fail
 refine (zh1 HM.out.1 HM.out.2 hc HTH.out).mono ?_;rintro v wa14 ⟨rfl,g1,g2⟩;have SF:=MS.sym_facts THr HM.out.2 hc;have R':Hid (x.r14=if (x.sym x.hs).2.1=0 then MS.r15 { (x.sym x.hs).1.helped (x.sym x.hs).2.2 with st:=15 } else ((x.sym x.hs).1,(x.sym x.hs).2.1)):=rfl;by_cases h0:(x.sym x.hs).2.1=0
 ·rw [if_pos h0] at R';rw [if_pos h0];obtain ⟨s1,s2,s3⟩:=SF.2 h0;have so:=SF.1;obtain ⟨z,t,k,hr⟩:∃ z t k,x.sym x.hs=(z,t,k):=⟨_,_,_,rfl⟩
  rw [hr] at g1 R' s1 s2 s3 so h0 ⊢;have h0':t=0:=h0;subst h0';have hk15:k<15:=by have:k<x.hs.length:=s1;omega
  have hz:Rok z:=by
   have e:z=_:=s3;have a1:z.nl=x.nl:=by rw [e]
   have a2:z.nd=x.nd:=by rw [e]
   have a3:z.row=x.row:=by rw [e]
   exact ⟨by rw [a1];exact RK0.nl,by rw [a2];exact RK0.nd,by rw [a3];exact RK0.rr,by rw [a1,a2,a3];exact RK0.len⟩
  have b1:Below wa14.heap.size wa14 (wa14.alloc (.cells #[.int .i64 (jsb k), .bool (decide (k=12)), .int .i64 (hleast k), .int .i64 (hbits k)] 127)):=(Below.refl _ _).alloc (Nat.le_refl _) _;have HZ:Hid (MM ρ (wa14.alloc (.cells #[.int .i64 (jsb k), .bool (decide (k=12)), .int .i64 (hleast k), .int .i64 (hbits k)] 127)) p z∧Fr mine ρ w (wa14.alloc (.cells #[.int .i64 (jsb k), .bool (decide (k=12)), .int .i64 (hleast k), .int .i64 (hbits k)] 127))):=⟨g1.below b1,(g2.trans (Fr.below b1)).five_mine⟩
  obtain ⟨_,_,_,a31,a32,a33,a34,_⟩:=HZ.out.1.own;have z31:=HZ.out.1.frz 31;have z32:=HZ.out.1.frz 32;have z33:=HZ.out.1.frz 33;have z34:=HZ.out.1.frz 34;have k7:=HZ.out.1.cell7.1;have z7:=HZ.out.1.cell7.2;have q0:(wa14.alloc (.cells #[.int .i64 (jsb k), .bool (decide (k=12)), .int .i64 (hleast k), .int .i64 (hbits k)] 127)).cell? ⟨wa14.heap.size,0,none⟩=some (.int .i64 (jsb k)):=by simp
  have q1:(wa14.alloc (.cells #[.int .i64 (jsb k), .bool (decide (k=12)), .int .i64 (hleast k), .int .i64 (hbits k)] 127)).cell? ⟨wa14.heap.size,1,none⟩=some (.bool (decide (k=12))):=by simp
  have q2:(wa14.alloc (.cells #[.int .i64 (jsb k), .bool (decide (k=12)), .int .i64 (hleast k), .int .i64 (hbits k)] 127)).cell? ⟨wa14.heap.size,2,none⟩=some (.int .i64 (hleast k)):=by simp
  have q3:(wa14.alloc (.cells #[.int .i64 (jsb k), .bool (decide (k=12)), .int .i64 (hleast k), .int .i64 (hbits k)] 127)).cell? ⟨wa14.heap.size,3,none⟩=some (.int .i64 (hbits k)):=by simp
  have HA:=HZ.out.1.helped k;have HB:=HA.1.st 15;obtain ⟨y15,hy15⟩:∃ y:MS,y={ z.helped k with st:=15 }:=⟨_,rfl⟩
  obtain ⟨WW,hW⟩:∃ W,W=(((((wa14.alloc (.cells #[.int .i64 (jsb k), .bool (decide (k=12)), .int .i64 (hleast k), .int .i64 (hbits k)] 127)).setCell ⟨p,31,none⟩ (.int .i64 (jsb k))).setCell ⟨p,32,none⟩ (.bool (decide (k=12)))).setCell ⟨p,33,none⟩ (.int .i64 (hleast k))).setCell ⟨p,34,none⟩ (.int .i64 (hbits k))).setCell ⟨p,7,none⟩ (.int .i64 15):=⟨_,rfl⟩
  have H15:Hid (Tw ρ w p y15 WW):=by
   show Tw ρ w p y15 WW;rw [hW,hy15];exact ⟨HB.1,{ so with },s2,(HZ.out.2.trans HA.2.five_mine).trans HB.2.five_mine⟩
  have RK:Rok y15:=by rw [hy15];exact ⟨hz.nl,hz.nd,hz.rr,hz.len⟩
  have RK2:y15.hlen<=11:=by rw [hy15];show (if k=12∨k=13∨k=14 then 0 else k)<=11;split <;> omega
  have B15:y15.hbits<=16∧y15.hleast<=1000000∧y15.hleast+2^y15.hbits<=1000:=by
   rw [hy15];show hbits k<=16∧hleast k<=1000000∧hleast k+2^hbits k<=1000;have h1:=yfb k;have h2:=x4x k;have:2^hbits k<=2^6:=Nat.pow_le_pow_right (by decide) h1;have e:2^6=64:=by decide
   omega
  have R15:Hid (x.r14=MS.r15 y15):=by show x.r14=_;rw [hy15];exact R'.out
  have HW15:Hid (WW=(((((wa14.alloc (.cells #[.int .i64 (jsb k), .bool (decide (k=12)), .int .i64 (hleast k), .int .i64 (hbits k)] 127)).setCell ⟨p,31,none⟩ (.int .i64 (jsb k))).setCell ⟨p,32,none⟩ (.bool (decide (k=12)))).setCell ⟨p,33,none⟩ (.int .i64 (hleast k))).setCell ⟨p,34,none⟩ (.int .i64 (hbits k))).setCell ⟨p,7,none⟩ (.int .i64 15)):=hW;have hv1:jsb k=y15.hlen:=by rw [hy15];rfl
  have hv2:decide (k=12)=y15.hbef:=by rw [hy15];rfl
  have hv3:hleast k=y15.hleast:=by rw [hy15];rfl
  have hv4:hbits k=y15.hbits:=by rw [hy15];rfl
  rw [z3l];rw [hv1,hv2,hv3,hv4] at HW15 a31 a32 a33 a34 z31 z32 z33 z34 k7 z7 q0 q1 q2 q3 ⊢;clear g1 g2 hr s3 so SF h0 hz HA HB hy15 hW b1 R' HZ s1 hk15 hv1 hv2 hv3 hv4;go_wp2_with fail
  rw [← HW15.out];clear a31 a32 a33 a34 z31 z32 z33 z34 k7 z7 q0 q1 q2 q3 HW15;refine (xh4 y15.hleast y15.hbits H15.out.mm H15.out.ok H15.out.cnt B15.1 B15.2.1).mono ?_;rintro v wa ⟨rfl,g1,g2⟩;have SF:=MS.spanR_facts (least:=y15.hleast) H15.out.ok H15.out.cnt B15.1;have R':Hid (x.r14=if (y15.spanR y15.hleast y15.hbits).2.1=0 then (if (((y15.spanR y15.hleast y15.hbits).1.hbef=true∧(y15.spanR y15.hleast y15.hbits).1.row.length=0)∨(y15.spanR y15.hleast y15.hbits).1.nl+(y15.spanR y15.hleast y15.hbits).1.nd<(y15.spanR y15.hleast y15.hbits).1.row.length+(y15.spanR y15.hleast y15.hbits).2.2) then (y15.spanR y15.hleast y15.hbits).1.refuse 10 else MS.rowEnd { (y15.spanR y15.hleast y15.hbits).1 with row:=(y15.spanR y15.hleast y15.hbits).1.row++List.replicate (y15.spanR y15.hleast y15.hbits).2.2 (y15.spanR y15.hleast y15.hbits).1.rowLen,st:=14 }) else ((y15.spanR y15.hleast y15.hbits).1,(y15.spanR y15.hleast y15.hbits).2.1)):=R15.out;clear R15;by_cases h0:(y15.spanR y15.hleast y15.hbits).2.1=0
  ·rw [if_pos h0] at R';obtain ⟨s1,s2,s3,s4⟩:=SF.2 h0;have so:=SF.1;have hT:(y15.spanR y15.hleast y15.hbits).2.2<=1000:=by have:=B15.2.2;omega
   obtain ⟨z,t,N,hr⟩:∃ z t N,y15.spanR y15.hleast y15.hbits=(z,t,N):=⟨_,_,_,rfl⟩
   rw [hr] at g1 R' s4 so hT h0 ⊢;have h0':t=0:=h0;subst h0';have hzr:Rok z∧z.hlen<=11:=by
    have e:z=_:=s4;have a1:z.nl=y15.nl:=by rw [e]
    have a2:z.nd=y15.nd:=by rw [e]
    have a3:z.row=y15.row:=by rw [e]
    have a4:z.hlen=y15.hlen:=by rw [e]
    exact ⟨⟨by rw [a1];exact RK.nl,by rw [a2];exact RK.nd,by rw [a3];exact RK.rr,by rw [a1,a2,a3];exact RK.len⟩,by rw [a4];exact RK2⟩
   have HZ:Hid (MM ρ wa p z∧Fr mine ρ w wa∧Rok z∧z.hlen<=11):=⟨g1,H15.out.fr.trans g2.five_mine,hzr.1,hzr.2⟩
   have n1:=hzr.1.nl;have n2:=hzr.1.nd;have n3:=hzr.1.len;have n4:=hzr.2;clear g1 g2 hr s1 s2 s3 s4 so SF h0 hzr;go_wp2_with fail
   refine (juf N HZ.out.1 (by omega) (by omega) (by omega) hT (by omega)).mono ?_;rintro v wb EX;unfold ExtE at EX;by_cases hbad:(z.hbef=true∧z.row.length=0)∨z.nl+z.nd<z.row.length+N
   ·rw [if_pos hbad] at EX R';obtain ⟨rfl,AF⟩:=EX;obtain ⟨ρ',ex,mm⟩:=AF.ex;have HX:Hid (MM ρ' wb p z∧Ext w.heap.size ρ ρ'∧Fr mine ρ w wb):=⟨mm,fun k hk=>ex k (Nat.lt_of_lt_of_le hk HZ.out.2.1.kp.size),HZ.out.2.1.trans AF.fr⟩
    clear AF ex mm hbad;go_wp2_with fail
    refine (kv8 10 HX.out.1).mono ?_;rintro v wc ⟨rfl,g3,g4⟩;have HR2:Hid (ym0 ρ w p (z.refuse 10).1 wc):=⟨⟨ρ',HX.out.2.1,g3⟩,HX.out.2.2.ext g4.five_mine HX.out.2.1⟩
    clear g3 g4;go_wp2_with fail
    go_ret
    unfold xxu;rw [R'.out];exact ⟨rfl,HR2.out⟩
   ·rw [if_neg hbad] at EX R';obtain ⟨rfl,AF⟩:=EX;obtain ⟨ρ',ex,mm⟩:=AF.ex;have k7:=mm.cell7.1;have z7:=mm.frz 7;have hnb:z.row.length+N<=z.nl+z.nd:=by
     apply Classical.byContradiction;intro hq;exact hbad (Or.inr (by omega))
    obtain ⟨u,hu⟩:∃ u:MS,u={ z with row:=z.row++List.replicate N z.rowLen,st:=14 }:=⟨_,rfl⟩
    have hul:u.row.length=z.row.length+N:=by rw [hu];simp
    have hun:u.nl=z.nl∧u.nd=z.nd:=by rw [hu];exact ⟨rfl,rfl⟩
    have hur:inRange u.row=true:=by rw [hu];exact inRange_append HZ.out.2.2.1.rr (x6i (yit HZ.out.2.2.1.rr HZ.out.2.2.2))
    have HX:Hid (MM ρ' (wb.setCell ⟨p,7,none⟩ (.int .i64 14)) p u∧Ext w.heap.size ρ ρ'∧Fr mine ρ w (wb.setCell ⟨p,7,none⟩ (.int .i64 14))):=by
     have e1:Ext w.heap.size ρ ρ':=fun k hk=>ex k (Nat.lt_of_lt_of_le hk HZ.out.2.1.kp.size)
     refine ⟨by rw [hu];exact (mm.st 14).1,e1,?_⟩;exact (HZ.out.2.1.trans AF.fr).ext (mm.st 14).2.five_mine e1
    have R3:Hid (x.r14=MS.rowEnd u):=by show x.r14=_;rw [hu];exact R'.out
    clear AF ex mm hbad hu R';have HW:Hid (Calls Tryz.prog 143 #[.pointer (some ⟨p,26,none⟩)] (wb.setCell ⟨p,7,none⟩ (.int .i64 14)) fun v w'=>v= .returned (.bool (decide (u.row.length=u.nl+u.nd)))∧∃ n,w'=(wb.setCell ⟨p,7,none⟩ (.int .i64 14)).drewN n):=ksc HX.out.1 (by omega) (by omega) (by omega);by_cases hw:u.row.length=u.nl+u.nd
    ·have R4:Hid (x.r14=u.endRow):=by show x.r14=_;rw [R3.out];exact if_pos hw
     rw [decide_eq_true hw] at HW;go_wp2_with fail
     refine HW.out.mono ?_;rintro v wc ⟨rfl,m,hm⟩;have HC:Hid (MM ρ' wc p u∧Fr mine ρ w wc):=by
      show _∧_;rw [hm];exact ⟨HX.out.1.drewN m,HX.out.2.2.drewN m⟩
     clear hm HW;go_wp2_with fail
     refine (kpl HC.out.1 hur hw (by rw [hun.1];exact n1) (by rw [hun.2];exact n2)).mono ?_;rintro v wd ⟨rfl,AF⟩;have HR2:Hid (ym0 ρ w p u.endRow.1 wd):=ym0.next HX.out.2.1 HC.out.2 AF;clear AF;obtain ⟨E,hE⟩:∃ E,E=u.endRow:=⟨_,rfl⟩
     rw [← hE] at HR2 R4 ⊢;clear hE;go_wp2_with fail
     go_ret
     unfold xxu;rw [R4.out];exact ⟨rfl,HR2.out⟩
    ·have R4:Hid (x.r14=(u,0)):=by show x.r14=_;rw [R3.out];exact if_neg hw
     rw [decide_eq_false hw] at HW;go_wp2_with fail
     refine HW.out.mono ?_;rintro v wc ⟨rfl,m,hm⟩;have HC:Hid (ym0 ρ w p u wc):=by
      show ym0 _ _ _ _ _;rw [hm];exact ⟨⟨ρ',HX.out.2.1,HX.out.1.drewN m⟩,HX.out.2.2.drewN m⟩
     clear hm HW;go_wp2_with fail
     go_ret
     unfold xxu;rw [R4.out];exact ⟨rfl,HC.out⟩
  ·rw [if_neg h0] at R';obtain ⟨e,he⟩:∃ e,e=(y15.spanR y15.hleast y15.hbits).2.1:=⟨_,rfl⟩
   have HR:Hid (ym0 ρ w p (y15.spanR y15.hleast y15.hbits).1 wa∧(y15.spanR y15.hleast y15.hbits).2.1=e):=⟨ym0.of g1 (H15.out.fr.trans g2.five_mine),he.symm⟩
   rw [← he] at h0 ⊢;have h0':((e:Int)==0)=false:=by simp;exact h0
   clear g1 g2 he;go_wp2_with fail
   go_ret
   unfold xxu;rw [R'.out,HR.out.2];exact ⟨rfl,HR.out.1⟩
 ·rw [if_neg h0] at R';rw [if_neg h0];obtain ⟨e,he⟩:∃ e,e=(x.sym x.hs).2.1:=⟨_,rfl⟩
  have b1:Below wa14.heap.size wa14 (wa14.alloc (.cells #[.int .i64 0, .bool false, .int .i64 0, .int .i64 0] 127)):=(Below.refl _ _).alloc (Nat.le_refl _) _;have HR:Hid (ym0 ρ w p (x.sym x.hs).1 (wa14.alloc (.cells #[.int .i64 0, .bool false, .int .i64 0, .int .i64 0] 127))∧(x.sym x.hs).2.1=e):=⟨ym0.of (g1.below b1) (g2.trans (Fr.below b1)).five_mine,he.symm⟩
  rw [← he] at h0 ⊢;have h0':((e:Int)==0)=false:=by simp;exact h0
  clear g1 g2 he b1;go_wp2_with fail
  go_ret
  unfold xxu;rw [R'.out,HR.out.2];exact ⟨rfl,HR.out.1⟩
def OrdP(w:World):Prop:=∃ fr,w.heap[0]?=some (.cells zn4 245 fr)
theorem OrdP.below{w w':World}(h:OrdP w)(hb:Below w.heap.size w w'):OrdP w':=by
 obtain ⟨fr,h1⟩:=h;exact ⟨fr,(hb.block _ (Array.getElem?_eq_some_iff.1 h1).1).trans h1⟩
theorem OrdP.fr{ρ:Nat->Nat}{w w':World}(h:OrdP w)(f:Fr mine ρ w w')(hg:ρ 0=0):OrdP w':=by
 obtain ⟨fr,h1⟩:=h;exact ⟨fr,(f.kp.block _ (Array.getElem?_eq_some_iff.1 h1).1 (by rw [hg];exact fun h=>h.1 rfl)).trans h1⟩
theorem OrdP.cell{w:World}(h:OrdP w){k:Nat}(hk:k<15):w.cell? ⟨0,k,none⟩=some (.int .i64 ((Tr.order.getD k 0:Nat):Int)):=by
 obtain ⟨fr,h1⟩:=h;rw [cell_of_row _ _ k _ _ _ h1];exact (vr5 hk).1
theorem OrdP.lt{w:World}(h:OrdP w):0<w.heap.size:=by
 obtain ⟨fr,h1⟩:=h;exact (Array.getElem?_eq_some_iff.1 h1).1
theorem j3p{l:List Int}{i:Nat}(h:i<l.length){v:Int}:(l.set i v).getD i 0=v:=by simp [List.getD_eq_getElem?_getD,h]
theorem zhx{l:List Int}{i j:Nat}(h:j≠i){v:Int}:(l.set i v).getD j 0=l.getD j 0:=by simp [List.getD_eq_getElem?_getD,List.getElem?_set_ne (Ne.symm h)]
theorem yed(hl:List Int):(hset hl).length=15:=by
 unfold hset;have:∀ (hl:List Int) (i:Nat) (l:List Int),(xhc hl i l).length=l.length:=fun hl=>by
  induction hl with
  | nil=>intro i l;rfl
  | cons x xs ih=>intro i l;show (xhc xs (i+1) (l.set _ x)).length=_;rw [ih];simp
 rw [this];rfl
structure jtk(w w':World)(t:Nat)(l:List Int):Prop where
 ex:∃ (m n:Nat) (f:Nat->Value),bsum l 12=n∧TabI w' 265 4 t m n (cn l) (fc (cn l)) (bgTo l 12) (lgTo l 12) (fun j=>[f (j*4),f (j*4+1),f (j*4+2),f (j*4+3)])∧HelperT.Filled l f l.length∧w.heap.size<=t∧w.heap.size<=m
 bel:Below w.heap.size w w'
theorem jtk.mm{ρ:Nat->Nat}{w w':World}{p t:Nat}{x:MS}{l:List Int}(h:MM ρ w p x)(m:jtk w w' t l)(hr:inRange l=true)(hl:l.length<=15):ym0 ρ w p { x with hs:=l } (w'.setCell ⟨p,30,none⟩ (.pointer (some ⟨t,0,none⟩))):=by
 obtain ⟨b,n,f,h1,h2,h3,h4,h5⟩:=m.ex;obtain ⟨ρ',hρ⟩:∃ ρ':Nat->Nat,ρ'=fun k=>if k=t∨k=b then 8 else ρ k:=⟨_,rfl⟩
 have e8:∀ k,k=t∨k=b->ρ' k=8:=fun k hk=>by rw [hρ];exact if_pos hk
 have en:∀ k,¬ (k=t∨k=b)->ρ' k=ρ k:=fun k hk=>by rw [hρ];exact if_neg hk
 have hz:∀ k,w.heap.size<=k->ρ k=0:=fun k hk=>h.new k hk
 have e1:Ext w.heap.size ρ ρ':=fun k hk=>en k (by omega)
 have e2:∀ k,ρ k≠0->ρ' k=ρ k:=fun k hk=>en k (fun hq=>hk (hz k (by omega)))
 obtain ⟨L,B,T⟩:=h.below m.bel;have B1:=B.rho e2;have T1:=T.rho e2 (fun k hk=>by
  by_cases hq:k=t∨k=b
  ·have:=h2.pm;omega
  ·rw [en k hq] at hk;exact T.lt k hk)
 have rp:=B1.rp;have F:Fr (fun k=>1<=k∧k<=5) ρ' w' (w'.setCell ⟨p,30,none⟩ (.pointer (some ⟨t,0,none⟩))):=Fr.own w' p 30 _ rp;have S:TabS ρ' w' 265 4 (fun i=>(v3q i).toList) t l:=⟨⟨b,n,_,h2,h1,fun i hi h0=>by
  have:=h3 i hi h0;show [_,_,_,_]=(v3q i).toList;rw [← this],e8 b (by simp)⟩,e8 t (by simp),hr,by omega⟩
 have T2:MT ρ' w' { x with hs:=l } { L with hp:= .pointer (some ⟨t,0,none⟩) }:=⟨T1.sup,T1.hl,T1.rw,Or.inr ⟨t,rfl,S⟩,T1.sets,T1.fx,T1.lt⟩
 exact ⟨⟨ρ',e1,{ L with hp:= .pointer (some ⟨t,0,none⟩) },B1.set 30 _ rfl ⟨rfl,rfl,rfl,rfl⟩ ⟨rfl,rfl⟩,T2.fr5 F⟩,(Fr.below (ρ:=ρ) m.bel).ext F.five_mine e1⟩
theorem MM.hlA{ρ:Nat->Nat}{w:World}{p:Nat}{x:MS}(h:MM ρ w p x):∃ ad cap,w.cell? ⟨p,29,none⟩=some (.slice ad x.hl.length cap)∧xin w ad x.hl:=by
 obtain ⟨L,B,T⟩:=h;obtain ⟨ad,cap,e,hc⟩:=T.hl.1.cells;exact ⟨ad,cap,by rw [← e];exact B.row.cell (i:=29) (by omega),hc⟩
theorem xin.of_row{w:World}{g:Nat}{T:TypeId}{l:List Int}{n:Nat}(h:w.rowIs g T n (fun j=> .int .i64 (l.getD j 0)))(hn:l.length<=n):xin w (some ⟨g,0,none⟩) l:=fun k hk=>⟨g,0,rfl,h.lt,by rw [Nat.zero_add];exact h.cell (i:=k) (by omega)⟩
def kee(ρ:Nat->Nat)(w:World)(p:Nat)(x:MS)(e:Ending)(w':World):Prop:=
 if jwa gw (hset x.hl)=2048 then e= .returned (.bool true)∧ym0 ρ w p { x with hs:=hset x.hl } w' else e= .returned (.bool false)∧ym0 ρ w p x w'
theorem kpx{ρ:Nat->Nat}{w:World}{p:Nat}{x:MS}(h:MM ρ w p x)(hO:OrdP w)(hx:∀ y∈x.hl,0<=y∧y<8)(hl:x.hl.length<=15) :
  Calls Tryz.prog 139 #[.pointer (some ⟨p,26,none⟩)] w fun v w'=>kee ρ w p x v w':=by
 have HM:Hid (MM ρ w p x∧OrdP w):=⟨h,hO⟩
 obtain ⟨ad,cap,c29,hco⟩:=h.hlA;have HC:Hid (xin w ad x.hl):=hco;have hset15:=yed x.hl;have hrng:=(jsu hx).1;have hp:p<w.heap.size:=by obtain ⟨L,B,T⟩:=h;exact B.row.lt
 have H0:Hid ((w.alloc (.cells #[.int .i64 0, .int .i64 0, .int .i64 0, .int .i64 0, .int .i64 0, .int .i64 0, .int .i64 0, .int .i64 0, .int .i64 0, .int .i64 0, .int .i64 0, .int .i64 0, .int .i64 0, .int .i64 0, .int .i64 0] 245)).rowIs w.heap.size 245 15 (fun j=> .int .i64 ((hset (x.hl.take 0)).getD j 0))∧Below w.heap.size w (w.alloc (.cells #[.int .i64 0, .int .i64 0, .int .i64 0, .int .i64 0, .int .i64 0, .int .i64 0, .int .i64 0, .int .i64 0, .int .i64 0, .int .i64 0, .int .i64 0, .int .i64 0, .int .i64 0, .int .i64 0, .int .i64 0] 245))):=by
  refine ⟨World.rowIs_alloc w _ _ _ (fun i hi=>?_),(Below.refl _ _).alloc (Nat.le_refl _) _⟩;have:i=0∨i=1∨i=2∨i=3∨i=4∨i=5∨i=6∨i=7∨i=8∨i=9∨i=10∨i=11∨i=12∨i=13∨i=14:=by have:i<15:=hi;omega
  rcases this with rfl | rfl | rfl | rfl | rfl | rfl | rfl | rfl | rfl | rfl | rfl | rfl | rfl | rfl | rfl <;> rfl
 clear h hO hco;go_enter Tryz.func139,Tryz.ntmps139
 go_wp2_with fail
 go_loopw [11] (fun i wr=>∃ k:Nat,k<=x.hl.length∧i= .int .i64 k∧Hid (wr.rowIs w.heap.size 245 15 (fun j=> .int .i64 ((hset (x.hl.take k)).getD j 0))∧Below w.heap.size w wr)) (fun i _=>x.hl.length - (intOf i).toNat)
 case atStart=>exact ⟨0,Nat.zero_le _,rfl,H0⟩
 case round=>
  clear H0;obtain ⟨k,hk,rfl,HH⟩:=hrel;by_cases hlt:k<x.hl.length
  ·obtain ⟨b,o,rfl,hb,hcell⟩:=(HC.out.below HH.out.2 (Nat.le_refl _)) k hlt;have ho15:Tr.order.getD k 0<15:=(vr5 (by omega)).2;have co:wr.cell? ⟨0,k,none⟩=some (.int .i64 ((Tr.order.getD k 0:Nat):Int)):=(HM.out.2.below HH.out.2).cell (by omega);have hk15:(k:Int)<15:=by omega
   have hkl:(k:Int)<x.hl.length:=by omega
   have cr:=HH.out.1.cell ho15;have zr:=HH.out.1.frozen (Tr.order.getD k 0);have HN:Hid ((wr.setCell ⟨w.heap.size,Tr.order.getD k 0,none⟩ (.int .i64 (x.hl.getD k 0))).rowIs w.heap.size 245 15 (fun j=> .int .i64 ((hset (x.hl.take (k+1))).getD j 0))∧Below w.heap.size w (wr.setCell ⟨w.heap.size,Tr.order.getD k 0,none⟩ (.int .i64 (x.hl.getD k 0)))):=by
    refine ⟨(HH.out.1.set _ _).congr fun j hj=>?_,HH.out.2.setCell (p:=⟨w.heap.size,Tr.order.getD k 0,none⟩) (Nat.le_refl _) _⟩;have e:x.hl.take (k+1)=x.hl.take k++[x.hl.getD k 0]:=by rw [List.take_succ_eq_append_getElem hlt];simp [hlt]
    have e2:(x.hl.take k).length=k:=by simp;omega
    rw [e,ycx,e2];have e3:=yed (x.hl.take k);by_cases ej:j=Tr.order.getD k 0
    ·rw [if_pos ej,ej];rw [j3p (by omega)]
    ·rw [if_neg ej];rw [zhx ej]
   obtain ⟨od,hod⟩:∃ od,od=Tr.order.getD k 0:=⟨_,rfl⟩
   rw [← hod] at ho15 co cr zr HN;clear hod;have hodi:(od:Int)<15:=by omega
   obtain ⟨vv,hvv⟩:∃ vv,vv=x.hl.getD k 0:=⟨_,rfl⟩
   rw [← hvv] at hcell HN;clear hvv;go_wp2_with fail
   go_roundw
   case rel=>exact ⟨k+1,by omega,by go_num,HN⟩
   case measure=>simp [intOf];omega
  ·obtain rfl:k=x.hl.length:=by omega
   have HRW:Hid (wr.rowIs w.heap.size 245 15 (fun j=> .int .i64 ((hset x.hl).getD j 0))∧Below w.heap.size w wr):=by
    have:=HH.out;rw [List.take_length] at this;exact this
   have HEE:Hid (∀ e w',kee ρ w p x e w'↔if jwa gw (hset x.hl)=2048 then e= .returned (.bool true)∧ym0 ρ w p { x with hs:=hset x.hl } w' else e= .returned (.bool false)∧ym0 ρ w p x w'):=fun _ _=>Iff.rfl
   obtain ⟨S,hS⟩:∃ S,S=hset x.hl:=⟨_,rfl⟩
   rw [← hS] at HRW hset15 hrng HEE;clear hS HH;have hcs:xin wr (some ⟨w.heap.size,0,none⟩) S:=xin.of_row HRW.out.1 (by omega);have HSO:Hid (Calls Tryz.prog 114 #[.slice (some ⟨w.heap.size,0,none⟩) 15 15] wr fun e w'=>e= .returned (.agg (arr (cn S)))∧Below wr.heap.size wr w'):=by
    have:=v5q (some ⟨w.heap.size,0,none⟩) 15 S wr (by omega) hcs hrng;rw [hset15] at this;exact this
   have HNT:Hid (∀ w',Below wr.heap.size wr w'->Calls Tryz.prog 168 #[.slice (some ⟨w.heap.size,0,none⟩) 15 15, .func (.func 169) #[] #[]] w' fun e w''=>∃ t,e= .returned (.pointer (some ⟨t,0,none⟩))∧jtk w' w'' t S):=fun w' b=>by
    have:=HelperT.newTable (some ⟨w.heap.size,0,none⟩) 15 S w' (by omega) (hcs.below b (Nat.le_refl _)) hrng;rw [hset15] at this;refine this.mono ?_;rintro e w'' ⟨t,m,n,f,rfl,h1,h2,h3,h4,h5,h6⟩;exact ⟨t,rfl,⟨m,n,f,h1,h2,by rw [hset15];exact h3,h4,h5⟩,h6⟩
   have HBD:Hid (∀ j,j<12->0<=cn S j∧cn S j<=1000000):=z7r (by omega);have HEQ:Hid (shr (cn S) 12=jwa gw S):=by show _=_;rw [kfr S hrng,yky]
   have HRG:Hid (inRange S=true∧S.length<=15):=⟨hrng,by omega⟩
   clear hcs hrng hset15;go_wp2_with fail
   refine HSO.out.mono ?_;rintro e w1 ⟨rfl,b1⟩;have HD1:Hid (Below wr.heap.size wr w1):=b1;clear b1;go_wp2_with fail
   refine (xni (cn S) _ HBD.out).mono ?_;rintro e w2 ⟨rfl,b2⟩;have HD2:Hid (Below wr.heap.size wr w2):=HD1.out.trans (b2.mono HD1.out.size);clear b2;cases hS:(shr (cn S) 12==2048) with
   | false=>
    have HBAD:Hid (¬ jwa gw S=2048):=fun e=>by rw [HEQ.out,e] at hS;cases hS
    clear hS;go_wp2_with fail
    go_ret
    rw [HEE.out,if_neg HBAD.out];have b:Below w.heap.size w w2:=HRW.out.2.trans (HD2.out.mono HRW.out.2.size);exact ⟨rfl,ym0.of (HM.out.1.below b) (Fr.below b)⟩
   | true=>
    have HGOOD:Hid (jwa gw S=2048):=by show _=_;rw [← HEQ.out];simpa using hS
    clear hS;go_wp2_with fail
    refine (HNT.out _ HD2.out).mono ?_;rintro e w3 ⟨t,rfl,MH⟩;have b:Below w.heap.size w w2:=HRW.out.2.trans (HD2.out.mono HRW.out.2.size);have HA:Hid (ym0 ρ w p { x with hs:=S } (w3.setCell ⟨p,30,none⟩ (.pointer (some ⟨t,0,none⟩)))):=ym0.next (Ext.refl _ _) (Fr.below b) (jtk.mm (HM.out.1.below b) MH HRG.out.1 HRG.out.2);have mm3:MM ρ w3 p x:=(HM.out.1.below b).below MH.bel;obtain ⟨L,B3,T3⟩:=mm3;have e30:w3.cell? ⟨p,30,none⟩=some L.hp:=B3.row.cell (i:=30) (by omega);have z30:=B3.row.frozen 30;clear MH b B3 T3;go_wp2_with fail
    go_ret
    rw [HEE.out,if_pos HGOOD.out];exact ⟨rfl,HA.out⟩
end Go.Proofs.YtbcjmakpempkiaaGreatDoor
