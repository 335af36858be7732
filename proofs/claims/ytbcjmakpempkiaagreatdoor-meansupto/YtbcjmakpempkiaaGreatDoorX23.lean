import Derived.Test.YtbcjmakpempkiaaGreatDoorX22
set_option maxRecDepth 100000
set_option maxHeartbeats 8000000
set_option linter.all false
namespace Go.Proofs.YtbcjmakpempkiaaGreatDoor
open Go.RowKit
theorem vux(l:List Int)(k:Nat):lgTo l k=lng l k:=by
 induction k with
 | zero=>rfl
 | succ k ih=>rw [lgTo,lng,ih]
theorem j6p(l:List Int):lgTo l 12<=11:=by rw [vux];exact y4h l 11
def SymE(ρ:Nat->Nat)(w:World)(p:Nat)(mean:Nat->Array Value)(zero:Array Value)(r:MS×Nat×Nat)(e:Ending)(w':World):Prop:=e= .returned (.tuple #[.agg (if r.2.1=0 then mean r.2.2 else zero), .int .i64 r.2.1])∧MM ρ w' p r.1∧Fr (fun k=>1<=k∧k<=5) ρ w w'
structure Sw(ρ:Nat->Nat)(w:World)(p:Nat)(T TT:TypeId)(k:Nat)(z:Nat->Value)(mean:Nat->List Value)(t:Nat)(l:List Int)(R:MS×Nat×Nat)(code n r:Nat)(y:MS)(wr:World):Prop where
 mm:MM ρ wr p y
 ok:Ok y
 cnt:y.count<=40
 eq:MS.symL l r n code y=R
 n1:1<=n
 nr:n+r=lgTo l 12+1
 code:code<2^(n - 1)
 b4:wr.rowIs w.heap.size T k z
 b6:wr.rowIs (w.heap.size+1) T k z
 tab:TabS ρ wr TT k mean t l
 r4:ρ w.heap.size=0
 r6:ρ (w.heap.size+1)=0
 fr:Fr (fun k=>1<=k∧k<=5) ρ w wr
structure Sk(ρ:Nat->Nat)(w:World)(p:Nat)(T TT:TypeId)(k:Nat)(z:Nat->Value)(mean:Nat->List Value)(t:Nat)(l:List Int)(y:MS)(wr:World):Prop where
 mm:MM ρ wr p y
 ok:Ok y
 b4:wr.rowIs w.heap.size T k z
 b6:wr.rowIs (w.heap.size+1) T k z
 tab:TabS ρ wr TT k mean t l
 r4:ρ w.heap.size=0
 r6:ρ (w.heap.size+1)=0
 fr:Fr (fun k=>1<=k∧k<=5) ρ w wr
theorem Sw.sk{ρ:Nat->Nat}{w:World}{p:Nat}{T TT:TypeId}{k:Nat}{z:Nat->Value}{mean:Nat->List Value}{t:Nat}{l:List Int}{R:MS×Nat×Nat}{code n r:Nat}{y:MS}{wr:World}(h:Sw ρ w p T TT k z mean t l R code n r y wr):Sk ρ w p T TT k z mean t l y wr:=⟨h.mm,h.ok,h.b4,h.b6,h.tab,h.r4,h.r6,h.fr⟩
theorem Sk.next{ρ:Nat->Nat}{w:World}{p:Nat}{T TT:TypeId}{k:Nat}{z:Nat->Value}{mean:Nat->List Value}{t:Nat}{l:List Int}{y y':MS}{wr w2:World}(h:Sk ρ w p T TT k z mean t l y wr)(m:MM ρ w2 p y')(o:Ok y')(f:Fr (fun k=>1<=k∧k<=5) ρ wr w2):Sk ρ w p T TT k z mean t l y' w2:=⟨m,o,zlz h.b4 f.kp (by rw [h.r4];exact no0),zlz h.b6 f.kp (by rw [h.r6];exact no0),h.tab.fr f.kp (by decide),h.r4,h.r6,h.fr.trans f⟩
theorem Sk.below{ρ:Nat->Nat}{w:World}{p:Nat}{T TT:TypeId}{k:Nat}{z:Nat->Value}{mean:Nat->List Value}{t:Nat}{l:List Int}{y:MS}{wr w2:World}(h:Sk ρ w p T TT k z mean t l y wr)(b:Below wr.heap.size wr w2):Sk ρ w p T TT k z mean t l y w2:=h.next (h.mm.below b) h.ok (Fr.below b)
theorem Sk.drewN{ρ:Nat->Nat}{w:World}{p:Nat}{T TT:TypeId}{k:Nat}{z:Nat->Value}{mean:Nat->List Value}{t:Nat}{l:List Int}{y:MS}{wr:World}(h:Sk ρ w p T TT k z mean t l y wr)(n:Nat):Sk ρ w p T TT k z mean t l y (wr.drewN n):=h.next (h.mm.drewN n) h.ok ((Fr.refl _ _ _).drewN n)
theorem MM.fr0{ρ:Nat->Nat}{w w':World}{p:Nat}{x:MS}(h:MM ρ w p x)(f:Kp (fun r=>r=0) ρ w w'):MM ρ w' p x:=by
 obtain ⟨L,B,T⟩:=h;obtain ⟨o,g,k⟩:=B.ra;obtain ⟨o2,g2,k2⟩:=B.rc;obtain ⟨r1,r2,r3,r4⟩:=B.rl;exact ⟨L,⟨zlz B.row f (by rw [B.rp];decide),⟨o,g,k.kp f (by rw [r1];decide) (by rw [r2];decide)⟩,⟨o2,g2,k2.kp f (by rw [r3];decide) (by rw [r4];decide)⟩,B.rp,B.rl⟩,T.fr f (fun r e=>by omega)⟩
theorem MM.setNew{ρ:Nat->Nat}{w:World}{p:Nat}{x:MS}(h:MM ρ w p x)(g i:Nat)(v:Value)(hg:ρ g=0):MM ρ (w.setCell ⟨g,i,none⟩ v) p x:=h.fr0 (Kp.of_set w _ _ hg)
theorem Fr.setNew{R:Nat->Prop}{ρ:Nat->Nat}{w w':World}(h:Fr R ρ w w')(g i:Nat)(v:Value)(hg:w.heap.size<=g):Fr R ρ w (w'.setCell ⟨g,i,none⟩ v):=⟨⟨by simpa [World.setCell] using h.kp.size,fun k hk hr=>by rw [Below.heap_setCell _ _ _ _ (by show k≠g;omega)];exact h.kp.block k hk hr⟩,h.os,h.tape,h.output⟩
theorem v2g{c n b:Nat}(hn:1<=n)(hc:c<2^(n - 1))(hb:b<2):2*c+b<2^(n+1 - 1):=by
 rw [show n+1 - 1=(n - 1)+1 by omega,Nat.pow_succ];omega
theorem kdd{ρ:Nat->Nat}{w:World}{p t:Nat}{x:MS}{l:List Int}(h:MM ρ w p x)(ok:Ok x)(hx:x.count<=40)(ht:TabS ρ w 271 2 (fun i=>(y5c 1 i).toList) t l) :
  Calls Tryz.prog 149 #[.pointer (some ⟨p,0,none⟩), .pointer (some ⟨t,0,none⟩)] w fun v w'=>SymE ρ w p (y5c 1) #[.int .i64 0, .int .i64 0] (x.sym l) v w':=by
 obtain ⟨R,hR⟩:∃ R,R=x.sym l:=⟨_,rfl⟩
 have hlg:=j6p l;have b0:Below w.heap.size w ((w.alloc (.cells #[.int .i64 0, .int .i64 0] 125)).alloc (.cells #[.int .i64 0, .int .i64 0] 125)):=((Below.refl _ _).alloc (Nat.le_refl _) _).alloc (by simp) _;have H0:Hid (∃ r,Sw ρ w p 125 271 2 (lrow [.int .i64 0, .int .i64 0]) (fun i=>(y5c 1 i).toList) t l R 0 1 r x ((w.alloc (.cells #[.int .i64 0, .int .i64 0] 125)).alloc (.cells #[.int .i64 0, .int .i64 0] 125))):=by
  refine ⟨lgTo l 12,h.below b0,ok,hx,hR.symm,Nat.le_refl _,by omega,by decide,?_,?_,ht.fr (R:=fun _=>False) (Kp.of_below b0) (fun e=>e),h.new _ (Nat.le_refl _),h.new _ (by omega),Fr.below b0⟩
  ·exact (World.rowIs_alloc w #[.int .i64 0, .int .i64 0] 125 (lrow [.int .i64 0, .int .i64 0]) (fun i hi=>by
    have:i=0∨i=1:=by have:i<2:=hi;omega
    rcases this with rfl | rfl <;> rfl)).alloc _
  ·have:=World.rowIs_alloc (w.alloc (.cells #[.int .i64 0, .int .i64 0] 125)) #[.int .i64 0, .int .i64 0] 125 (lrow [.int .i64 0, .int .i64 0]) (fun i hi=>by
    have:i=0∨i=1:=by have:i<2:=hi;omega
    rcases this with rfl | rfl <;> rfl)
   simpa using this
 rw [← hR];clear h ok hx ht hR b0;go_enter Tryz.func149,Tryz.ntmps149
 go_wp2_with fail
 go_loopw [7,8] (fun c n wr=>∃ (code len:Nat),c= .int .i64 code∧n= .int .i64 len∧Hid (∃ r y,Sw ρ w p 125 271 2 (lrow [.int .i64 0, .int .i64 0]) (fun i=>(y5c 1 i).toList) t l R code len r y wr)) (fun _ n _=>13 - (intOf n).toNat)
 case atStart=>exact ⟨0,1,rfl,rfl,by obtain ⟨r,h⟩:=H0.out;exact ⟨r,x,h⟩⟩
 case round=>
  clear H0;obtain ⟨code,len,rfl,rfl,HH⟩:=hrel;obtain ⟨r,y,Y⟩:=HH.out;have hn1:=Y.n1;have hnr:=Y.nr;have hcd:=Y.code;have hcnt:=Y.cnt;have HK:Hid (Sk ρ w p 125 271 2 (lrow [.int .i64 0, .int .i64 0]) (fun i=>(y5c 1 i).toList) t l y wr):=Y.sk;have HEQ:Hid (MS.symL l r len code y=R):=Y.eq;have HLG:Hid (Calls Tryz.prog 176 #[.pointer (some ⟨t,0,none⟩)] wr fun x w'=>x= .returned (.int .i64 (lgTo l 12))∧wr=w'):=by
   obtain ⟨m,N,mg,I,_,_,_⟩:=Y.tab.tab;exact ysa I
  clear Y HH;obtain ⟨lg,hlgE⟩:∃ lg,lg=lgTo l 12:=⟨_,rfl⟩
  rw [← hlgE] at HLG hnr hlg;have HLGE:Hid (lg=lgTo l 12):=hlgE;clear hlgE;go_wp2_with fail
  refine HLG.out.mono ?_;rintro e w' ⟨rfl,rfl⟩;by_cases hlt:len<=lg
  ·obtain ⟨r,rfl⟩:∃ q,r=q+1:=⟨r - 1,by omega⟩
   have hlti:(len:Int)<=lg:=by omega
   have hcode:code<2048:=by
    have:2^(len - 1)<=2^11:=Nat.pow_le_pow_right (by decide) (by omega);have e:2^11=2048:=by decide
    omega
   have HST:Hid (R=if (MS.need len y).2≠0 then ((MS.need len y).1,(MS.need len y).2,0) else if 0<=find (rset l) len ((2*code+(MS.need len y).1.held / 2^(len - 1)%2:Nat):Int) then ((MS.need len y).1.rd len,0,(find (rset l) len ((2*code+(MS.need len y).1.held / 2^(len - 1)%2:Nat):Int)).toNat) else MS.symL l r (len+1) (2*code+(MS.need len y).1.held / 2^(len - 1)%2) (MS.need len y).1):=HEQ.out.symm;clear HEQ;go_wp2_with fail
   refine (zvo len HK.out.mm HK.out.ok (by omega) (by omega)).mono ?_;rintro v w1 ⟨rfl,g1,g2⟩;by_cases h0:(MS.need len y).2=0
   ·have k1:=MS.need_cnt HK.out.ok h0;have k3:=MS.need_ok (k:=len) HK.out.ok;rw [h0];rw [if_neg (by rw [h0];simp)] at HST;obtain ⟨z,hz⟩:∃ z,z=(MS.need len y).1:=⟨_,rfl⟩
    rw [← hz] at g1 HST k1 k3;have HZ:Hid (Sk ρ w p 125 271 2 (lrow [.int .i64 0, .int .i64 0]) (fun i=>(y5c 1 i).toList) t l z w1):=HK.out.next g1 k3 g2;clear g1 g2 hz h0 k3;obtain ⟨d,hd⟩:∃ d,d=len - 1:=⟨_,rfl⟩
    have hdi:(len:Int) - 1=(d:Int):=by omega
    have hdl:d<z.count:=by omega
    rw [← hd] at HST;have HD:Hid (d=len - 1):=hd;clear hd;have hb2:z.held / 2^d%2<2:=Nat.mod_lt _ (by decide);have HAT:Hid (Calls Tryz.prog 171 #[.pointer (some ⟨p,14,none⟩), .int .i64 d] w1 fun v w'=>v= .returned (.int .i64 (z.held / 2^d%2:Nat))∧MM ρ w' p z∧Fr (fun k=>1<=k∧k<=5) ρ w1 w'):=mAt d HZ.out.mm HZ.out.ok hdl (by omega);obtain ⟨b,hb⟩:∃ b,b=z.held / 2^d%2:=⟨_,rfl⟩
    rw [← hb] at HST hb2 HAT;clear hb;obtain ⟨c2,hc2⟩:∃ c2,c2=2*code+b:=⟨_,rfl⟩
    have hor:bits .or .i64 ((code:Int)*2) (b:Int)=(c2:Int):=by rw [hc2];exact vh0 code b (by omega) hb2
    have hpw:c2<2^(len+1 - 1):=by rw [hc2];exact v2g hn1 hcd hb2
    have hc2b:c2<=1000000:=by omega
    rw [← hc2] at HST;clear hc2;go_wp2_with fail
    refine HAT.out.mono ?_;rintro v w2 ⟨rfl,g1,g2⟩;have H2:Hid (Sk ρ w p 125 271 2 (lrow [.int .i64 0, .int .i64 0]) (fun i=>(y5c 1 i).toList) t l z w2):=HZ.out.next g1 HZ.out.ok g2;have TF:=zdb H2.out.tab c2 len hc2b (by omega) (by omega);have HPW:Hid (c2<2^(len+1 - 1)):=hpw;clear g1 g2 HAT HZ hpw;by_cases hf:0<=find (rset l) len (c2:Int)
    ·rw [if_pos hf] at HST;obtain ⟨i,hi⟩:∃ i,i=(find (rset l) len (c2:Int)).toNat:=⟨_,rfl⟩
     have HF:=TF.1 hf;rw [← hi] at HST HF;obtain ⟨v1,v2,hv⟩:=SpanT.four i;have HV:Hid (y5c 1 i=#[.int .i64 v1, .int .i64 v2]):=hv;rw [hv] at HF;have HFF:Hid (Calls Tryz.prog 177 #[.pointer (some ⟨t,0,none⟩), .int .i64 c2, .int .i64 len] w2 fun x w'=>x= .returned (.tuple #[.agg #[.int .i64 v1, .int .i64 v2], .bool true])∧Below w2.heap.size w2 w'):=HF;clear HF TF hf hi hv;go_wp2_with fail
     refine HFF.out.mono ?_;rintro e w3 ⟨rfl,b3⟩;have H3:Hid (Sk ρ w p 125 271 2 (lrow [.int .i64 0, .int .i64 0]) (fun i=>(y5c 1 i).toList) t l z w3):=H2.out.below b3;have b4:Below w3.heap.size w3 (w3.alloc (.cells #[.int .i64 v1, .int .i64 v2] 125)):=(Below.refl _ _).alloc (Nat.le_refl _) _;have H4:Hid (Sk ρ w p 125 271 2 (lrow [.int .i64 0, .int .i64 0]) (fun i=>(y5c 1 i).toList) t l z (w3.alloc (.cells #[.int .i64 v1, .int .i64 v2] 125))):=H3.out.below b4;have q0:(w3.alloc (.cells #[.int .i64 v1, .int .i64 v2] 125)).cell? ⟨w3.heap.size,0,none⟩=some (.int .i64 v1):=by simp
     have q1:(w3.alloc (.cells #[.int .i64 v1, .int .i64 v2] 125)).cell? ⟨w3.heap.size,1,none⟩=some (.int .i64 v2):=by simp
     have hq:w3.heap.size<(w3.alloc (.cells #[.int .i64 v1, .int .i64 v2] 125)).heap.size:=by simp
     have rq:ρ w3.heap.size=0:=H3.out.mm.new _ (Nat.le_refl _);have hgq:w3.heap.size≠w.heap.size:=by have:=H3.out.b4.lt;omega
     clear b3 b4 H2;go_wp2_with fail
     generalize w3.alloc (.cells #[.int .i64 v1, .int .i64 v2] 125)=W3 at *;refine (zw3 len H4.out.mm H4.out.ok k1.1 (by omega)).mono ?_;rintro e w5 ⟨rfl,g1,g2⟩;have s0:=g2.cell q0 hq (by rw [rq];exact no0);have s1:=g2.cell q1 hq (by rw [rq];exact no0);have H5:Hid (Sk ρ w p 125 271 2 (lrow [.int .i64 0, .int .i64 0]) (fun i=>(y5c 1 i).toList) t l (z.rd len) w5):=H4.out.next g1 (H4.out.ok.rd k1.1) g2;have u0:w5.cell? ⟨w.heap.size,0,none⟩=some (.int .i64 0):=H5.out.b4.cell (i:=0) (by omega);have u1:w5.cell? ⟨w.heap.size,1,none⟩=some (.int .i64 0):=H5.out.b4.cell (i:=1) (by omega);have x0:=H5.out.b4.frozen 0;have x1:=H5.out.b4.frozen 1;have HFIN:Hid ((((w5.setCell ⟨w.heap.size,0,none⟩ (.int .i64 v1)).setCell ⟨w.heap.size,1,none⟩ (.int .i64 v2)).heap[w.heap.size]?=some (.cells #[.int .i64 v1, .int .i64 v2] 125))∧MM ρ ((w5.setCell ⟨w.heap.size,0,none⟩ (.int .i64 v1)).setCell ⟨w.heap.size,1,none⟩ (.int .i64 v2)) p (z.rd len)∧Fr (fun k=>1<=k∧k<=5) ρ w ((w5.setCell ⟨w.heap.size,0,none⟩ (.int .i64 v1)).setCell ⟨w.heap.size,1,none⟩ (.int .i64 v2))):=by
      refine ⟨xch (((H5.out.b4).set 0 (.int .i64 v1)).set 1 (.int .i64 v2)),((H5.out.mm).setNew w.heap.size 0 (.int .i64 v1) H5.out.r4).setNew w.heap.size 1 (.int .i64 v2) H5.out.r4,((H5.out.fr).setNew w.heap.size 0 (.int .i64 v1) (Nat.le_refl _)).setNew w.heap.size 1 (.int .i64 v2) (Nat.le_refl _)⟩
     clear g1 g2;go_wp2_with fail
     refine bodyPost_ret (v7f Tryz.results149 _ _ _ _ _ _ _ rfl HFIN.out.1 Tryz.underlying125 rfl (xtd _ rfl)) rfl ?_;unfold SymE;rw [HST.out];exact ⟨by rw [← HV.out];rfl,HFIN.out.2⟩
    ·rw [if_neg hf] at HST;have HFF:Hid (Calls Tryz.prog 177 #[.pointer (some ⟨t,0,none⟩), .int .i64 c2, .int .i64 len] w2 fun x w'=>x= .returned (.tuple #[.agg #[.int .i64 0, .int .i64 0], .bool false])∧Below w2.heap.size w2 w'):=TF.2 hf;clear TF hf;go_wp2_with fail
     refine HFF.out.mono ?_;rintro e w3 ⟨rfl,b3⟩;have H3:Hid (Sk ρ w p 125 271 2 (lrow [.int .i64 0, .int .i64 0]) (fun i=>(y5c 1 i).toList) t l z w3):=H2.out.below b3;have b4:Below w3.heap.size w3 (w3.alloc (.cells #[.int .i64 0, .int .i64 0] 125)):=(Below.refl _ _).alloc (Nat.le_refl _) _;have H4:Hid (Sk ρ w p 125 271 2 (lrow [.int .i64 0, .int .i64 0]) (fun i=>(y5c 1 i).toList) t l z (w3.alloc (.cells #[.int .i64 0, .int .i64 0] 125))):=H3.out.below b4;clear b3 b4 H2;have HN:Hid (∃ r y,Sw ρ w p 125 271 2 (lrow [.int .i64 0, .int .i64 0]) (fun i=>(y5c 1 i).toList) t l R c2 (len+1) r y (w3.alloc (.cells #[.int .i64 0, .int .i64 0] 125))):=⟨r,z,H4.out.mm,H4.out.ok,by omega,HST.out.symm,by omega,by have:=HLGE.out;omega,HPW.out,H4.out.b4,H4.out.b6,H4.out.tab,H4.out.r4,H4.out.r6,H4.out.fr⟩
     go_wp2_with fail
     go_roundw
     case rel=>exact ⟨c2,len+1,rfl,by go_num,HN⟩
     case measure=>simp [intOf];omega
   ·rw [if_pos h0] at HST;obtain ⟨e,he⟩:∃ e,e=(MS.need len y).2:=⟨_,rfl⟩
    have HZ:Hid (Sk ρ w p 125 271 2 (lrow [.int .i64 0, .int .i64 0]) (fun i=>(y5c 1 i).toList) t l (MS.need len y).1 w1):=HK.out.next g1 (MS.need_ok HK.out.ok) g2;rw [← he] at h0 HST ⊢;have h0':((e:Int)==0)=false:=by simp;exact h0
    clear g1 g2 he;have u0:w1.cell? ⟨w.heap.size,0,none⟩=some (.int .i64 0):=HZ.out.b4.cell (i:=0) (by omega);have u1:w1.cell? ⟨w.heap.size,1,none⟩=some (.int .i64 0):=HZ.out.b4.cell (i:=1) (by omega);have x0:=HZ.out.b4.frozen 0;have x1:=HZ.out.b4.frozen 1;have s0:w1.cell? ⟨w.heap.size+1,0,none⟩=some (.int .i64 0):=HZ.out.b6.cell (i:=0) (by omega);have s1:w1.cell? ⟨w.heap.size+1,1,none⟩=some (.int .i64 0):=HZ.out.b6.cell (i:=1) (by omega);have HFIN:Hid ((((w1.setCell ⟨w.heap.size,0,none⟩ (.int .i64 0)).setCell ⟨w.heap.size,1,none⟩ (.int .i64 0)).heap[w.heap.size]?=some (.cells #[.int .i64 0, .int .i64 0] 125))∧MM ρ ((w1.setCell ⟨w.heap.size,0,none⟩ (.int .i64 0)).setCell ⟨w.heap.size,1,none⟩ (.int .i64 0)) p (MS.need len y).1∧Fr (fun k=>1<=k∧k<=5) ρ w ((w1.setCell ⟨w.heap.size,0,none⟩ (.int .i64 0)).setCell ⟨w.heap.size,1,none⟩ (.int .i64 0))):=by
     refine ⟨xch (((HZ.out.b4).set 0 (.int .i64 0)).set 1 (.int .i64 0)),((HZ.out.mm).setNew w.heap.size 0 (.int .i64 0) HZ.out.r4).setNew w.heap.size 1 (.int .i64 0) HZ.out.r4,((HZ.out.fr).setNew w.heap.size 0 (.int .i64 0) (Nat.le_refl _)).setNew w.heap.size 1 (.int .i64 0) (Nat.le_refl _)⟩
    go_wp2_with fail
    refine bodyPost_ret (v7f Tryz.results149 _ _ _ _ _ _ _ rfl HFIN.out.1 Tryz.underlying125 rfl (xtd _ rfl)) rfl ?_;unfold SymE;rw [HST.out];exact ⟨by rw [if_neg h0];rfl,HFIN.out.2⟩
  ·obtain rfl:r=0:=by omega
   have hlti:¬ (len:Int)<=lg:=by omega
   have HST:Hid (R=((y.refuse 11).1,3,0)):=HEQ.out.symm;clear HEQ;have s0:wr.cell? ⟨w.heap.size+1,0,none⟩=some (.int .i64 0):=HK.out.b6.cell (i:=0) (by omega);have s1:wr.cell? ⟨w.heap.size+1,1,none⟩=some (.int .i64 0):=HK.out.b6.cell (i:=1) (by omega);go_wp2_with fail
   go_region_held3 (fun wv=>wv.cell? ⟨w.heap.size+1,0,none⟩=some (.int .i64 0)∧wv.cell? ⟨w.heap.size+1,1,none⟩=some (.int .i64 0)) (first | exact ⟨s0,s1⟩ | exact ⟨a0,a1⟩ | exact ⟨(jq1 (q:=⟨w.heap.size+1,0,none⟩) (by simp)).trans a0,(jq1 (q:=⟨w.heap.size+1,1,none⟩) (by simp)).trans a1⟩)
    (first | (go_at_call 79;refine (kv8 11 (HK.out.mm.drewN 1)).mono ?_;rintro e w2 ⟨rfl,g1,g2⟩;have H2:Hid (Sk ρ w p 125 271 2 (lrow [.int .i64 0, .int .i64 0]) (fun i=>(y5c 1 i).toList) t l (y.refuse 11).1 w2):=(HK.out.drewN 1).next g1 (HK.out.ok.refuse 11) g2;have a0:w2.cell? ⟨w.heap.size+1,0,none⟩=some (.int .i64 0):=H2.out.b6.cell (i:=0) (by omega);have u0:w2.cell? ⟨w.heap.size,0,none⟩=some (.int .i64 0):=H2.out.b4.cell (i:=0) (by omega);have x0:=H2.out.b4.frozen 0;have a1:w2.cell? ⟨w.heap.size+1,1,none⟩=some (.int .i64 0):=H2.out.b6.cell (i:=1) (by omega);have u1:w2.cell? ⟨w.heap.size,1,none⟩=some (.int .i64 0):=H2.out.b4.cell (i:=1) (by omega);have x1:=H2.out.b4.frozen 1;clear g1 g2))
   all_goals
    have HFIN:Hid ((((w2.setCell ⟨w.heap.size,0,none⟩ (.int .i64 0)).setCell ⟨w.heap.size,1,none⟩ (.int .i64 0)).heap[w.heap.size]?=some (.cells #[.int .i64 0, .int .i64 0] 125))∧MM ρ ((w2.setCell ⟨w.heap.size,0,none⟩ (.int .i64 0)).setCell ⟨w.heap.size,1,none⟩ (.int .i64 0)) p (y.refuse 11).1∧Fr (fun k=>1<=k∧k<=5) ρ w ((w2.setCell ⟨w.heap.size,0,none⟩ (.int .i64 0)).setCell ⟨w.heap.size,1,none⟩ (.int .i64 0))):=by
     refine ⟨xch (((H2.out.b4).set 0 (.int .i64 0)).set 1 (.int .i64 0)),((H2.out.mm).setNew w.heap.size 0 (.int .i64 0) H2.out.r4).setNew w.heap.size 1 (.int .i64 0) H2.out.r4,((H2.out.fr).setNew w.heap.size 0 (.int .i64 0) (Nat.le_refl _)).setNew w.heap.size 1 (.int .i64 0) (Nat.le_refl _)⟩
    go_wp2_with fail
    refine bodyPost_ret (v7f Tryz.results149 _ _ _ _ _ _ _ rfl HFIN.out.1 Tryz.underlying125 rfl (xtd _ rfl)) rfl ?_;unfold SymE;rw [HST.out];exact ⟨rfl,HFIN.out.2⟩
theorem zh1{ρ:Nat->Nat}{w:World}{p t:Nat}{x:MS}{l:List Int}(h:MM ρ w p x)(ok:Ok x)(hx:x.count<=40)(ht:TabS ρ w 265 4 (fun i=>(v3q i).toList) t l) :
  Calls Tryz.prog 140 #[.pointer (some ⟨p,0,none⟩), .pointer (some ⟨t,0,none⟩)] w fun v w'=>SymE ρ w p (v3q) #[.int .i64 0, .bool false, .int .i64 0, .int .i64 0] (x.sym l) v w':=by
 obtain ⟨R,hR⟩:∃ R,R=x.sym l:=⟨_,rfl⟩
 have hlg:=j6p l;have b0:Below w.heap.size w ((w.alloc (.cells #[.int .i64 0, .bool false, .int .i64 0, .int .i64 0] 127)).alloc (.cells #[.int .i64 0, .bool false, .int .i64 0, .int .i64 0] 127)):=((Below.refl _ _).alloc (Nat.le_refl _) _).alloc (by simp) _;have H0:Hid (∃ r,Sw ρ w p 127 265 4 (lrow [.int .i64 0, .bool false, .int .i64 0, .int .i64 0]) (fun i=>(v3q i).toList) t l R 0 1 r x ((w.alloc (.cells #[.int .i64 0, .bool false, .int .i64 0, .int .i64 0] 127)).alloc (.cells #[.int .i64 0, .bool false, .int .i64 0, .int .i64 0] 127))):=by
  refine ⟨lgTo l 12,h.below b0,ok,hx,hR.symm,Nat.le_refl _,by omega,by decide,?_,?_,ht.fr (R:=fun _=>False) (Kp.of_below b0) (fun e=>e),h.new _ (Nat.le_refl _),h.new _ (by omega),Fr.below b0⟩
  ·exact (World.rowIs_alloc w #[.int .i64 0, .bool false, .int .i64 0, .int .i64 0] 127 (lrow [.int .i64 0, .bool false, .int .i64 0, .int .i64 0]) (fun i hi=>by
    have:i=0∨i=1∨i=2∨i=3:=by have:i<4:=hi;omega
    rcases this with rfl | rfl | rfl | rfl <;> rfl)).alloc _
  ·have:=World.rowIs_alloc (w.alloc (.cells #[.int .i64 0, .bool false, .int .i64 0, .int .i64 0] 127)) #[.int .i64 0, .bool false, .int .i64 0, .int .i64 0] 127 (lrow [.int .i64 0, .bool false, .int .i64 0, .int .i64 0]) (fun i hi=>by
    have:i=0∨i=1∨i=2∨i=3:=by have:i<4:=hi;omega
    rcases this with rfl | rfl | rfl | rfl <;> rfl)
   simpa using this
 rw [← hR];clear h ok hx ht hR b0;go_enter Tryz.func140,Tryz.ntmps140
 go_wp2_with fail
 go_loopw [7,8] (fun c n wr=>∃ (code len:Nat),c= .int .i64 code∧n= .int .i64 len∧Hid (∃ r y,Sw ρ w p 127 265 4 (lrow [.int .i64 0, .bool false, .int .i64 0, .int .i64 0]) (fun i=>(v3q i).toList) t l R code len r y wr)) (fun _ n _=>13 - (intOf n).toNat)
 case atStart=>exact ⟨0,1,rfl,rfl,by obtain ⟨r,h⟩:=H0.out;exact ⟨r,x,h⟩⟩
 case round=>
  clear H0;obtain ⟨code,len,rfl,rfl,HH⟩:=hrel;obtain ⟨r,y,Y⟩:=HH.out;have hn1:=Y.n1;have hnr:=Y.nr;have hcd:=Y.code;have hcnt:=Y.cnt;have HK:Hid (Sk ρ w p 127 265 4 (lrow [.int .i64 0, .bool false, .int .i64 0, .int .i64 0]) (fun i=>(v3q i).toList) t l y wr):=Y.sk;have HEQ:Hid (MS.symL l r len code y=R):=Y.eq;have HLG:Hid (Calls Tryz.prog 170 #[.pointer (some ⟨t,0,none⟩)] wr fun x w'=>x= .returned (.int .i64 (lgTo l 12))∧wr=w'):=by
   obtain ⟨m,N,mg,I,_,_,_⟩:=Y.tab.tab;exact kta I
  clear Y HH;obtain ⟨lg,hlgE⟩:∃ lg,lg=lgTo l 12:=⟨_,rfl⟩
  rw [← hlgE] at HLG hnr hlg;have HLGE:Hid (lg=lgTo l 12):=hlgE;clear hlgE;go_wp2_with fail
  refine HLG.out.mono ?_;rintro e w' ⟨rfl,rfl⟩;by_cases hlt:len<=lg
  ·obtain ⟨r,rfl⟩:∃ q,r=q+1:=⟨r - 1,by omega⟩
   have hlti:(len:Int)<=lg:=by omega
   have hcode:code<2048:=by
    have:2^(len - 1)<=2^11:=Nat.pow_le_pow_right (by decide) (by omega);have e:2^11=2048:=by decide
    omega
   have HST:Hid (R=if (MS.need len y).2≠0 then ((MS.need len y).1,(MS.need len y).2,0) else if 0<=find (rset l) len ((2*code+(MS.need len y).1.held / 2^(len - 1)%2:Nat):Int) then ((MS.need len y).1.rd len,0,(find (rset l) len ((2*code+(MS.need len y).1.held / 2^(len - 1)%2:Nat):Int)).toNat) else MS.symL l r (len+1) (2*code+(MS.need len y).1.held / 2^(len - 1)%2) (MS.need len y).1):=HEQ.out.symm;clear HEQ;go_wp2_with fail
   refine (zvo len HK.out.mm HK.out.ok (by omega) (by omega)).mono ?_;rintro v w1 ⟨rfl,g1,g2⟩;by_cases h0:(MS.need len y).2=0
   ·have k1:=MS.need_cnt HK.out.ok h0;have k3:=MS.need_ok (k:=len) HK.out.ok;rw [h0];rw [if_neg (by rw [h0];simp)] at HST;obtain ⟨z,hz⟩:∃ z,z=(MS.need len y).1:=⟨_,rfl⟩
    rw [← hz] at g1 HST k1 k3;have HZ:Hid (Sk ρ w p 127 265 4 (lrow [.int .i64 0, .bool false, .int .i64 0, .int .i64 0]) (fun i=>(v3q i).toList) t l z w1):=HK.out.next g1 k3 g2;clear g1 g2 hz h0 k3;obtain ⟨d,hd⟩:∃ d,d=len - 1:=⟨_,rfl⟩
    have hdi:(len:Int) - 1=(d:Int):=by omega
    have hdl:d<z.count:=by omega
    rw [← hd] at HST;have HD:Hid (d=len - 1):=hd;clear hd;have hb2:z.held / 2^d%2<2:=Nat.mod_lt _ (by decide);have HAT:Hid (Calls Tryz.prog 171 #[.pointer (some ⟨p,14,none⟩), .int .i64 d] w1 fun v w'=>v= .returned (.int .i64 (z.held / 2^d%2:Nat))∧MM ρ w' p z∧Fr (fun k=>1<=k∧k<=5) ρ w1 w'):=mAt d HZ.out.mm HZ.out.ok hdl (by omega);obtain ⟨b,hb⟩:∃ b,b=z.held / 2^d%2:=⟨_,rfl⟩
    rw [← hb] at HST hb2 HAT;clear hb;obtain ⟨c2,hc2⟩:∃ c2,c2=2*code+b:=⟨_,rfl⟩
    have hor:bits .or .i64 ((code:Int)*2) (b:Int)=(c2:Int):=by rw [hc2];exact vh0 code b (by omega) hb2
    have hpw:c2<2^(len+1 - 1):=by rw [hc2];exact v2g hn1 hcd hb2
    have hc2b:c2<=1000000:=by omega
    rw [← hc2] at HST;clear hc2;go_wp2_with fail
    refine HAT.out.mono ?_;rintro v w2 ⟨rfl,g1,g2⟩;have H2:Hid (Sk ρ w p 127 265 4 (lrow [.int .i64 0, .bool false, .int .i64 0, .int .i64 0]) (fun i=>(v3q i).toList) t l z w2):=HZ.out.next g1 HZ.out.ok g2;have TF:=jr4 H2.out.tab c2 len hc2b (by omega) (by omega);have HPW:Hid (c2<2^(len+1 - 1)):=hpw;clear g1 g2 HAT HZ hpw;by_cases hf:0<=find (rset l) len (c2:Int)
    ·rw [if_pos hf] at HST;obtain ⟨i,hi⟩:∃ i,i=(find (rset l) len (c2:Int)).toNat:=⟨_,rfl⟩
     have HF:=TF.1 hf;rw [← hi] at HST HF;obtain ⟨v1,v2,v3,v4,hv⟩:=HelperT.four i;have HV:Hid (v3q i=#[.int .i64 v1, .bool v2, .int .i64 v3, .int .i64 v4]):=hv;rw [hv] at HF;have HFF:Hid (Calls Tryz.prog 172 #[.pointer (some ⟨t,0,none⟩), .int .i64 c2, .int .i64 len] w2 fun x w'=>x= .returned (.tuple #[.agg #[.int .i64 v1, .bool v2, .int .i64 v3, .int .i64 v4], .bool true])∧Below w2.heap.size w2 w'):=HF;clear HF TF hf hi hv;go_wp2_with fail
     refine HFF.out.mono ?_;rintro e w3 ⟨rfl,b3⟩;have H3:Hid (Sk ρ w p 127 265 4 (lrow [.int .i64 0, .bool false, .int .i64 0, .int .i64 0]) (fun i=>(v3q i).toList) t l z w3):=H2.out.below b3;have b4:Below w3.heap.size w3 (w3.alloc (.cells #[.int .i64 v1, .bool v2, .int .i64 v3, .int .i64 v4] 127)):=(Below.refl _ _).alloc (Nat.le_refl _) _;have H4:Hid (Sk ρ w p 127 265 4 (lrow [.int .i64 0, .bool false, .int .i64 0, .int .i64 0]) (fun i=>(v3q i).toList) t l z (w3.alloc (.cells #[.int .i64 v1, .bool v2, .int .i64 v3, .int .i64 v4] 127))):=H3.out.below b4;have q0:(w3.alloc (.cells #[.int .i64 v1, .bool v2, .int .i64 v3, .int .i64 v4] 127)).cell? ⟨w3.heap.size,0,none⟩=some (.int .i64 v1):=by simp
     have q1:(w3.alloc (.cells #[.int .i64 v1, .bool v2, .int .i64 v3, .int .i64 v4] 127)).cell? ⟨w3.heap.size,1,none⟩=some (.bool v2):=by simp
     have q2:(w3.alloc (.cells #[.int .i64 v1, .bool v2, .int .i64 v3, .int .i64 v4] 127)).cell? ⟨w3.heap.size,2,none⟩=some (.int .i64 v3):=by simp
     have q3:(w3.alloc (.cells #[.int .i64 v1, .bool v2, .int .i64 v3, .int .i64 v4] 127)).cell? ⟨w3.heap.size,3,none⟩=some (.int .i64 v4):=by simp
     have hq:w3.heap.size<(w3.alloc (.cells #[.int .i64 v1, .bool v2, .int .i64 v3, .int .i64 v4] 127)).heap.size:=by simp
     have rq:ρ w3.heap.size=0:=H3.out.mm.new _ (Nat.le_refl _);have hgq:w3.heap.size≠w.heap.size:=by have:=H3.out.b4.lt;omega
     clear b3 b4 H2;go_wp2_with fail
     generalize w3.alloc (.cells #[.int .i64 v1, .bool v2, .int .i64 v3, .int .i64 v4] 127)=W3 at *;refine (zw3 len H4.out.mm H4.out.ok k1.1 (by omega)).mono ?_;rintro e w5 ⟨rfl,g1,g2⟩;have s0:=g2.cell q0 hq (by rw [rq];exact no0);have s1:=g2.cell q1 hq (by rw [rq];exact no0);have s2:=g2.cell q2 hq (by rw [rq];exact no0);have s3:=g2.cell q3 hq (by rw [rq];exact no0);have H5:Hid (Sk ρ w p 127 265 4 (lrow [.int .i64 0, .bool false, .int .i64 0, .int .i64 0]) (fun i=>(v3q i).toList) t l (z.rd len) w5):=H4.out.next g1 (H4.out.ok.rd k1.1) g2;have u0:w5.cell? ⟨w.heap.size,0,none⟩=some (.int .i64 0):=H5.out.b4.cell (i:=0) (by omega);have u1:w5.cell? ⟨w.heap.size,1,none⟩=some (.bool false):=H5.out.b4.cell (i:=1) (by omega);have u2:w5.cell? ⟨w.heap.size,2,none⟩=some (.int .i64 0):=H5.out.b4.cell (i:=2) (by omega);have u3:w5.cell? ⟨w.heap.size,3,none⟩=some (.int .i64 0):=H5.out.b4.cell (i:=3) (by omega);have x0:=H5.out.b4.frozen 0;have x1:=H5.out.b4.frozen 1;have x2:=H5.out.b4.frozen 2;have x3:=H5.out.b4.frozen 3;have HFIN:Hid ((((((w5.setCell ⟨w.heap.size,0,none⟩ (.int .i64 v1)).setCell ⟨w.heap.size,1,none⟩ (.bool v2)).setCell ⟨w.heap.size,2,none⟩ (.int .i64 v3)).setCell ⟨w.heap.size,3,none⟩ (.int .i64 v4)).heap[w.heap.size]?=some (.cells #[.int .i64 v1, .bool v2, .int .i64 v3, .int .i64 v4] 127))∧MM ρ ((((w5.setCell ⟨w.heap.size,0,none⟩ (.int .i64 v1)).setCell ⟨w.heap.size,1,none⟩ (.bool v2)).setCell ⟨w.heap.size,2,none⟩ (.int .i64 v3)).setCell ⟨w.heap.size,3,none⟩ (.int .i64 v4)) p (z.rd len)∧Fr (fun k=>1<=k∧k<=5) ρ w ((((w5.setCell ⟨w.heap.size,0,none⟩ (.int .i64 v1)).setCell ⟨w.heap.size,1,none⟩ (.bool v2)).setCell ⟨w.heap.size,2,none⟩ (.int .i64 v3)).setCell ⟨w.heap.size,3,none⟩ (.int .i64 v4))):=by
      refine ⟨zgh (((((H5.out.b4).set 0 (.int .i64 v1)).set 1 (.bool v2)).set 2 (.int .i64 v3)).set 3 (.int .i64 v4)),((((H5.out.mm).setNew w.heap.size 0 (.int .i64 v1) H5.out.r4).setNew w.heap.size 1 (.bool v2) H5.out.r4).setNew w.heap.size 2 (.int .i64 v3) H5.out.r4).setNew w.heap.size 3 (.int .i64 v4) H5.out.r4,((((H5.out.fr).setNew w.heap.size 0 (.int .i64 v1) (Nat.le_refl _)).setNew w.heap.size 1 (.bool v2) (Nat.le_refl _)).setNew w.heap.size 2 (.int .i64 v3) (Nat.le_refl _)).setNew w.heap.size 3 (.int .i64 v4) (Nat.le_refl _)⟩
     clear g1 g2;go_wp2_with fail
     refine bodyPost_ret (v7f Tryz.results140 _ _ _ _ _ _ _ rfl HFIN.out.1 Tryz.underlying127 rfl (yfc _ rfl)) rfl ?_;unfold SymE;rw [HST.out];exact ⟨by rw [← HV.out];rfl,HFIN.out.2⟩
    ·rw [if_neg hf] at HST;have HFF:Hid (Calls Tryz.prog 172 #[.pointer (some ⟨t,0,none⟩), .int .i64 c2, .int .i64 len] w2 fun x w'=>x= .returned (.tuple #[.agg #[.int .i64 0, .bool false, .int .i64 0, .int .i64 0], .bool false])∧Below w2.heap.size w2 w'):=TF.2 hf;clear TF hf;go_wp2_with fail
     refine HFF.out.mono ?_;rintro e w3 ⟨rfl,b3⟩;have H3:Hid (Sk ρ w p 127 265 4 (lrow [.int .i64 0, .bool false, .int .i64 0, .int .i64 0]) (fun i=>(v3q i).toList) t l z w3):=H2.out.below b3;have b4:Below w3.heap.size w3 (w3.alloc (.cells #[.int .i64 0, .bool false, .int .i64 0, .int .i64 0] 127)):=(Below.refl _ _).alloc (Nat.le_refl _) _;have H4:Hid (Sk ρ w p 127 265 4 (lrow [.int .i64 0, .bool false, .int .i64 0, .int .i64 0]) (fun i=>(v3q i).toList) t l z (w3.alloc (.cells #[.int .i64 0, .bool false, .int .i64 0, .int .i64 0] 127))):=H3.out.below b4;clear b3 b4 H2;have HN:Hid (∃ r y,Sw ρ w p 127 265 4 (lrow [.int .i64 0, .bool false, .int .i64 0, .int .i64 0]) (fun i=>(v3q i).toList) t l R c2 (len+1) r y (w3.alloc (.cells #[.int .i64 0, .bool false, .int .i64 0, .int .i64 0] 127))):=⟨r,z,H4.out.mm,H4.out.ok,by omega,HST.out.symm,by omega,by have:=HLGE.out;omega,HPW.out,H4.out.b4,H4.out.b6,H4.out.tab,H4.out.r4,H4.out.r6,H4.out.fr⟩
     go_wp2_with fail
     go_roundw
     case rel=>exact ⟨c2,len+1,rfl,by go_num,HN⟩
     case measure=>simp [intOf];omega
   ·rw [if_pos h0] at HST;obtain ⟨e,he⟩:∃ e,e=(MS.need len y).2:=⟨_,rfl⟩
    have HZ:Hid (Sk ρ w p 127 265 4 (lrow [.int .i64 0, .bool false, .int .i64 0, .int .i64 0]) (fun i=>(v3q i).toList) t l (MS.need len y).1 w1):=HK.out.next g1 (MS.need_ok HK.out.ok) g2;rw [← he] at h0 HST ⊢;have h0':((e:Int)==0)=false:=by simp;exact h0
    clear g1 g2 he;have u0:w1.cell? ⟨w.heap.size,0,none⟩=some (.int .i64 0):=HZ.out.b4.cell (i:=0) (by omega);have u1:w1.cell? ⟨w.heap.size,1,none⟩=some (.bool false):=HZ.out.b4.cell (i:=1) (by omega);have u2:w1.cell? ⟨w.heap.size,2,none⟩=some (.int .i64 0):=HZ.out.b4.cell (i:=2) (by omega);have u3:w1.cell? ⟨w.heap.size,3,none⟩=some (.int .i64 0):=HZ.out.b4.cell (i:=3) (by omega);have x0:=HZ.out.b4.frozen 0;have x1:=HZ.out.b4.frozen 1;have x2:=HZ.out.b4.frozen 2;have x3:=HZ.out.b4.frozen 3;have s0:w1.cell? ⟨w.heap.size+1,0,none⟩=some (.int .i64 0):=HZ.out.b6.cell (i:=0) (by omega);have s1:w1.cell? ⟨w.heap.size+1,1,none⟩=some (.bool false):=HZ.out.b6.cell (i:=1) (by omega);have s2:w1.cell? ⟨w.heap.size+1,2,none⟩=some (.int .i64 0):=HZ.out.b6.cell (i:=2) (by omega);have s3:w1.cell? ⟨w.heap.size+1,3,none⟩=some (.int .i64 0):=HZ.out.b6.cell (i:=3) (by omega);have HFIN:Hid ((((((w1.setCell ⟨w.heap.size,0,none⟩ (.int .i64 0)).setCell ⟨w.heap.size,1,none⟩ (.bool false)).setCell ⟨w.heap.size,2,none⟩ (.int .i64 0)).setCell ⟨w.heap.size,3,none⟩ (.int .i64 0)).heap[w.heap.size]?=some (.cells #[.int .i64 0, .bool false, .int .i64 0, .int .i64 0] 127))∧MM ρ ((((w1.setCell ⟨w.heap.size,0,none⟩ (.int .i64 0)).setCell ⟨w.heap.size,1,none⟩ (.bool false)).setCell ⟨w.heap.size,2,none⟩ (.int .i64 0)).setCell ⟨w.heap.size,3,none⟩ (.int .i64 0)) p (MS.need len y).1∧Fr (fun k=>1<=k∧k<=5) ρ w ((((w1.setCell ⟨w.heap.size,0,none⟩ (.int .i64 0)).setCell ⟨w.heap.size,1,none⟩ (.bool false)).setCell ⟨w.heap.size,2,none⟩ (.int .i64 0)).setCell ⟨w.heap.size,3,none⟩ (.int .i64 0))):=by
     refine ⟨zgh (((((HZ.out.b4).set 0 (.int .i64 0)).set 1 (.bool false)).set 2 (.int .i64 0)).set 3 (.int .i64 0)),((((HZ.out.mm).setNew w.heap.size 0 (.int .i64 0) HZ.out.r4).setNew w.heap.size 1 (.bool false) HZ.out.r4).setNew w.heap.size 2 (.int .i64 0) HZ.out.r4).setNew w.heap.size 3 (.int .i64 0) HZ.out.r4,((((HZ.out.fr).setNew w.heap.size 0 (.int .i64 0) (Nat.le_refl _)).setNew w.heap.size 1 (.bool false) (Nat.le_refl _)).setNew w.heap.size 2 (.int .i64 0) (Nat.le_refl _)).setNew w.heap.size 3 (.int .i64 0) (Nat.le_refl _)⟩
    go_wp2_with fail
    refine bodyPost_ret (v7f Tryz.results140 _ _ _ _ _ _ _ rfl HFIN.out.1 Tryz.underlying127 rfl (yfc _ rfl)) rfl ?_;unfold SymE;rw [HST.out];exact ⟨by rw [if_neg h0];rfl,HFIN.out.2⟩
  ·obtain rfl:r=0:=by omega
   have hlti:¬ (len:Int)<=lg:=by omega
   have HST:Hid (R=((y.refuse 11).1,3,0)):=HEQ.out.symm;clear HEQ;have s0:wr.cell? ⟨w.heap.size+1,0,none⟩=some (.int .i64 0):=HK.out.b6.cell (i:=0) (by omega);have s1:wr.cell? ⟨w.heap.size+1,1,none⟩=some (.bool false):=HK.out.b6.cell (i:=1) (by omega);have s2:wr.cell? ⟨w.heap.size+1,2,none⟩=some (.int .i64 0):=HK.out.b6.cell (i:=2) (by omega);have s3:wr.cell? ⟨w.heap.size+1,3,none⟩=some (.int .i64 0):=HK.out.b6.cell (i:=3) (by omega);go_wp2_with fail
   go_region_held3 (fun wv=>wv.cell? ⟨w.heap.size+1,0,none⟩=some (.int .i64 0)∧wv.cell? ⟨w.heap.size+1,1,none⟩=some (.bool false)∧wv.cell? ⟨w.heap.size+1,2,none⟩=some (.int .i64 0)∧wv.cell? ⟨w.heap.size+1,3,none⟩=some (.int .i64 0)) (first | exact ⟨s0,s1,s2,s3⟩ | exact ⟨a0,a1,a2,a3⟩ | exact ⟨(HelperT.four_set_cell (q:=⟨w.heap.size+1,0,none⟩) (by simp)).trans a0,(HelperT.four_set_cell (q:=⟨w.heap.size+1,1,none⟩) (by simp)).trans a1,(HelperT.four_set_cell (q:=⟨w.heap.size+1,2,none⟩) (by simp)).trans a2,(HelperT.four_set_cell (q:=⟨w.heap.size+1,3,none⟩) (by simp)).trans a3⟩)
    (first | (go_at_call 79;refine (kv8 11 (HK.out.mm.drewN 1)).mono ?_;rintro e w2 ⟨rfl,g1,g2⟩;have H2:Hid (Sk ρ w p 127 265 4 (lrow [.int .i64 0, .bool false, .int .i64 0, .int .i64 0]) (fun i=>(v3q i).toList) t l (y.refuse 11).1 w2):=(HK.out.drewN 1).next g1 (HK.out.ok.refuse 11) g2;have a0:w2.cell? ⟨w.heap.size+1,0,none⟩=some (.int .i64 0):=H2.out.b6.cell (i:=0) (by omega);have u0:w2.cell? ⟨w.heap.size,0,none⟩=some (.int .i64 0):=H2.out.b4.cell (i:=0) (by omega);have x0:=H2.out.b4.frozen 0;have a1:w2.cell? ⟨w.heap.size+1,1,none⟩=some (.bool false):=H2.out.b6.cell (i:=1) (by omega);have u1:w2.cell? ⟨w.heap.size,1,none⟩=some (.bool false):=H2.out.b4.cell (i:=1) (by omega);have x1:=H2.out.b4.frozen 1;have a2:w2.cell? ⟨w.heap.size+1,2,none⟩=some (.int .i64 0):=H2.out.b6.cell (i:=2) (by omega);have u2:w2.cell? ⟨w.heap.size,2,none⟩=some (.int .i64 0):=H2.out.b4.cell (i:=2) (by omega);have x2:=H2.out.b4.frozen 2;have a3:w2.cell? ⟨w.heap.size+1,3,none⟩=some (.int .i64 0):=H2.out.b6.cell (i:=3) (by omega);have u3:w2.cell? ⟨w.heap.size,3,none⟩=some (.int .i64 0):=H2.out.b4.cell (i:=3) (by omega);have x3:=H2.out.b4.frozen 3;clear g1 g2))
   all_goals
    have HFIN:Hid ((((((w2.setCell ⟨w.heap.size,0,none⟩ (.int .i64 0)).setCell ⟨w.heap.size,1,none⟩ (.bool false)).setCell ⟨w.heap.size,2,none⟩ (.int .i64 0)).setCell ⟨w.heap.size,3,none⟩ (.int .i64 0)).heap[w.heap.size]?=some (.cells #[.int .i64 0, .bool false, .int .i64 0, .int .i64 0] 127))∧MM ρ ((((w2.setCell ⟨w.heap.size,0,none⟩ (.int .i64 0)).setCell ⟨w.heap.size,1,none⟩ (.bool false)).setCell ⟨w.heap.size,2,none⟩ (.int .i64 0)).setCell ⟨w.heap.size,3,none⟩ (.int .i64 0)) p (y.refuse 11).1∧Fr (fun k=>1<=k∧k<=5) ρ w ((((w2.setCell ⟨w.heap.size,0,none⟩ (.int .i64 0)).setCell ⟨w.heap.size,1,none⟩ (.bool false)).setCell ⟨w.heap.size,2,none⟩ (.int .i64 0)).setCell ⟨w.heap.size,3,none⟩ (.int .i64 0))):=by
     refine ⟨zgh (((((H2.out.b4).set 0 (.int .i64 0)).set 1 (.bool false)).set 2 (.int .i64 0)).set 3 (.int .i64 0)),((((H2.out.mm).setNew w.heap.size 0 (.int .i64 0) H2.out.r4).setNew w.heap.size 1 (.bool false) H2.out.r4).setNew w.heap.size 2 (.int .i64 0) H2.out.r4).setNew w.heap.size 3 (.int .i64 0) H2.out.r4,((((H2.out.fr).setNew w.heap.size 0 (.int .i64 0) (Nat.le_refl _)).setNew w.heap.size 1 (.bool false) (Nat.le_refl _)).setNew w.heap.size 2 (.int .i64 0) (Nat.le_refl _)).setNew w.heap.size 3 (.int .i64 0) (Nat.le_refl _)⟩
    go_wp2_with fail
    refine bodyPost_ret (v7f Tryz.results140 _ _ _ _ _ _ _ rfl HFIN.out.1 Tryz.underlying127 rfl (yfc _ rfl)) rfl ?_;unfold SymE;rw [HST.out];exact ⟨rfl,HFIN.out.2⟩
end Go.Proofs.YtbcjmakpempkiaaGreatDoor
