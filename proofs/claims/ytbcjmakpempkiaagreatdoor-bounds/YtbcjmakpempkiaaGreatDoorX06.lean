import Derived.Test.YtbcjmakpempkiaaGreatDoorX05
set_option maxRecDepth 100000
set_option maxHeartbeats 8000000
set_option linter.all false
namespace Go.Proofs.YtbcjmakpempkiaaGreatDoor
open Go.RowKit
theorem z4b{ρ:Nat->Nat}{w:World}{p t:Nat}{x:MS}{l:List Int}(h:MM ρ w p x)(ok:Ok x)(hx:x.count<=40)(ht:TabS ρ w 268 4 (fun i=>(litC i).toList) t l) :
  Calls Tryz.prog 147 #[.pointer (some ⟨p,0,none⟩), .pointer (some ⟨t,0,none⟩)] w fun v w'=>SymE ρ w p (litC) #[.int .i64 0, .int .u8 0, .int .i64 0, .int .i64 0] (x.sym l) v w':=by
 obtain ⟨R,hR⟩:∃ R,R=x.sym l:=⟨_,rfl⟩
 have hlg:=j6p l;have b0:Below w.heap.size w ((w.alloc (.cells #[.int .i64 0, .int .u8 0, .int .i64 0, .int .i64 0] 218)).alloc (.cells #[.int .i64 0, .int .u8 0, .int .i64 0, .int .i64 0] 218)):=((Below.refl _ _).alloc (Nat.le_refl _) _).alloc (by simp) _;have H0:Hid (∃ r,Sw ρ w p 218 268 4 (lrow [.int .i64 0, .int .u8 0, .int .i64 0, .int .i64 0]) (fun i=>(litC i).toList) t l R 0 1 r x ((w.alloc (.cells #[.int .i64 0, .int .u8 0, .int .i64 0, .int .i64 0] 218)).alloc (.cells #[.int .i64 0, .int .u8 0, .int .i64 0, .int .i64 0] 218))):=by
  refine ⟨lgTo l 12,h.below b0,ok,hx,hR.symm,Nat.le_refl _,by omega,by decide,?_,?_,ht.fr (R:=fun _=>False) (Kp.of_below b0) (fun e=>e),h.new _ (Nat.le_refl _),h.new _ (by omega),Fr.below b0⟩
  ·exact (World.rowIs_alloc w #[.int .i64 0, .int .u8 0, .int .i64 0, .int .i64 0] 218 (lrow [.int .i64 0, .int .u8 0, .int .i64 0, .int .i64 0]) (fun i hi=>by
    have:i=0∨i=1∨i=2∨i=3:=by have:i<4:=hi;omega
    rcases this with rfl | rfl | rfl | rfl <;> rfl)).alloc _
  ·have:=World.rowIs_alloc (w.alloc (.cells #[.int .i64 0, .int .u8 0, .int .i64 0, .int .i64 0] 218)) #[.int .i64 0, .int .u8 0, .int .i64 0, .int .i64 0] 218 (lrow [.int .i64 0, .int .u8 0, .int .i64 0, .int .i64 0]) (fun i hi=>by
    have:i=0∨i=1∨i=2∨i=3:=by have:i<4:=hi;omega
    rcases this with rfl | rfl | rfl | rfl <;> rfl)
   simpa using this
 rw [← hR];clear h ok hx ht hR b0;go_enter Tryz.func147,Tryz.ntmps147
 go_wp2_with fail
 go_loopw [7,8] (fun c n wr=>∃ (code len:Nat),c= .int .i64 code∧n= .int .i64 len∧Hid (∃ r y,Sw ρ w p 218 268 4 (lrow [.int .i64 0, .int .u8 0, .int .i64 0, .int .i64 0]) (fun i=>(litC i).toList) t l R code len r y wr)) (fun _ n _=>13 - (intOf n).toNat)
 case atStart=>exact ⟨0,1,rfl,rfl,by obtain ⟨r,h⟩:=H0.out;exact ⟨r,x,h⟩⟩
 case round=>
  clear H0;obtain ⟨code,len,rfl,rfl,HH⟩:=hrel;obtain ⟨r,y,Y⟩:=HH.out;have hn1:=Y.n1;have hnr:=Y.nr;have hcd:=Y.code;have hcnt:=Y.cnt;have HK:Hid (Sk ρ w p 218 268 4 (lrow [.int .i64 0, .int .u8 0, .int .i64 0, .int .i64 0]) (fun i=>(litC i).toList) t l y wr):=Y.sk;have HEQ:Hid (MS.symL l r len code y=R):=Y.eq;have HLG:Hid (Calls Tryz.prog 174 #[.pointer (some ⟨t,0,none⟩)] wr fun x w'=>x= .returned (.int .i64 (lgTo l 12))∧wr=w'):=by
   obtain ⟨m,N,mg,I,_,_,_⟩:=Y.tab.tab;exact vs7 I
  clear Y HH;obtain ⟨lg,hlgE⟩:∃ lg,lg=lgTo l 12:=⟨_,rfl⟩
  rw [← hlgE] at HLG hnr hlg;have HLGE:Hid (lg=lgTo l 12):=hlgE;clear hlgE;go_wp2_with fail
  refine HLG.out.mono ?_;rintro e w' ⟨rfl,rfl⟩;by_cases hlt:len<=lg
  ·obtain ⟨r,rfl⟩:∃ q,r=q+1:=⟨r - 1,by omega⟩
   have hlti:(len:Int)<=lg:=by omega
   have hcode:code<2048:=by
    have:2^(len - 1)<=2^11:=Nat.pow_le_pow_right (by decide) (by omega);have e:2^11=2048:=by decide
    omega
   have HST:Hid (R=if (MS.need len y).2≠0 then ((MS.need len y).1,(MS.need len y).2,0) else if 0<=find (rset l) len ((2*code+(MS.need len y).1.held / 2^(len - 1)%2:Nat):Int) then ((MS.need len y).1.rd len,0,(find (rset l) len ((2*code+(MS.need len y).1.held / 2^(len - 1)%2:Nat):Int)).toNat) else MS.symL l r (len+1) (2*code+(MS.need len y).1.held / 2^(len - 1)%2) (MS.need len y).1):=HEQ.out.symm;clear HEQ;go_wp2_with fail
   refine (zvo len HK.out.mm HK.out.ok (by omega) (by omega)).mono ?_;rintro v w1 ⟨rfl,g1,g2⟩;by_cases h0:(MS.need len y).2=0
   ·have k1:=MS.need_cnt HK.out.ok h0;have k3:=MS.need_ok (k:=len) HK.out.ok;rw [h0];rw [if_neg (by rw [h0];simp)] at HST;obtain ⟨z,hz⟩:∃ z,z=(MS.need len y).1:=⟨_,rfl⟩
    rw [← hz] at g1 HST k1 k3;have HZ:Hid (Sk ρ w p 218 268 4 (lrow [.int .i64 0, .int .u8 0, .int .i64 0, .int .i64 0]) (fun i=>(litC i).toList) t l z w1):=HK.out.next g1 k3 g2;clear g1 g2 hz h0 k3;obtain ⟨d,hd⟩:∃ d,d=len - 1:=⟨_,rfl⟩
    have hdi:(len:Int) - 1=(d:Int):=by omega
    have hdl:d<z.count:=by omega
    rw [← hd] at HST;have HD:Hid (d=len - 1):=hd;clear hd;have hb2:z.held / 2^d%2<2:=Nat.mod_lt _ (by decide);have HAT:Hid (Calls Tryz.prog 171 #[.pointer (some ⟨p,14,none⟩), .int .i64 d] w1 fun v w'=>v= .returned (.int .i64 (z.held / 2^d%2:Nat))∧MM ρ w' p z∧Fr (fun k=>1<=k∧k<=5) ρ w1 w'):=mAt d HZ.out.mm HZ.out.ok hdl (by omega);obtain ⟨b,hb⟩:∃ b,b=z.held / 2^d%2:=⟨_,rfl⟩
    rw [← hb] at HST hb2 HAT;clear hb;obtain ⟨c2,hc2⟩:∃ c2,c2=2*code+b:=⟨_,rfl⟩
    have hor:bits .or .i64 ((code:Int)*2) (b:Int)=(c2:Int):=by rw [hc2];exact vh0 code b (by omega) hb2
    have hpw:c2<2^(len+1 - 1):=by rw [hc2];exact v2g hn1 hcd hb2
    have hc2b:c2<=1000000:=by omega
    rw [← hc2] at HST;clear hc2;go_wp2_with fail
    refine HAT.out.mono ?_;rintro v w2 ⟨rfl,g1,g2⟩;have H2:Hid (Sk ρ w p 218 268 4 (lrow [.int .i64 0, .int .u8 0, .int .i64 0, .int .i64 0]) (fun i=>(litC i).toList) t l z w2):=HZ.out.next g1 HZ.out.ok g2;have TF:=zxb H2.out.tab c2 len hc2b (by omega) (by omega);have HPW:Hid (c2<2^(len+1 - 1)):=hpw;clear g1 g2 HAT HZ hpw;by_cases hf:0<=find (rset l) len (c2:Int)
    ·rw [if_pos hf] at HST;obtain ⟨i,hi⟩:∃ i,i=(find (rset l) len (c2:Int)).toNat:=⟨_,rfl⟩
     have HF:=TF.1 hf;rw [← hi] at HST HF;obtain ⟨v1,v2,v3,v4,hv⟩:=LiteralT.four i;have HV:Hid (litC i=#[.int .i64 v1, .int .u8 v2, .int .i64 v3, .int .i64 v4]):=hv;rw [hv] at HF;have HFF:Hid (Calls Tryz.prog 175 #[.pointer (some ⟨t,0,none⟩), .int .i64 c2, .int .i64 len] w2 fun x w'=>x= .returned (.tuple #[.agg #[.int .i64 v1, .int .u8 v2, .int .i64 v3, .int .i64 v4], .bool true])∧Below w2.heap.size w2 w'):=HF;clear HF TF hf hi hv;go_wp2_with fail
     refine HFF.out.mono ?_;rintro e w3 ⟨rfl,b3⟩;have H3:Hid (Sk ρ w p 218 268 4 (lrow [.int .i64 0, .int .u8 0, .int .i64 0, .int .i64 0]) (fun i=>(litC i).toList) t l z w3):=H2.out.below b3;have b4:Below w3.heap.size w3 (w3.alloc (.cells #[.int .i64 v1, .int .u8 v2, .int .i64 v3, .int .i64 v4] 218)):=(Below.refl _ _).alloc (Nat.le_refl _) _;have H4:Hid (Sk ρ w p 218 268 4 (lrow [.int .i64 0, .int .u8 0, .int .i64 0, .int .i64 0]) (fun i=>(litC i).toList) t l z (w3.alloc (.cells #[.int .i64 v1, .int .u8 v2, .int .i64 v3, .int .i64 v4] 218))):=H3.out.below b4;have q0:(w3.alloc (.cells #[.int .i64 v1, .int .u8 v2, .int .i64 v3, .int .i64 v4] 218)).cell? ⟨w3.heap.size,0,none⟩=some (.int .i64 v1):=by simp
     have q1:(w3.alloc (.cells #[.int .i64 v1, .int .u8 v2, .int .i64 v3, .int .i64 v4] 218)).cell? ⟨w3.heap.size,1,none⟩=some (.int .u8 v2):=by simp
     have q2:(w3.alloc (.cells #[.int .i64 v1, .int .u8 v2, .int .i64 v3, .int .i64 v4] 218)).cell? ⟨w3.heap.size,2,none⟩=some (.int .i64 v3):=by simp
     have q3:(w3.alloc (.cells #[.int .i64 v1, .int .u8 v2, .int .i64 v3, .int .i64 v4] 218)).cell? ⟨w3.heap.size,3,none⟩=some (.int .i64 v4):=by simp
     have hq:w3.heap.size<(w3.alloc (.cells #[.int .i64 v1, .int .u8 v2, .int .i64 v3, .int .i64 v4] 218)).heap.size:=by simp
     have rq:ρ w3.heap.size=0:=H3.out.mm.new _ (Nat.le_refl _);have hgq:w3.heap.size≠w.heap.size:=by have:=H3.out.b4.lt;omega
     clear b3 b4 H2;go_wp2_with fail
     generalize w3.alloc (.cells #[.int .i64 v1, .int .u8 v2, .int .i64 v3, .int .i64 v4] 218)=W3 at *;refine (zw3 len H4.out.mm H4.out.ok k1.1 (by omega)).mono ?_;rintro e w5 ⟨rfl,g1,g2⟩;have s0:=g2.cell q0 hq (by rw [rq];exact no0);have s1:=g2.cell q1 hq (by rw [rq];exact no0);have s2:=g2.cell q2 hq (by rw [rq];exact no0);have s3:=g2.cell q3 hq (by rw [rq];exact no0);have H5:Hid (Sk ρ w p 218 268 4 (lrow [.int .i64 0, .int .u8 0, .int .i64 0, .int .i64 0]) (fun i=>(litC i).toList) t l (z.rd len) w5):=H4.out.next g1 (H4.out.ok.rd k1.1) g2;have u0:w5.cell? ⟨w.heap.size,0,none⟩=some (.int .i64 0):=H5.out.b4.cell (i:=0) (by omega);have u1:w5.cell? ⟨w.heap.size,1,none⟩=some (.int .u8 0):=H5.out.b4.cell (i:=1) (by omega);have u2:w5.cell? ⟨w.heap.size,2,none⟩=some (.int .i64 0):=H5.out.b4.cell (i:=2) (by omega);have u3:w5.cell? ⟨w.heap.size,3,none⟩=some (.int .i64 0):=H5.out.b4.cell (i:=3) (by omega);have x0:=H5.out.b4.frozen 0;have x1:=H5.out.b4.frozen 1;have x2:=H5.out.b4.frozen 2;have x3:=H5.out.b4.frozen 3;have HFIN:Hid ((((((w5.setCell ⟨w.heap.size,0,none⟩ (.int .i64 v1)).setCell ⟨w.heap.size,1,none⟩ (.int .u8 v2)).setCell ⟨w.heap.size,2,none⟩ (.int .i64 v3)).setCell ⟨w.heap.size,3,none⟩ (.int .i64 v4)).heap[w.heap.size]?=some (.cells #[.int .i64 v1, .int .u8 v2, .int .i64 v3, .int .i64 v4] 218))∧MM ρ ((((w5.setCell ⟨w.heap.size,0,none⟩ (.int .i64 v1)).setCell ⟨w.heap.size,1,none⟩ (.int .u8 v2)).setCell ⟨w.heap.size,2,none⟩ (.int .i64 v3)).setCell ⟨w.heap.size,3,none⟩ (.int .i64 v4)) p (z.rd len)∧Fr (fun k=>1<=k∧k<=5) ρ w ((((w5.setCell ⟨w.heap.size,0,none⟩ (.int .i64 v1)).setCell ⟨w.heap.size,1,none⟩ (.int .u8 v2)).setCell ⟨w.heap.size,2,none⟩ (.int .i64 v3)).setCell ⟨w.heap.size,3,none⟩ (.int .i64 v4))):=by
      refine ⟨zgh (((((H5.out.b4).set 0 (.int .i64 v1)).set 1 (.int .u8 v2)).set 2 (.int .i64 v3)).set 3 (.int .i64 v4)),((((H5.out.mm).setNew w.heap.size 0 (.int .i64 v1) H5.out.r4).setNew w.heap.size 1 (.int .u8 v2) H5.out.r4).setNew w.heap.size 2 (.int .i64 v3) H5.out.r4).setNew w.heap.size 3 (.int .i64 v4) H5.out.r4,((((H5.out.fr).setNew w.heap.size 0 (.int .i64 v1) (Nat.le_refl _)).setNew w.heap.size 1 (.int .u8 v2) (Nat.le_refl _)).setNew w.heap.size 2 (.int .i64 v3) (Nat.le_refl _)).setNew w.heap.size 3 (.int .i64 v4) (Nat.le_refl _)⟩
     clear g1 g2;go_wp2_with fail
     refine bodyPost_ret (v7f Tryz.results147 _ _ _ _ _ _ _ rfl HFIN.out.1 Tryz.underlying218 rfl (z2s _ rfl)) rfl ?_;unfold SymE;rw [HST.out];exact ⟨by rw [← HV.out];rfl,HFIN.out.2⟩
    ·rw [if_neg hf] at HST;have HFF:Hid (Calls Tryz.prog 175 #[.pointer (some ⟨t,0,none⟩), .int .i64 c2, .int .i64 len] w2 fun x w'=>x= .returned (.tuple #[.agg #[.int .i64 0, .int .u8 0, .int .i64 0, .int .i64 0], .bool false])∧Below w2.heap.size w2 w'):=TF.2 hf;clear TF hf;go_wp2_with fail
     refine HFF.out.mono ?_;rintro e w3 ⟨rfl,b3⟩;have H3:Hid (Sk ρ w p 218 268 4 (lrow [.int .i64 0, .int .u8 0, .int .i64 0, .int .i64 0]) (fun i=>(litC i).toList) t l z w3):=H2.out.below b3;have b4:Below w3.heap.size w3 (w3.alloc (.cells #[.int .i64 0, .int .u8 0, .int .i64 0, .int .i64 0] 218)):=(Below.refl _ _).alloc (Nat.le_refl _) _;have H4:Hid (Sk ρ w p 218 268 4 (lrow [.int .i64 0, .int .u8 0, .int .i64 0, .int .i64 0]) (fun i=>(litC i).toList) t l z (w3.alloc (.cells #[.int .i64 0, .int .u8 0, .int .i64 0, .int .i64 0] 218))):=H3.out.below b4;clear b3 b4 H2;have HN:Hid (∃ r y,Sw ρ w p 218 268 4 (lrow [.int .i64 0, .int .u8 0, .int .i64 0, .int .i64 0]) (fun i=>(litC i).toList) t l R c2 (len+1) r y (w3.alloc (.cells #[.int .i64 0, .int .u8 0, .int .i64 0, .int .i64 0] 218))):=⟨r,z,H4.out.mm,H4.out.ok,by omega,HST.out.symm,by omega,by have:=HLGE.out;omega,HPW.out,H4.out.b4,H4.out.b6,H4.out.tab,H4.out.r4,H4.out.r6,H4.out.fr⟩
     go_wp2_with fail
     go_roundw
     case rel=>exact ⟨c2,len+1,rfl,by go_num,HN⟩
     case measure=>simp [intOf];omega
   ·rw [if_pos h0] at HST;obtain ⟨e,he⟩:∃ e,e=(MS.need len y).2:=⟨_,rfl⟩
    have HZ:Hid (Sk ρ w p 218 268 4 (lrow [.int .i64 0, .int .u8 0, .int .i64 0, .int .i64 0]) (fun i=>(litC i).toList) t l (MS.need len y).1 w1):=HK.out.next g1 (MS.need_ok HK.out.ok) g2;rw [← he] at h0 HST ⊢;have h0':((e:Int)==0)=false:=by simp;exact h0
    clear g1 g2 he;have u0:w1.cell? ⟨w.heap.size,0,none⟩=some (.int .i64 0):=HZ.out.b4.cell (i:=0) (by omega);have u1:w1.cell? ⟨w.heap.size,1,none⟩=some (.int .u8 0):=HZ.out.b4.cell (i:=1) (by omega);have u2:w1.cell? ⟨w.heap.size,2,none⟩=some (.int .i64 0):=HZ.out.b4.cell (i:=2) (by omega);have u3:w1.cell? ⟨w.heap.size,3,none⟩=some (.int .i64 0):=HZ.out.b4.cell (i:=3) (by omega);have x0:=HZ.out.b4.frozen 0;have x1:=HZ.out.b4.frozen 1;have x2:=HZ.out.b4.frozen 2;have x3:=HZ.out.b4.frozen 3;have s0:w1.cell? ⟨w.heap.size+1,0,none⟩=some (.int .i64 0):=HZ.out.b6.cell (i:=0) (by omega);have s1:w1.cell? ⟨w.heap.size+1,1,none⟩=some (.int .u8 0):=HZ.out.b6.cell (i:=1) (by omega);have s2:w1.cell? ⟨w.heap.size+1,2,none⟩=some (.int .i64 0):=HZ.out.b6.cell (i:=2) (by omega);have s3:w1.cell? ⟨w.heap.size+1,3,none⟩=some (.int .i64 0):=HZ.out.b6.cell (i:=3) (by omega);have HFIN:Hid ((((((w1.setCell ⟨w.heap.size,0,none⟩ (.int .i64 0)).setCell ⟨w.heap.size,1,none⟩ (.int .u8 0)).setCell ⟨w.heap.size,2,none⟩ (.int .i64 0)).setCell ⟨w.heap.size,3,none⟩ (.int .i64 0)).heap[w.heap.size]?=some (.cells #[.int .i64 0, .int .u8 0, .int .i64 0, .int .i64 0] 218))∧MM ρ ((((w1.setCell ⟨w.heap.size,0,none⟩ (.int .i64 0)).setCell ⟨w.heap.size,1,none⟩ (.int .u8 0)).setCell ⟨w.heap.size,2,none⟩ (.int .i64 0)).setCell ⟨w.heap.size,3,none⟩ (.int .i64 0)) p (MS.need len y).1∧Fr (fun k=>1<=k∧k<=5) ρ w ((((w1.setCell ⟨w.heap.size,0,none⟩ (.int .i64 0)).setCell ⟨w.heap.size,1,none⟩ (.int .u8 0)).setCell ⟨w.heap.size,2,none⟩ (.int .i64 0)).setCell ⟨w.heap.size,3,none⟩ (.int .i64 0))):=by
     refine ⟨zgh (((((HZ.out.b4).set 0 (.int .i64 0)).set 1 (.int .u8 0)).set 2 (.int .i64 0)).set 3 (.int .i64 0)),((((HZ.out.mm).setNew w.heap.size 0 (.int .i64 0) HZ.out.r4).setNew w.heap.size 1 (.int .u8 0) HZ.out.r4).setNew w.heap.size 2 (.int .i64 0) HZ.out.r4).setNew w.heap.size 3 (.int .i64 0) HZ.out.r4,((((HZ.out.fr).setNew w.heap.size 0 (.int .i64 0) (Nat.le_refl _)).setNew w.heap.size 1 (.int .u8 0) (Nat.le_refl _)).setNew w.heap.size 2 (.int .i64 0) (Nat.le_refl _)).setNew w.heap.size 3 (.int .i64 0) (Nat.le_refl _)⟩
    go_wp2_with fail
    refine bodyPost_ret (v7f Tryz.results147 _ _ _ _ _ _ _ rfl HFIN.out.1 Tryz.underlying218 rfl (z2s _ rfl)) rfl ?_;unfold SymE;rw [HST.out];exact ⟨by rw [if_neg h0];rfl,HFIN.out.2⟩
  ·obtain rfl:r=0:=by omega
   have hlti:¬ (len:Int)<=lg:=by omega
   have HST:Hid (R=((y.refuse 11).1,3,0)):=HEQ.out.symm;clear HEQ;have s0:wr.cell? ⟨w.heap.size+1,0,none⟩=some (.int .i64 0):=HK.out.b6.cell (i:=0) (by omega);have s1:wr.cell? ⟨w.heap.size+1,1,none⟩=some (.int .u8 0):=HK.out.b6.cell (i:=1) (by omega);have s2:wr.cell? ⟨w.heap.size+1,2,none⟩=some (.int .i64 0):=HK.out.b6.cell (i:=2) (by omega);have s3:wr.cell? ⟨w.heap.size+1,3,none⟩=some (.int .i64 0):=HK.out.b6.cell (i:=3) (by omega);go_wp2_with fail
   go_region_held3 (fun wv=>wv.cell? ⟨w.heap.size+1,0,none⟩=some (.int .i64 0)∧wv.cell? ⟨w.heap.size+1,1,none⟩=some (.int .u8 0)∧wv.cell? ⟨w.heap.size+1,2,none⟩=some (.int .i64 0)∧wv.cell? ⟨w.heap.size+1,3,none⟩=some (.int .i64 0)) (first | exact ⟨s0,s1,s2,s3⟩ | exact ⟨a0,a1,a2,a3⟩ | exact ⟨(LiteralT.four_set_cell (q:=⟨w.heap.size+1,0,none⟩) (by simp)).trans a0,(LiteralT.four_set_cell (q:=⟨w.heap.size+1,1,none⟩) (by simp)).trans a1,(LiteralT.four_set_cell (q:=⟨w.heap.size+1,2,none⟩) (by simp)).trans a2,(LiteralT.four_set_cell (q:=⟨w.heap.size+1,3,none⟩) (by simp)).trans a3⟩)
    (first | (go_at_call 79;refine (kv8 11 (HK.out.mm.drewN 1)).mono ?_;rintro e w2 ⟨rfl,g1,g2⟩;have H2:Hid (Sk ρ w p 218 268 4 (lrow [.int .i64 0, .int .u8 0, .int .i64 0, .int .i64 0]) (fun i=>(litC i).toList) t l (y.refuse 11).1 w2):=(HK.out.drewN 1).next g1 (HK.out.ok.refuse 11) g2;have a0:w2.cell? ⟨w.heap.size+1,0,none⟩=some (.int .i64 0):=H2.out.b6.cell (i:=0) (by omega);have u0:w2.cell? ⟨w.heap.size,0,none⟩=some (.int .i64 0):=H2.out.b4.cell (i:=0) (by omega);have x0:=H2.out.b4.frozen 0;have a1:w2.cell? ⟨w.heap.size+1,1,none⟩=some (.int .u8 0):=H2.out.b6.cell (i:=1) (by omega);have u1:w2.cell? ⟨w.heap.size,1,none⟩=some (.int .u8 0):=H2.out.b4.cell (i:=1) (by omega);have x1:=H2.out.b4.frozen 1;have a2:w2.cell? ⟨w.heap.size+1,2,none⟩=some (.int .i64 0):=H2.out.b6.cell (i:=2) (by omega);have u2:w2.cell? ⟨w.heap.size,2,none⟩=some (.int .i64 0):=H2.out.b4.cell (i:=2) (by omega);have x2:=H2.out.b4.frozen 2;have a3:w2.cell? ⟨w.heap.size+1,3,none⟩=some (.int .i64 0):=H2.out.b6.cell (i:=3) (by omega);have u3:w2.cell? ⟨w.heap.size,3,none⟩=some (.int .i64 0):=H2.out.b4.cell (i:=3) (by omega);have x3:=H2.out.b4.frozen 3;clear g1 g2))
   all_goals
    have HFIN:Hid ((((((w2.setCell ⟨w.heap.size,0,none⟩ (.int .i64 0)).setCell ⟨w.heap.size,1,none⟩ (.int .u8 0)).setCell ⟨w.heap.size,2,none⟩ (.int .i64 0)).setCell ⟨w.heap.size,3,none⟩ (.int .i64 0)).heap[w.heap.size]?=some (.cells #[.int .i64 0, .int .u8 0, .int .i64 0, .int .i64 0] 218))∧MM ρ ((((w2.setCell ⟨w.heap.size,0,none⟩ (.int .i64 0)).setCell ⟨w.heap.size,1,none⟩ (.int .u8 0)).setCell ⟨w.heap.size,2,none⟩ (.int .i64 0)).setCell ⟨w.heap.size,3,none⟩ (.int .i64 0)) p (y.refuse 11).1∧Fr (fun k=>1<=k∧k<=5) ρ w ((((w2.setCell ⟨w.heap.size,0,none⟩ (.int .i64 0)).setCell ⟨w.heap.size,1,none⟩ (.int .u8 0)).setCell ⟨w.heap.size,2,none⟩ (.int .i64 0)).setCell ⟨w.heap.size,3,none⟩ (.int .i64 0))):=by
     refine ⟨zgh (((((H2.out.b4).set 0 (.int .i64 0)).set 1 (.int .u8 0)).set 2 (.int .i64 0)).set 3 (.int .i64 0)),((((H2.out.mm).setNew w.heap.size 0 (.int .i64 0) H2.out.r4).setNew w.heap.size 1 (.int .u8 0) H2.out.r4).setNew w.heap.size 2 (.int .i64 0) H2.out.r4).setNew w.heap.size 3 (.int .i64 0) H2.out.r4,((((H2.out.fr).setNew w.heap.size 0 (.int .i64 0) (Nat.le_refl _)).setNew w.heap.size 1 (.int .u8 0) (Nat.le_refl _)).setNew w.heap.size 2 (.int .i64 0) (Nat.le_refl _)).setNew w.heap.size 3 (.int .i64 0) (Nat.le_refl _)⟩
    go_wp2_with fail
    refine bodyPost_ret (v7f Tryz.results147 _ _ _ _ _ _ _ rfl HFIN.out.1 Tryz.underlying218 rfl (z2s _ rfl)) rfl ?_;unfold SymE;rw [HST.out];exact ⟨rfl,HFIN.out.2⟩
theorem MS.symL_facts(l:List Int)(hr:inRange l=true):∀ (r n code:Nat) {x:MS},Ok x->x.count<=40->n+r<=12->1<=n->Ok (MS.symL l r n code x).1∧((MS.symL l r n code x).2.1=0->(MS.symL l r n code x).2.2<l.length∧(MS.symL l r n code x).1.count<=40∧(MS.symL l r n code x).1={ x with held:=(MS.symL l r n code x).1.held,count:=(MS.symL l r n code x).1.count,tk:=(MS.symL l r n code x).1.tk,rest:=(MS.symL l r n code x).1.rest })
 | 0,n,code,x,ok,hc,hn,h1=>⟨ok.refuse 11,fun h=>by cases h⟩
 | r+1,n,code,x,ok,hc,hn,h1=>by
  have k3:=MS.need_ok (k:=n) ok;have e:MS.symL l (r+1) n code x=if (MS.need n x).2≠0 then ((MS.need n x).1,(MS.need n x).2,0) else if 0<=find (rset l) n ((2*code+(MS.need n x).1.held / 2^(n - 1)%2:Nat):Int) then ((MS.need n x).1.rd n,0,(find (rset l) n ((2*code+(MS.need n x).1.held / 2^(n - 1)%2:Nat):Int)).toNat) else MS.symL l r (n+1) (2*code+(MS.need n x).1.held / 2^(n - 1)%2) (MS.need n x).1:=rfl;rw [e];by_cases h0:(MS.need n x).2=0
  ·have k1:=MS.need_cnt ok h0;have k2:=MS.need_same ok h0;rw [if_neg (by rw [h0];simp)];by_cases hf:0<=find (rset l) n ((2*code+(MS.need n x).1.held / 2^(n - 1)%2:Nat):Int)
   ·rw [if_pos hf];refine ⟨k3.rd k1.1,fun _=>⟨?_,?_,?_⟩⟩
    ·obtain ⟨i,hi,_,_,h4⟩:∃ i,∃ hi:i<l.length,True∧True∧find (rset l) n ((2*code+(MS.need n x).1.held / 2^(n - 1)%2:Nat):Int)=i:=by
      apply Classical.byContradiction;intro hcon;have hm:¬ (fc (cn l) n<=((2*code+(MS.need n x).1.held / 2^(n - 1)%2:Nat):Int)∧((2*code+(MS.need n x).1.held / 2^(n - 1)%2:Nat):Int)<fc (cn l) n+cn l n):=fun hh=>by
       obtain ⟨i,hi,_,_,h4⟩:=k5a (S:=rset l) hr (by omega:0<n) hh.1 hh.2;exact hcon ⟨i,hi,trivial,trivial,h4⟩
      have:=zr0 (S:=rset l) hr (by omega:0<n) (c:=((2*code+(MS.need n x).1.held / 2^(n - 1)%2:Nat):Int)) (by show _<fc (cn l) n∨fc (cn l) n+cn l n<=_;omega);omega
     show (find (rset l) n ((2*code+(MS.need n x).1.held / 2^(n - 1)%2:Nat):Int)).toNat<l.length;rw [h4];simpa using hi
    ·show (MS.need n x).1.count - n<=40;omega
    ·show (MS.need n x).1.rd n={ x with held:=_,count:=_,tk:=_,rest:=_ };generalize MS.need n x=r at *;rw [k2];rfl
   ·rw [if_neg hf];obtain ⟨a,b⟩:=MS.symL_facts l hr r (n+1) (2*code+(MS.need n x).1.held / 2^(n - 1)%2) k3 (by omega) (by omega) (by omega);refine ⟨a,fun h=>?_⟩;obtain ⟨b1,b2,b3⟩:=b h;refine ⟨b1,b2,?_⟩;rw [b3];show _={ x with held:=_,count:=_,tk:=_,rest:=_ };generalize (MS.symL l r (n+1) (2*code+(MS.need n x).1.held / 2^(n - 1)%2) (MS.need n x).1)=R at *;generalize MS.need n x=r at *;rw [k2]
  ·rw [if_pos h0];exact ⟨k3,fun h=>absurd h h0⟩
theorem MS.sym_facts{l:List Int}(hr:inRange l=true){x:MS}(ok:Ok x)(hc:x.count<=40):Ok (x.sym l).1∧((x.sym l).2.1=0->(x.sym l).2.2<l.length∧(x.sym l).1.count<=40∧(x.sym l).1={ x with held:=(x.sym l).1.held,count:=(x.sym l).1.count,tk:=(x.sym l).1.tk,rest:=(x.sym l).1.rest }):=
 MS.symL_facts l hr _ _ _ ok hc (by have:=j6p l;omega) (by omega)
def MS.goLit(y:MS)(k:Nat):MS×Nat:=if k<256 then ({ y with lit:=k,st:=16 },0) else y.endBlock
theorem MM.cellI{ρ:Nat->Nat}{w:World}{p:Nat}{x:MS}(h:MM ρ w p x):w.cell? ⟨p,38,none⟩=some (.int .u8 x.lit)∧w.frozen? ⟨p,38,none⟩=false∧w.cell? ⟨p,39,none⟩=some (.int .i64 x.least)∧w.frozen? ⟨p,39,none⟩=false∧w.cell? ⟨p,40,none⟩=some (.int .i64 x.bits)∧w.frozen? ⟨p,40,none⟩=false∧w.cell? ⟨p,41,none⟩=some (.int .i64 x.dist)∧w.frozen? ⟨p,41,none⟩=false:=by
 obtain ⟨L,B,T⟩:=h;exact ⟨B.row.cell (i:=38) (by omega),B.row.frozen 38,B.row.cell (i:=39) (by omega),B.row.frozen 39,B.row.cell (i:=40) (by omega),B.row.frozen 40,B.row.cell (i:=41) (by omega),B.row.frozen 41⟩
theorem MM.lit{ρ:Nat->Nat}{w:World}{p:Nat}{x:MS}(h:MM ρ w p x)(n:Nat):MM ρ (w.setCell ⟨p,38,none⟩ (.int .u8 n)) p { x with lit:=n }∧Fr (fun k=>1<=k∧k<=5) ρ w (w.setCell ⟨p,38,none⟩ (.int .u8 n)):=by
 obtain ⟨L,B,T⟩:=h;exact (((show Bh ρ w p x x L w from ⟨B,T,Fr.refl _ _ _⟩).set (z:={ x with lit:=n }) 38 _ rfl ⟨rfl,rfl⟩).done rfl rfl rfl rfl ⟨rfl,rfl⟩)
theorem MM.dist{ρ:Nat->Nat}{w:World}{p:Nat}{x:MS}(h:MM ρ w p x)(n:Nat):MM ρ (w.setCell ⟨p,41,none⟩ (.int .i64 n)) p { x with dist:=n }∧Fr (fun k=>1<=k∧k<=5) ρ w (w.setCell ⟨p,41,none⟩ (.int .i64 n)):=by
 obtain ⟨L,B,T⟩:=h;exact (((show Bh ρ w p x x L w from ⟨B,T,Fr.refl _ _ _⟩).set (z:={ x with dist:=n }) 41 _ rfl ⟨rfl,rfl⟩).done rfl rfl rfl rfl ⟨rfl,rfl⟩)
theorem MM.span{ρ:Nat->Nat}{w:World}{p:Nat}{x:MS}(h:MM ρ w p x)(a b:Nat):MM ρ ((w.setCell ⟨p,39,none⟩ (.int .i64 a)).setCell ⟨p,40,none⟩ (.int .i64 b)) p { x with least:=a,bits:=b }∧Fr (fun k=>1<=k∧k<=5) ρ w ((w.setCell ⟨p,39,none⟩ (.int .i64 a)).setCell ⟨p,40,none⟩ (.int .i64 b)):=by
 obtain ⟨L,B,T⟩:=h;exact ((((show Bh ρ w p x x L w from ⟨B,T,Fr.refl _ _ _⟩).set (z:={ x with least:=a }) 39 _ rfl ⟨rfl,rfl⟩).set (z:={ x with least:=a,bits:=b }) 40 _ rfl ⟨rfl,rfl⟩).done rfl rfl rfl rfl ⟨rfl,rfl⟩)
theorem xo6{ρ:Nat->Nat}{w:World}{p:Nat}{y:MS}(k:Nat)(h:MM ρ w p y)(ok:Ok y)(hc:y.count<=63)(hk:k<=256) :
  Calls Tryz.prog 148 #[.pointer (some ⟨p,0,none⟩), .agg (litC k)] w fun v w'=>y0y ρ w p (y.goLit k) v w':=by
 by_cases h1:k<256
 ·have HC:Hid (litC k=#[.int .i64 0, .int .u8 k, .int .i64 0, .int .i64 0]):=by show litC k=_;unfold litC;rw [if_pos h1]
  have HE:Hid (y.goLit k=({ y with lit:=k,st:=16 },0)):=if_pos h1;rw [HC.out];have b0:Below w.heap.size w (w.alloc (.cells #[.int .i64 0, .int .u8 k, .int .i64 0, .int .i64 0] 218)):=(Below.refl _ _).alloc (Nat.le_refl _) _;have HM:Hid (MM ρ (w.alloc (.cells #[.int .i64 0, .int .u8 k, .int .i64 0, .int .i64 0] 218)) p y):=h.below b0;have H1:=HM.out.lit k;have H2:Hid (MM ρ (((w.alloc (.cells #[.int .i64 0, .int .u8 k, .int .i64 0, .int .i64 0] 218)).setCell ⟨p,38,none⟩ (.int .u8 k)).setCell ⟨p,7,none⟩ (.int .i64 16)) p { y with lit:=k,st:=16 }∧Fr (fun k=>1<=k∧k<=5) ρ w (((w.alloc (.cells #[.int .i64 0, .int .u8 k, .int .i64 0, .int .i64 0] 218)).setCell ⟨p,38,none⟩ (.int .u8 k)).setCell ⟨p,7,none⟩ (.int .i64 16))):=⟨(H1.1.st 16).1,((Fr.below b0).trans H1.2).trans (H1.1.st 16).2⟩
  have c38:=HM.out.cellI.1;have z38:=HM.out.cellI.2.1;have c7:=HM.out.cell7.1;have z7:=HM.out.cell7.2;have q0:(w.alloc (.cells #[.int .i64 0, .int .u8 k, .int .i64 0, .int .i64 0] 218)).cell? ⟨w.heap.size,0,none⟩=some (.int .i64 0):=by simp
  have q1:(w.alloc (.cells #[.int .i64 0, .int .u8 k, .int .i64 0, .int .i64 0] 218)).cell? ⟨w.heap.size,1,none⟩=some (.int .u8 k):=by simp
  clear h ok H1 b0;go_enter Tryz.func148,Tryz.ntmps148
  go_wp2_with fail
  go_ret
  unfold y0y;rw [HE.out];exact ⟨rfl,H2.out⟩
 ·obtain rfl:k=256:=by omega
  have HC:Hid (litC 256=#[.int .i64 1, .int .u8 0, .int .i64 0, .int .i64 0]):=rfl;have HE:Hid (y.goLit 256=y.endBlock):=if_neg (by omega);rw [HC.out];have b0:Below w.heap.size w (w.alloc (.cells #[.int .i64 1, .int .u8 0, .int .i64 0, .int .i64 0] 218)):=(Below.refl _ _).alloc (Nat.le_refl _) _;have HM:Hid (MM ρ (w.alloc (.cells #[.int .i64 1, .int .u8 0, .int .i64 0, .int .i64 0] 218)) p y∧Ok y∧Fr (fun k=>1<=k∧k<=5) ρ w (w.alloc (.cells #[.int .i64 1, .int .u8 0, .int .i64 0, .int .i64 0] 218))):=⟨h.below b0,ok,Fr.below b0⟩
  have q0:(w.alloc (.cells #[.int .i64 1, .int .u8 0, .int .i64 0, .int .i64 0] 218)).cell? ⟨w.heap.size,0,none⟩=some (.int .i64 1):=by simp
  clear h ok b0;go_enter Tryz.func148,Tryz.ntmps148
  go_wp2_with fail
  refine (kbz HM.out.1 HM.out.2.1 hc).mono ?_;rintro v w1 ⟨rfl,g1,g2⟩;have HR:Hid (MM ρ w1 p y.endBlock.1∧Fr (fun k=>1<=k∧k<=5) ρ w w1):=⟨g1,HM.out.2.2.trans g2⟩
  clear g1 g2;go_wp2_with fail
  go_ret
  unfold y0y;rw [HE.out];exact ⟨rfl,HR.out⟩
structure Cw(ρ:Nat->Nat)(w:World)(p:Nat)(y:MS)(w':World):Prop where
 mm:MM ρ w' p y
 ok:Ok y
 cnt:y.count<=40
 ne:y.la≠[]
 lb:y.lb.length<=16
 fr:Fr (fun k=>1<=k∧k<=5) ρ w w'
theorem MM.sets{ρ:Nat->Nat}{w:World}{p:Nat}{x:MS}(h:MM ρ w p x)(hn:x.la≠[]):∃ g t u,w.cell? ⟨p,37,none⟩=some (.pointer (some ⟨g,0,none⟩))∧w.cell? ⟨g,0,none⟩=some (.pointer (some ⟨t,0,none⟩))∧w.cell? ⟨g,1,none⟩=some (.pointer (some ⟨u,0,none⟩))∧
  TabS ρ w 268 4 (fun i=>(litC i).toList) t x.la∧TabS ρ w 271 2 (fun i=>(vtb 1 i).toList) u x.lb∧g≠p:=by
 obtain ⟨L,B,T⟩:=h;rcases T.sets with h | ⟨g,e,t,u,h1,h2,h3,h4⟩
 ·exact absurd h hn
 ·refine ⟨g,t,u,?_,h1.cell (i:=0) (by omega),h1.cell (i:=1) (by omega),h3,h4,x1n h2 B.rp (by decide)⟩;rw [← e];exact B.row.cell (i:=37) (by omega)
theorem MM.win{ρ:Nat->Nat}{w:World}{p:Nat}{x:MS}(h:MM ρ w p x):∃ c,w.cell? ⟨p,17,none⟩=some (.pointer (some ⟨c,0,none⟩))∧(Calls Tryz.prog 57 #[.pointer (some ⟨c,0,none⟩)] w fun v w'=>v= .returned (.int .i64 x.qc.length)∧w=w')∧
  (∀ n k,1<=k->k<=x.qc.length->Calls Tryz.prog 150 #[.pointer (some ⟨c,0,none⟩), .int .i64 k] (w.drewN n) fun v w'=>v= .returned (.int .u8 (x.qc.getD (x.qc.length - k) 0:Nat))∧∃ m,w'=(w.drewN n).drewN m)∧∀ w',MM ρ w' p x->True:=by
 obtain ⟨L,B,T⟩:=h;obtain ⟨o,f,k⟩:=B.rc;exact ⟨L.c,B.row.cell (i:=17) (by omega),jpl k,fun n i h1 h2=>yis i (k.drewN n) h1 h2,fun _ _=>trivial⟩
structure Kw(ρ:Nat->Nat)(w:World)(p:Nat)(y:MS)(R:MS×Nat)(w':World):Prop where
 mm:MM ρ w' p y
 ok:Ok y
 eq:MS.copyL y.left y=R
 left:y.left<=65535
 d1:1<=y.dist
 d2:y.dist<=y.qc.length
 qb:∀ b∈y.qc,b<256
 fr:Fr (fun k=>1<=k∧k<=5) ρ w w'
theorem MS.copy_zero{y:MS}(h:y.left=0):MS.copyL y.left y=({ y with st:=17 },0):=by
 have e:∀ n,n=0->MS.copyL n y=({ y with st:=17 },0):=fun n hn=>by subst hn;rfl
 exact e _ h
theorem MS.copy_succ{y:MS}{n:Nat}(h:y.left=n+1):MS.copyL y.left y=if (y.put (y.qc.getD (y.qc.length - y.dist) 0)).2=0 then MS.copyL n { (y.put (y.qc.getD (y.qc.length - y.dist) 0)).1 with left:=n } else y.put (y.qc.getD (y.qc.length - y.dist) 0):=by rw [h];rfl
theorem xsr(q:List Nat)(b:Nat)(h:q.length<=256):q.length<=(MS.pushed q b).length:=by
 unfold MS.pushed;split
 ·simp;omega
 ·simp
theorem vso{q:List Nat}{b:Nat}(h:∀ x∈q,x<256)(hb:b<256):∀ x∈MS.pushed q b,x<256:=by
 intro x hx;unfold MS.pushed at hx;split at hx
 ·rcases List.mem_append.1 hx with h1 | h1
  ·exact h x (List.mem_of_mem_tail h1)
  ·simp at h1;omega
 ·rcases List.mem_append.1 hx with h1 | h1
  ·exact h x h1
  ·simp at h1;omega
theorem getD_lt{q:List Nat}(h:∀ x∈q,x<256)(i:Nat):q.getD i 0<256:=by
 rw [List.getD_eq_getElem?_getD];by_cases hi:i<q.length
 ·rw [List.getElem?_eq_getElem hi];exact h _ (List.getElem_mem hi)
 ·rw [List.getElem?_eq_none (by omega)];simp
theorem k8m{k:Nat}(h:k<16):Tr.spanBits k<=16∧Tr.spanLeast 1 k<=1000000∧1<=Tr.spanLeast 1 k:=by
 have:=kfi h;have:=Nat.two_pow_pos (Tr.spanBits k);omega
theorem MS.spanR_facts{x:MS}(ok:Ok x)(hx:x.count<=40){least bits:Nat}(hb:bits<=16):Ok (x.spanR least bits).1∧((x.spanR least bits).2.1=0->(x.spanR least bits).1.count<=40∧least<=(x.spanR least bits).2.2∧(x.spanR least bits).2.2<least+2^bits∧(x.spanR least bits).1={ x with held:=(x.spanR least bits).1.held,count:=(x.spanR least bits).1.count,tk:=(x.spanR least bits).1.tk,rest:=(x.spanR least bits).1.rest }):=by
 have k3:=MS.need_ok (k:=bits) ok;unfold MS.spanR;by_cases h0:(MS.need bits x).2=0
 ·have k1:=MS.need_cnt ok h0;have k2:=MS.need_same ok h0;rw [if_pos h0];refine ⟨k3.rd k1.1,fun _=>⟨?_,Nat.le_add_right _ _,Nat.add_lt_add_left (Nat.mod_lt _ (Nat.two_pow_pos _)) _,?_⟩⟩
  ·show (MS.need bits x).1.count - bits<=40;omega
  ·show (MS.need bits x).1.rd bits={ x with held:=_,count:=_,tk:=_,rest:=_ };generalize MS.need bits x=r at *;rw [k2];rfl
 ·rw [if_neg h0];exact ⟨k3,fun h=>absurd h h0⟩
theorem x1x{ρ:Nat->Nat}{w:World}{p:Nat}{x:MS}(h:MM ρ w p x)(ok:Ok x)(hl:x.left<=65535)(h1:1<=x.dist)(h2:x.dist<=x.qc.length)(h3:∀ b∈x.qc,b<256)(hst:x.st=21) :
  Calls Tryz.prog 106 #[.pointer (some ⟨p,0,none⟩)] w fun v w'=>y0y ρ w p x.c21 v w':=by
 obtain ⟨R,hR⟩:∃ R,R=MS.copyL x.left x:=⟨_,rfl⟩
 have H0:Hid (∃ y,Kw ρ w p y R w):=⟨x,h,ok,hR.symm,hl,h1,h2,h3,Fr.refl _ _ _⟩
 have HF:Hid (x.c21=R):=by show x.c21=R;rw [hR];rfl
 have c7:=h.cell7.1;rw [hst] at c7;clear h ok hst hR hl h1 h2 h3;go_enter Tryz.func106,Tryz.ntmps106
 go_wp2_with fail
 go_loopw [] (fun wr=>Hid (∃ y,Kw ρ w p y R wr)) (fun wr=>xq0 wr p 25)
 case atStart=>exact H0
 case round=>
  clear H0;obtain ⟨y,Y⟩:=hrel.out;have c25:=Y.mm.cell25.1;have e25:=xv1 c25;have hl:=Y.left;have HY:Hid (Kw ρ w p y R wr):=Y;by_cases hz:y.left=0
  ·have HZ:Hid (R=({ y with st:=17 },0)):=by show R=_;rw [← HY.out.eq,MS.copy_zero hz]
   rw [hz] at c25;have k7:=Y.mm.cell7.1;have z7:=Y.mm.cell7.2;have H17:Hid (MM ρ (wr.setCell ⟨p,7,none⟩ (.int .i64 17)) p { y with st:=17 }∧Fr (fun k=>1<=k∧k<=5) ρ wr (wr.setCell ⟨p,7,none⟩ (.int .i64 17))):=Y.mm.st 17;clear hz Y hrel;go_wp2_with fail
   go_ret
   unfold y0y;rw [HF.out,HZ.out];exact ⟨rfl,H17.out.1,HY.out.fr.trans H17.out.2⟩
  ·obtain ⟨n,hn⟩:∃ n,y.left=n+1:=⟨y.left - 1,by omega⟩
   have HS:Hid (R=if (y.put (y.qc.getD (y.qc.length - y.dist) 0)).2=0 then MS.copyL n { (y.put (y.qc.getD (y.qc.length - y.dist) 0)).1 with left:=n } else y.put (y.qc.getD (y.qc.length - y.dist) 0)):=by show R=_;rw [← HY.out.eq,MS.copy_succ hn]
   have hpos:(0:Int)<y.left:=by omega
   have hb:y.qc.getD (y.qc.length - y.dist) 0<256:=getD_lt Y.qb _;obtain ⟨cw,c17,_,HBK0,_⟩:=Y.mm.win;have HBK:Hid (∀ n,Calls Tryz.prog 150 #[.pointer (some ⟨cw,0,none⟩), .int .i64 y.dist] (wr.drewN n) fun v w'=>v= .returned (.int .u8 (y.qc.getD (y.qc.length - y.dist) 0:Nat))∧∃ m,w'=(wr.drewN n).drewN m):=fun n=>HBK0 n y.dist Y.d1 Y.d2
   have c41:=Y.mm.cellI.2.2.2.2.2.2.1;obtain ⟨b,hbE⟩:∃ b,b=y.qc.getD (y.qc.length - y.dist) 0:=⟨_,rfl⟩
   rw [← hbE] at HS hb HBK;clear hbE HBK0;have HPF:=MS.put_facts Y.ok b;have hq256:y.qc.length<=256:=by obtain ⟨L,B,T⟩:=Y.mm;exact B.rc'
   obtain ⟨P,hP⟩:∃ P,P=y.put b:=⟨_,rfl⟩
   have HPT:Hid (∀ wq,MM ρ wq p y->Calls Tryz.prog 137 #[.pointer (some ⟨p,0,none⟩), .int .u8 b] wq fun v w'=>y0y ρ wq p P v w'):=fun wq m=>by rw [hP];exact mPut b m HY.out.ok hb
   rw [← hP] at HS HPF;have HPF':Hid (Ok P.1∧(P.2=0->P.1=y.putted b)):=HPF;clear hP HPF hz Y hrel;by_cases h1:P.2=0
   ·have hPe:=HPF'.out.2 h1;rw [if_pos h1] at HS;have hPl:P.1.left=n+1:=by rw [hPe];exact hn
    have HPD:Hid (1<=P.1.dist∧P.1.dist<=P.1.qc.length∧∀ b∈P.1.qc,b<256):=by
     show _∧_∧_;rw [hPe];refine ⟨HY.out.d1,?_,vso HY.out.qb hb⟩;have:=xsr y.qc b hq256;have h3:=HY.out.d2;show y.dist<=(MS.pushed y.qc b).length;omega
    obtain ⟨Q,t,hQ⟩:∃ Q t,P=(Q,t):=⟨_,_,rfl⟩
    rw [hQ] at HS HPF' HPT hPl HPD h1;clear hQ hPe;have h1':t=0:=h1;subst h1';clear h1;go_wp2_with fail
    go_region_with (first
     | (go_at_call 150;refine (HBK.out 1).mono ?_;rintro e w2 ⟨rfl,m2,hw2⟩;have H2:Hid (MM ρ w2 p y∧Fr (fun k=>1<=k∧k<=5) ρ w w2):=by { show _∧_;rw [hw2];exact ⟨(HY.out.mm.drewN 1).drewN m2,(HY.out.fr.drewN 1).drewN m2⟩ };clear hw2)
     | (go_at_call 137;refine (HPT.out _ H2.out.1).mono ?_;rintro e w3 ⟨rfl,g1,g2⟩;have H3:Hid (MM ρ w3 p Q∧Fr (fun k=>1<=k∧k<=5) ρ w w3):=⟨g1,H2.out.2.trans g2⟩;clear g1 g2))
    all_goals
     have d25:w3.cell? ⟨p,25,none⟩=some (.int .i64 (n+1:Nat)):=by rw [← hPl];exact H3.out.1.cell25.1
     have z25:=H3.out.1.cell25.2;have HL:=H3.out.1.left n;have HN:Hid (∃ y,Kw ρ w p y R (w3.setCell ⟨p,25,none⟩ (.int .i64 n))):=⟨{ Q with left:=n },HL.1,{ HPF'.out.1 with },HS.out.symm,by show n<=65535;omega,HPD.out.1,HPD.out.2.1,HPD.out.2.2,H3.out.2.trans HL.2⟩
     have eN:xq0 (w3.setCell ⟨p,25,none⟩ (.int .i64 n)) p 25=n:=xv1 HL.1.cell25.1;have hn1:((n+1:Nat):Int) - 1=(n:Int):=by omega
     clear HL;go_wp2_with fail
     go_roundw
     case rel=>exact HN
     case measure=>rw [e25,eN];omega
   ·rw [if_neg h1] at HS;obtain ⟨Q,t,hQ⟩:∃ Q t,P=(Q,t):=⟨_,_,rfl⟩
    rw [hQ] at HS HPF' HPT h1;clear hQ;have h1':¬ t=0:=h1;have h0':((t:Int)==0)=false:=by simp;exact h1'
    clear h1;go_wp2_with fail
    go_region_with (first
     | (go_at_call 150;refine (HBK.out 1).mono ?_;rintro e w2 ⟨rfl,m2,hw2⟩;have H2:Hid (MM ρ w2 p y∧Fr (fun k=>1<=k∧k<=5) ρ w w2):=by { show _∧_;rw [hw2];exact ⟨(HY.out.mm.drewN 1).drewN m2,(HY.out.fr.drewN 1).drewN m2⟩ };clear hw2)
     | (go_at_call 137;refine (HPT.out _ H2.out.1).mono ?_;rintro e w3 ⟨rfl,g1,g2⟩;have H3:Hid (MM ρ w3 p Q∧Fr (fun k=>1<=k∧k<=5) ρ w w3):=⟨g1,H2.out.2.trans g2⟩;clear g1 g2))
    all_goals
     go_wp2_with fail
     go_ret
     unfold y0y;rw [HF.out,HS.out];exact ⟨rfl,H3.out⟩
def zer(_:Nat):Int:=0
def x4p(f:Nat->Int):Bool:=(List.range 12).all fun i=>f i==zer i
theorem ynj(f:Nat->Int):x4p f=true↔∀ j,j<12->f j=0:=by simp [x4p,zer]
theorem zok(f:Nat->Int)(w:World):(Op.equalIn 10000 197 (.agg (arr f)) (.agg #[.int .i64 0, .int .i64 0, .int .i64 0, .int .i64 0, .int .i64 0, .int .i64 0, .int .i64 0, .int .i64 0, .int .i64 0, .int .i64 0, .int .i64 0, .int .i64 0])).run Tryz.prog w= .ok (x4p f) w:=by
 obtain ⟨i,hi⟩:∃ i,Tryz.prog.info? 3=some i:=by
  cases h:Tryz.prog.info? 3 with
  | none=>
    have:(Tryz.prog.info? 3).isSome=true:=by kernel_rfl
    simp [h] at this
  | some i=>exact ⟨i,rfl⟩
 have e:(#[.int .i64 0, .int .i64 0, .int .i64 0, .int .i64 0, .int .i64 0, .int .i64 0, .int .i64 0, .int .i64 0, .int .i64 0, .int .i64 0, .int .i64 0, .int .i64 0]:Array Value)=arr zer:=rfl;rw [e,show (10000:Nat)=9999+1 from rfl,run_equalIn_array w 9999 _ _ Tryz.underlying197 hi];exact xj3 9998 f zer w (List.range 12) (fun i hi=>by simpa using hi)
theorem xap(f:Nat->Int)(w:World) :
  Calls Tryz.prog 196 #[.agg (arr f)] w fun e w'=>e= .returned (.bool (x4p f))∧Below w.heap.size w w':=by
 have he:=zok f;go_enter Tryz.func196,Tryz.ntmps196
 go_wp2_with (refine wpList_load_row rfl 197 _ rfl _ rfl 199 (arr f) (0,0) _ (heap_alloc_new _ _) Tryz.underlying197 rfl (xz2 _) ?_)
 go_ret
 exact ⟨rfl,(Below.refl _ _).alloc (Nat.le_refl _) _⟩
theorem kex(f:Nat->Int)(w:World)(hf:∀ j,j<12->0<=f j∧f j<=1000000) :
  Calls Tryz.prog 173 #[.agg (arr f)] w fun e w'=>e= .returned (.bool ((shr f 12==2048) || y1y f || x4p f))∧Below w.heap.size w w':=by
 have hW:(w.alloc (.cells (arr f) 199)).heap[w.heap.size]?=some (.cells (arr f) 199):=heap_alloc_new _ _;have HB:Hid (Below w.heap.size w (w.alloc (.cells (arr f) 199))):=(Below.refl _ _).alloc (Nat.le_refl _) _;have hlt:w.heap.size<(w.alloc (.cells (arr f) 199)).heap.size:=by simp
 go_enter Tryz.func173,Tryz.ntmps173
 go_wp2_with (refine wpList_load_row rfl 199 _ rfl _ rfl 199 _ _ _ (heap_alloc_new _ _) Tryz.underlying199 rfl (zvc _) ?_)
 generalize w.alloc (.cells (arr f) 199)=W at *;refine (xni f _ hf).mono ?_;rintro e w2 ⟨rfl,hb2⟩;have HB2:Hid (Below w.heap.size w w2):=HB.out.trans (hb2.mono HB.out.size);have hg2:w2.heap[w.heap.size]?=some (.cells (arr f) 199 (0,0)):=(hb2.block _ hlt).trans hW;have hlt2:w.heap.size<w2.heap.size:=Nat.lt_of_lt_of_le hlt hb2.size;obtain ⟨c0,c1,c2,c3,c4,c5,c6,c7,c8,c9,c10,c11⟩:=jax hg2;clear hb2;cases hS:(shr f 12==2048) with
 | true=>
  go_wp2_with fail
  go_ret
  exact ⟨by rw [hS];rfl,HB2.out⟩
 | false=>
  go_wp2_with fail
  refine (jvc f _).mono ?_;rintro e w3 ⟨rfl,hb3⟩;have HB3:Hid (Below w.heap.size w w3):=HB2.out.trans (hb3.mono HB2.out.size);have hg3:w3.heap[w.heap.size]?=some (.cells (arr f) 199 (0,0)):=(hb3.block _ hlt2).trans hg2;clear hb3 c0 c1 c2 c3 c4 c5 c6 c7 c8 c9 c10 c11;obtain ⟨c0,c1,c2,c3,c4,c5,c6,c7,c8,c9,c10,c11⟩:=jax hg3;cases hO:y1y f with
  | true=>
   go_wp2_with fail
   go_ret
   exact ⟨by rw [hS,hO];rfl,HB3.out⟩
  | false=>
   go_wp2_with fail
   refine (xap f _).mono ?_;rintro e w4 ⟨rfl,hb4⟩;have HB4:Hid (Below w.heap.size w w4):=HB3.out.trans (hb4.mono HB3.out.size);clear hb4;go_wp2_with fail
   go_ret
   exact ⟨by rw [hS,hO];rfl,HB4.out⟩
structure xck(w w':World)(g:Nat)(la lb:List Int):Prop where
 ex:∃ (t u m n N M:Nat) (f h:Nat->Value),w'.rowIs g 224 2 (lrow [.pointer (some ⟨t,0,none⟩), .pointer (some ⟨u,0,none⟩)])∧bsum la 12=N∧bsum lb 12=M∧
  TabI w' 268 4 t m N (cn la) (fc (cn la)) (bgTo la 12) (lgTo la 12) (fun j=>[f (j*4),f (j*4+1),f (j*4+2),f (j*4+3)])∧LiteralT.Filled la f la.length∧
  TabI w' 271 2 u n M (cn lb) (fc (cn lb)) (bgTo lb 12) (lgTo lb 12) (fun j=>[h (j*2),h (j*2+1)])∧(∀ i,i<lb.length->0<lb.getD i 0->h (pos lb i*2)= .int .i64 (Tr.spanLeast 1 i)∧h (pos lb i*2+1)= .int .i64 (Tr.spanBits i))∧
  w.heap.size<=t∧w.heap.size<=m∧w.heap.size<=u∧w.heap.size<=n∧w.heap.size<=g
 bel:Below w.heap.size w w'
theorem TabI.below{w w':World}{T:TypeId}{k p m n:Nat}{a b c:Nat->Int}{lg:Nat}{mg:Nat->List Value}(I:TabI w T k p m n a b c lg mg)(f:Below w.heap.size w w'):TabI w' T k p m n a b c lg mg:=by
 refine ⟨j96 I.row f I.pm.1,fun j hj=>⟨(I.at_ j hj).1,fun i v hv=>?_⟩,Nat.lt_of_lt_of_le I.pm.1 f.size,Nat.lt_of_lt_of_le I.pm.2 f.size⟩;have:=(I.at_ j hj).2 i v hv;rw [← this];exact f.cell I.pm.2
theorem kvi(ad bd:Option Addr)(ca cb:Nat)(la lb:List Int)(w:World)(hla:la.length<=269)(hlb:lb.length<=16)(ha:xin w ad la)(hb:xin w bd lb)(ra:inRange la=true)(rb:inRange lb=true) :
  Calls Tryz.prog 163 #[.slice ad la.length ca, .slice bd lb.length cb] w fun e w'=>∃ g,e= .returned (.pointer (some ⟨g,0,none⟩))∧xck w w' g la lb:=by
 have HB:Hid (xin w bd lb):=hb;go_enter Tryz.func163,Tryz.ntmps163
 go_wp2_with fail
 refine (LiteralT.newTable ad ca la w hla ha ra).mono ?_;rintro e w1 ⟨t,m,N,f,rfl,h1,I1,F1,p1,p2,b1⟩;have H1:Hid (bsum la 12=N∧TabI w1 268 4 t m N (cn la) (fc (cn la)) (bgTo la 12) (lgTo la 12) (fun j=>[f (j*4),f (j*4+1),f (j*4+2),f (j*4+3)])∧LiteralT.Filled la f la.length∧w.heap.size<=t∧w.heap.size<=m∧Below w.heap.size w w1):=⟨h1,I1,F1,p1,p2,b1⟩
 clear h1 I1 F1 p1 p2 b1;go_wp2_with fail
 refine (x7m bd cb lb w1 hlb (HB.out.below H1.out.2.2.2.2.2 (Nat.le_refl _)) rb).mono ?_;rintro e w2 ⟨u,n,M,h,rfl,h2,I2,F2,q1,q2,b2⟩;have hs:=H1.out.2.2.2.2.2.size;have H2:Hid (xck w (w2.alloc (.cells #[.pointer (some ⟨t,0,none⟩), .pointer (some ⟨u,0,none⟩)] 224)) w2.heap.size la lb):=by
  have bW:Below w.heap.size w w2:=H1.out.2.2.2.2.2.trans (b2.mono hs);have bA:Below w2.heap.size w2 (w2.alloc (.cells #[.pointer (some ⟨t,0,none⟩), .pointer (some ⟨u,0,none⟩)] 224)):=(Below.refl _ _).alloc (Nat.le_refl _) _;refine ⟨⟨t,u,m,n,N,M,f,h,?_,H1.out.1,h2,(H1.out.2.1.below b2).below bA,H1.out.2.2.1,I2.below bA,F2,H1.out.2.2.2.1,H1.out.2.2.2.2.1,by omega,by omega,by have:=b2.size;omega⟩,bW.trans (bA.mono bW.size)⟩;exact World.rowIs_alloc w2 _ _ _ (fun i hi=>by
   have:i=0∨i=1:=by have:i<2:=hi;omega
   rcases this with rfl | rfl <;> rfl)
 clear h2 I2 F2 q1 q2 b2 hs;go_wp2_with fail
 go_ret
 exact ⟨_,rfl,H2.out⟩
def zeroOwn(w:World)(p:Nat):World:=((((((((((w).setCell ⟨p,26,none⟩ (.int .i64 0)).setCell ⟨p,27,none⟩ (.int .i64 0)).setCell ⟨p,28,none⟩ (.int .i64 0)).setCell ⟨p,29,none⟩ (.slice none 0 0)).setCell ⟨p,30,none⟩ (.pointer none)).setCell ⟨p,31,none⟩ (.int .i64 0)).setCell ⟨p,32,none⟩ (.bool false)).setCell ⟨p,33,none⟩ (.int .i64 0)).setCell ⟨p,34,none⟩ (.int .i64 0)).setCell ⟨p,35,none⟩ (.slice none 0 0)
theorem MB.zeroOwn{ρ:Nat->Nat}{w:World}{p:Nat}{x:MS}{L:Lo}(h:MB ρ w p x L):MB ρ (zeroOwn w p) p { x with nl:=0,nd:=0,told:=0,hlen:=0,hbef:=false,hleast:=0,hbits:=0 } { L with hv:= .slice none 0 0,hp:= .pointer none,rv:= .slice none 0 0 }:=((((((((((h).set (y:={ x with nl:=0 }) (M:=L) 26 (.int .i64 0) rfl ⟨rfl,rfl,rfl,rfl⟩ ⟨rfl,rfl⟩).set (y:={ x with nl:=0,nd:=0 }) (M:=L) 27 (.int .i64 0) rfl ⟨rfl,rfl,rfl,rfl⟩ ⟨rfl,rfl⟩).set (y:={ x with nl:=0,nd:=0,told:=0 }) (M:=L) 28 (.int .i64 0) rfl ⟨rfl,rfl,rfl,rfl⟩ ⟨rfl,rfl⟩).set (y:={ x with nl:=0,nd:=0,told:=0 }) (M:={ L with hv:= .slice none 0 0 }) 29 (.slice none 0 0) rfl ⟨rfl,rfl,rfl,rfl⟩ ⟨rfl,rfl⟩).set (y:={ x with nl:=0,nd:=0,told:=0 }) (M:={ L with hv:= .slice none 0 0,hp:= .pointer none }) 30 (.pointer none) rfl ⟨rfl,rfl,rfl,rfl⟩ ⟨rfl,rfl⟩).set (y:={ x with nl:=0,nd:=0,told:=0,hlen:=0 }) (M:={ L with hv:= .slice none 0 0,hp:= .pointer none }) 31 (.int .i64 0) rfl ⟨rfl,rfl,rfl,rfl⟩ ⟨rfl,rfl⟩).set (y:={ x with nl:=0,nd:=0,told:=0,hlen:=0,hbef:=false }) (M:={ L with hv:= .slice none 0 0,hp:= .pointer none }) 32 (.bool false) rfl ⟨rfl,rfl,rfl,rfl⟩ ⟨rfl,rfl⟩).set (y:={ x with nl:=0,nd:=0,told:=0,hlen:=0,hbef:=false,hleast:=0 }) (M:={ L with hv:= .slice none 0 0,hp:= .pointer none }) 33 (.int .i64 0) rfl ⟨rfl,rfl,rfl,rfl⟩ ⟨rfl,rfl⟩).set (y:={ x with nl:=0,nd:=0,told:=0,hlen:=0,hbef:=false,hleast:=0,hbits:=0 }) (M:={ L with hv:= .slice none 0 0,hp:= .pointer none }) 34 (.int .i64 0) rfl ⟨rfl,rfl,rfl,rfl⟩ ⟨rfl,rfl⟩).set (y:={ x with nl:=0,nd:=0,told:=0,hlen:=0,hbef:=false,hleast:=0,hbits:=0 }) (M:={ L with hv:= .slice none 0 0,hp:= .pointer none,rv:= .slice none 0 0 }) 35 (.slice none 0 0) rfl ⟨rfl,rfl,rfl,rfl⟩ ⟨rfl,rfl⟩
theorem Fr.zeroOwn{ρ:Nat->Nat}(w:World)(p:Nat)(h:ρ p=1):Fr (fun k=>1<=k∧k<=5) ρ w (zeroOwn w p):=(((((((((Fr.own _ p 26 _ h).trans (Fr.own _ p 27 _ h)).trans (Fr.own _ p 28 _ h)).trans (Fr.own _ p 29 _ h)).trans (Fr.own _ p 30 _ h)).trans (Fr.own _ p 31 _ h)).trans (Fr.own _ p 32 _ h)).trans (Fr.own _ p 33 _ h)).trans (Fr.own _ p 34 _ h)).trans (Fr.own _ p 35 _ h)
theorem kno{b:List Int}(hr:inRange b=true):x4p (cn b)=true↔jwa (fun _=>1) b=0:=by
 rw [ynj];have e:=zan (l:=b) (g:=fun _=>1) hr;constructor
 ·intro h;rw [← e];have:∀ k,k<=12->xir (cn b) (fun _=>1) k=0:=fun k=>by
   induction k with
   | zero=>intro _;rfl
   | succ k ih=>intro hk;show xir (cn b) (fun _=>1) k+cn b k*1=0;rw [ih (by omega),h k (by omega)];rfl
  exact this 12 (by omega)
 ·intro h j hj;by_cases h0:j=0
  ·subst h0;exact xu8 b
  ·rw [yzd b j (by omega),v6y b h]
theorem xck.sets{ρ:Nat->Nat}{w w':World}{g:Nat}{la lb:List Int}(h:xck w w' g la lb)(ra:inRange la=true)(rb:inRange lb=true)(hla:la.length<=269)(hlb:lb.length<=16)(hz:∀ k,w.heap.size<=k->ρ k=0) :
  ∃ ρ',Ext w.heap.size ρ ρ'∧(∀ k,ρ k≠0->ρ' k=ρ k)∧(∀ k,ρ' k≠0->ρ k≠0∨k<w'.heap.size)∧yoe ρ' w' g la lb:=by
 obtain ⟨t,u,m,n,N,M,f,hh,h1,h2,h3,h4,h5,h6,h7,p1,p2,p3,p4,p5⟩:=h.ex;obtain ⟨ρ',hρ⟩:∃ ρ':Nat->Nat,ρ'=fun k=>if k=t∨k=u∨k=m∨k=n∨k=g then 8 else ρ k:=⟨_,rfl⟩
 have e8:∀ k,k=t∨k=u∨k=m∨k=n∨k=g->ρ' k=8:=fun k hk=>by rw [hρ];exact if_pos hk
 have en:∀ k,¬ (k=t∨k=u∨k=m∨k=n∨k=g)->ρ' k=ρ k:=fun k hk=>by rw [hρ];exact if_neg hk
 refine ⟨ρ',fun k hk=>en k (by omega),fun k hk=>en k (fun hq=>hk (hz k (by omega))),fun k hk=>?_,t,u,h1,e8 g (by simp),⟨⟨m,N,_,h4,h2,fun i hi h0=>?_,e8 m (by simp)⟩,e8 t (by simp),ra,hla⟩,⟨⟨n,M,_,h6,h3,fun i hi h0=>?_,e8 n (by simp)⟩,e8 u (by simp),rb,by omega⟩⟩
 ·by_cases hq:k=t∨k=u∨k=m∨k=n∨k=g
  ·right
   have a1:=h4.pm;have a2:=h6.pm;have a3:=h1.lt;omega
  ·left;rw [← en k hq];exact hk
 ·have:=h5 i hi h0;show [_,_,_,_]=(litC i).toList;rw [← this]
 ·have:=h7 i hi h0;show [hh (pos lb i*2),hh (pos lb i*2+1)]=(vtb 1 i).toList;rw [this.1,this.2];rfl
theorem ysj{ρ:Nat->Nat}{w w':World}{p g:Nat}{x:MS}{la lb:List Int}(h:MM ρ w p x)(m:xck w w' g la lb)(ra:inRange la=true)(rb:inRange lb=true)(hla:la.length<=269)(hlb:lb.length<=16) :
  ym0 ρ w p { x with la:=la,lb:=lb,nl:=0,nd:=0,told:=0,hl:=[],hs:=[],hlen:=0,hbef:=false,hleast:=0,hbits:=0,row:=[],st:=17 } ((zeroOwn (w'.setCell ⟨p,37,none⟩ (.pointer (some ⟨g,0,none⟩))) p).setCell ⟨p,7,none⟩ (.int .i64 17)):=by
 obtain ⟨ρ',e1,e2,e3,S⟩:=m.sets (ρ:=ρ) ra rb hla hlb (fun k hk=>h.new k hk);obtain ⟨L,B,T⟩:=h.below m.bel;have B1:=B.rho e2;have T1:=T.rho e2 (fun k hk=>by rcases e3 k hk with h | h;exact T.lt k h;exact h);have B2:=B1.set (y:=x) (M:={ L with sets:= .pointer (some ⟨g,0,none⟩) }) 37 (.pointer (some ⟨g,0,none⟩)) rfl ⟨rfl,rfl,rfl,rfl⟩ ⟨rfl,rfl⟩;have B3:=B2.zeroOwn;have B4:=B3.set (y:={ x with nl:=0,nd:=0,told:=0,hlen:=0,hbef:=false,hleast:=0,hbits:=0,st:=17 }) (M:={ L with sets:= .pointer (some ⟨g,0,none⟩),hv:= .slice none 0 0,hp:= .pointer none,rv:= .slice none 0 0 }) 7 (.int .i64 17) rfl ⟨rfl,rfl,rfl,rfl⟩ ⟨rfl,rfl⟩;have rp:=B1.rp;have F:Fr (fun k=>1<=k∧k<=5) ρ' w' ((zeroOwn (w'.setCell ⟨p,37,none⟩ (.pointer (some ⟨g,0,none⟩))) p).setCell ⟨p,7,none⟩ (.int .i64 17)):=((Fr.own w' p 37 _ rp).trans (Fr.zeroOwn _ p rp)).trans (Fr.own _ p 7 _ rp);have T2:MT ρ' w' { x with la:=la,lb:=lb,hl:=[],hs:=[],row:=[] } { L with sets:= .pointer (some ⟨g,0,none⟩),hv:= .slice none 0 0,hp:= .pointer none,rv:= .slice none 0 0 }:=⟨T1.sup,⟨OI.nil _ _,fun b hb=>by cases hb⟩,⟨OI.nil _ _,fun b hb=>by cases hb⟩,Or.inl rfl,Or.inr ⟨g,rfl,S⟩,T1.fx,T1.lt⟩
 refine ⟨⟨ρ',e1,{ L with sets:= .pointer (some ⟨g,0,none⟩),hv:= .slice none 0 0,hp:= .pointer none,rv:= .slice none 0 0 },⟨B4.row,B4.ra,B4.rc,B4.rp,B4.rl⟩,(T2.fr5 F).same rfl rfl rfl rfl ⟨rfl,rfl⟩⟩,?_⟩;exact (Fr.below (ρ:=ρ) m.bel).ext F.five_mine e1
theorem MM.rowA{ρ:Nat->Nat}{w:World}{p:Nat}{x:MS}(h:MM ρ w p x)(hp:0<x.row.length):∃ g cap,w.cell? ⟨p,35,none⟩=some (.slice (some ⟨g,0,none⟩) x.row.length cap)∧xin w (some ⟨g,0,none⟩) x.row∧x.row.length<=cap∧cap<=maxLen∧g<w.heap.size:=by
 obtain ⟨L,B,T⟩:=h;obtain ⟨ad,cap,e,hc⟩:=T.rw.1.cells;rcases T.rw.1.2 with ⟨_,h0⟩ | ⟨g,cap',cur,hv,_,hg,h1,h2,_⟩
 ·omega
 ·rw [hv] at e;injection e with e1 e2 e3
  refine ⟨g,cap',by rw [← hv];exact B.row.cell (i:=35) (by omega),by rw [e1];exact hc,h1,h2,(Array.getElem?_eq_some_iff.1 hg).1⟩
theorem xin.take{w:World}{g:Nat}{l:List Int}(h:xin w (some ⟨g,0,none⟩) l)(n:Nat):xin w (some ⟨g,0,none⟩) (l.take n):=fun k hk=>by
 obtain ⟨b,o,e,h1,h2⟩:=h k (by simp at hk;omega);refine ⟨b,o,e,h1,?_⟩;rw [h2];have:k<n:=by simp at hk;omega
 simp [List.getElem?_take,this]
theorem xin.drop{w:World}{g:Nat}{l:List Int}(h:xin w (some ⟨g,0,none⟩) l)(n:Nat):xin w (some ⟨g,n,none⟩) (l.drop n):=fun k hk=>by
 obtain ⟨b,o,e,h1,h2⟩:=h (n+k) (by simp at hk;omega);injection e with e
 injection e with e1 e2
 subst e1 e2;refine ⟨g,n,rfl,h1,?_⟩;rw [show n+k=0+(n+k) by omega,h2];simp [List.getElem?_drop]
theorem ym0.of{ρ:Nat->Nat}{w w':World}{p:Nat}{y:MS}(h:MM ρ w' p y)(f:Fr mine ρ w w'):ym0 ρ w p y w':=⟨⟨ρ,Ext.refl _ _,h⟩,f⟩
theorem xlz{a b:List Int}(ra:inRange a=true)(rb:inRange b=true):jcj a b↔a.getD 256 0=0∨(shr (cn a) 12==2048)=false∨((shr (cn b) 12==2048) || y1y (cn b) || x4p (cn b))=false:=by
 have ea:shr (cn a) 12=jwa gw a:=by rw [kfr a ra,yky]
 have eb:shr (cn b) 12=jwa gw b:=by rw [kfr b rb,yky]
 have hn:=kno rb;have h0:0<=jwa (fun _=>1) b:=by
  rw [← zan _ _ rb];have:∀ k,0<=xir (cn b) (fun _=>1) k:=fun k=>by
   induction k with
   | zero=>simp [xir]
   | succ k ih=>have:=v4o b k;show 0<=xir (cn b) (fun _=>1) k+cn b k*1;omega
  exact this 12
 unfold jcj;rw [ea,eb,ksm rb];constructor
 ·rintro (h | h | ⟨h1,h2,h3⟩)
  ·exact Or.inl h
  ·exact Or.inr (Or.inl (by simp [h]))
  ·refine Or.inr (Or.inr ?_);have:x4p (cn b)=false:=by
    cases hq:x4p (cn b)
    ·rfl
    ·have:=hn.1 hq;omega
   rw [h2,this];simp [h1]
 ·rintro (h | h | h)
  ·exact Or.inl h
  ·exact Or.inr (Or.inl (by simpa using h))
  ·refine Or.inr (Or.inr ?_);simp only [Bool.or_eq_false_iff] at h;refine ⟨by simpa using h.1.1,h.1.2,?_⟩;have:¬ jwa (fun _=>1) b=0:=fun e=>by rw [hn.2 e] at h;cases h.2
   omega
theorem kpl{ρ:Nat->Nat}{w:World}{p:Nat}{x:MS}(h:MM ρ w p x)(hr:inRange x.row=true)(hl:x.row.length=x.nl+x.nd)(h1:257<=x.nl∧x.nl<=269)(h2:1<=x.nd∧x.nd<=16) :
  Calls Tryz.prog 144 #[.pointer (some ⟨p,0,none⟩)] w fun v w'=>xxu ρ w p x.endRow v w':=by
 have HM:Hid (MM ρ w p x):=h;obtain ⟨g,cap,c35,hco,hcl,hcm,hg⟩:=h.rowA (by omega);obtain ⟨c26,_⟩:=h.own;have ra:inRange (x.row.take x.nl)=true:=zgl hr (fun y hy=>List.mem_of_mem_take hy);have rb:inRange (x.row.drop x.nl)=true:=zgl hr (fun y hy=>List.mem_of_mem_drop hy);have la:(x.row.take x.nl).length=x.nl:=by simp;omega
 have lb:(x.row.drop x.nl).length=x.nd:=by simp;omega
 have HBS:=xlz ra rb;have HE:Hid (x.endRow=if jcj (x.row.take x.nl) (x.row.drop x.nl) then x.refuse 10 else ({ x with la:=x.row.take x.nl,lb:=x.row.drop x.nl,nl:=0,nd:=0,told:=0,hl:=[],hs:=[],hlen:=0,hbef:=false,hleast:=0,hbits:=0,row:=[],st:=17 },0)):=rfl;have hc256:w.cell? ⟨g,256,none⟩=some (.int .i64 ((x.row.take x.nl).getD 256 0)):=by
  obtain ⟨b,o,e,_,hh⟩:=(hco.take x.nl) 256 (by omega);injection e with e
  injection e with e1 e2
  subst e1 e2;rw [show (256:Nat)=0+256 from rfl];exact hh
 have HCA:Hid (∀ w',Below w.heap.size w w'->xin w' (some ⟨g,0,none⟩) (x.row.take x.nl)∧xin w' (some ⟨g,x.nl,none⟩) (x.row.drop x.nl)):=fun w' b=>⟨(hco.take x.nl).below b (Nat.le_refl _),(hco.drop x.nl).below b (Nat.le_refl _)⟩
 have HEM:Hid (∀ w0 w' g',Below w.heap.size w w0->xck w0 w' g' (x.row.take x.nl) (x.row.drop x.nl)->ym0 ρ w0 p { x with la:=x.row.take x.nl,lb:=x.row.drop x.nl,nl:=0,nd:=0,told:=0,hl:=[],hs:=[],hlen:=0,hbef:=false,hleast:=0,hbits:=0,row:=[],st:=17 } ((zeroOwn (w'.setCell ⟨p,37,none⟩ (.pointer (some ⟨g',0,none⟩))) p).setCell ⟨p,7,none⟩ (.int .i64 17))):=fun w0 w' g' b m=>ysj (HM.out.below b) m ra rb (by omega) (by omega)
 have hcne:¬ cap=x.nl:=by omega
 have hle:x.nl<=cap:=by omega
 have hlei:(x.nl:Int)<=cap:=by omega
 have hlN:x.nl<=x.row.length:=by omega
 have hsub:x.row.length - x.nl=x.nd:=by omega
 unfold maxLen at hcm;obtain ⟨A,hA⟩:∃ A,A=x.row.take x.nl:=⟨_,rfl⟩
 obtain ⟨Bq,hB⟩:∃ B,B=x.row.drop x.nl:=⟨_,rfl⟩
 rw [← hA,← hB] at HBS HE HCA HEM;rw [← hA] at hc256 ra la;rw [← hB] at rb lb;clear hA hB hco h;have HSA:Hid (∀ w' cp,Below w.heap.size w w'->Calls Tryz.prog 114 #[.slice (some ⟨g,0,none⟩) x.nl cp] w' fun e w''=>e= .returned (.agg (arr (cn A)))∧Below w'.heap.size w' w''):=fun w' cp b=>by
  have:=v5q (some ⟨g,0,none⟩) cp A w' (by omega) (HCA.out w' b).1 ra;rw [la] at this;exact this
 have HSB:Hid (∀ w' cp,Below w.heap.size w w'->Calls Tryz.prog 114 #[.slice (some ⟨g,x.nl,none⟩) x.nd cp] w' fun e w''=>e= .returned (.agg (arr (cn Bq)))∧Below w'.heap.size w' w''):=fun w' cp b=>by
  have:=v5q (some ⟨g,x.nl,none⟩) cp Bq w' (by omega) (HCA.out w' b).2 rb;rw [lb] at this;exact this
 have HSS:Hid (∀ w' ca cb,Below w.heap.size w w'->Calls Tryz.prog 163 #[.slice (some ⟨g,0,none⟩) x.nl ca, .slice (some ⟨g,x.nl,none⟩) x.nd cb] w' fun e w''=>∃ g',e= .returned (.pointer (some ⟨g',0,none⟩))∧xck w' w'' g' A Bq):=fun w' ca cb b=>by
  have:=kvi (some ⟨g,0,none⟩) (some ⟨g,x.nl,none⟩) ca cb A Bq w' (by omega) (by omega) (HCA.out w' b).1 (HCA.out w' b).2 ra rb;rw [la,lb] at this;exact this
 have HBA:=z7r (l:=A) (by omega);have HBB:=z7r (l:=Bq) (by omega);have HHA:Hid (∀ j,j<12->0<=cn A j∧cn A j<=1000000):=HBA;have HHB:Hid (∀ j,j<12->0<=cn Bq j∧cn Bq j<=1000000):=HBB;have HBI:Hid (jcj A Bq↔A.getD 256 0=0∨(shr (cn A) 12==2048)=false∨((shr (cn Bq) 12==2048) || y1y (cn Bq) || x4p (cn Bq))=false):=HBS;clear HBA HBB HBS ra rb la lb;obtain ⟨v256,hv⟩:∃ v,v=A.getD 256 0:=⟨_,rfl⟩
 rw [← hv] at hc256 HBI;clear hv;go_enter Tryz.func144,Tryz.ntmps144
 go_wp2_with fail
 go_quiet (fail)
 have HD0:Hid (Below w.heap.size w (w.drewN nq)):=⟨rfl,rfl,rfl,Nat.le_refl _,fun _ _=>rfl⟩
 by_cases hv0:v256=0
 ·have hvd:(v256==0)=true:=by simp [hv0]
  have HBAD:Hid (jcj A Bq):=HBI.out.2 (Or.inl hv0);clear hv0;go_wp2_with fail
  refine (kv8 10 (HM.out.below HD0.out)).mono ?_;rintro v w9 ⟨rfl,g3,g4⟩;have HR2:Hid (ym0 ρ w p (x.refuse 10).1 w9):=ym0.of g3 ((Fr.below HD0.out).trans g4.five_mine);clear g3 g4;go_wp2_with fail
  go_ret
  unfold xxu;rw [HE.out,if_pos HBAD.out];exact ⟨rfl,HR2.out⟩
 ·have hvd:(v256==0)=false:=by simp;exact hv0
  have HV0:Hid (¬ v256=0):=hv0;clear hv0;go_wp2_with fail
  refine (HSA.out _ _ HD0.out).mono ?_;rintro e w1 ⟨rfl,b1⟩;have HD1:Hid (Below w.heap.size w w1):=HD0.out.trans (b1.mono HD0.out.size);clear b1;go_wp2_with fail
  refine (xni (cn A) _ HHA.out).mono ?_;rintro e w2 ⟨rfl,b2⟩;have HD2:Hid (Below w.heap.size w w2):=HD1.out.trans (b2.mono HD1.out.size);clear b2;cases hS:(shr (cn A) 12==2048) with
  | false=>
   have HBAD:Hid (jcj A Bq):=HBI.out.2 (Or.inr (Or.inl hS));clear hS;go_wp2_with fail
   refine (kv8 10 (HM.out.below HD2.out)).mono ?_;rintro v w9 ⟨rfl,g3,g4⟩;have HR2:Hid (ym0 ρ w p (x.refuse 10).1 w9):=ym0.of g3 ((Fr.below HD2.out).trans g4.five_mine);clear g3 g4;go_wp2_with fail
   go_ret
   unfold xxu;rw [HE.out,if_pos HBAD.out];exact ⟨rfl,HR2.out⟩
  | true=>
   have HS:Hid ((shr (cn A) 12==2048)=true):=hS;clear hS;go_wp2_with fail
   refine (HSB.out _ _ HD2.out).mono ?_;rintro e w3 ⟨rfl,b3⟩;have HD3:Hid (Below w.heap.size w w3):=HD2.out.trans (b3.mono HD2.out.size);clear b3;go_wp2_with fail
   refine (kex (cn Bq) _ HHB.out).mono ?_;rintro e w4 ⟨rfl,b4⟩;have HD4:Hid (Below w.heap.size w w4):=HD3.out.trans (b4.mono HD3.out.size);clear b4;cases hD:((shr (cn Bq) 12==2048) || y1y (cn Bq) || x4p (cn Bq)) with
   | false=>
    have HBAD:Hid (jcj A Bq):=HBI.out.2 (Or.inr (Or.inr hD));clear hD;go_wp2_with fail
    refine (kv8 10 (HM.out.below HD4.out)).mono ?_;rintro v w9 ⟨rfl,g3,g4⟩;have HR2:Hid (ym0 ρ w p (x.refuse 10).1 w9):=ym0.of g3 ((Fr.below HD4.out).trans g4.five_mine);clear g3 g4;go_wp2_with fail
    go_ret
    unfold xxu;rw [HE.out,if_pos HBAD.out];exact ⟨rfl,HR2.out⟩
   | true=>
    have HGOOD:Hid (¬ jcj A Bq):=fun hb=>by
     rcases HBI.out.1 hb with hb | hb | hb
     ·exact HV0.out hb
     ·rw [HS.out] at hb;cases hb
     ·rw [hD] at hb;cases hb
    clear hD;go_wp2_with fail
    refine (HSS.out _ _ _ HD4.out).mono ?_;rintro e w5 ⟨g',rfl,MS5⟩;have HA5:Hid (ym0 ρ w4 p { x with la:=A,lb:=Bq,nl:=0,nd:=0,told:=0,hl:=[],hs:=[],hlen:=0,hbef:=false,hleast:=0,hbits:=0,row:=[],st:=17 } ((zeroOwn (w5.setCell ⟨p,37,none⟩ (.pointer (some ⟨g',0,none⟩))) p).setCell ⟨p,7,none⟩ (.int .i64 17))):=HEM.out w4 w5 g' HD4.out MS5;have HM5:Hid (MM ρ w5 p x):=(HM.out.below HD4.out).below MS5.bel;clear MS5;obtain ⟨L,B5,T5⟩:=HM5.out;have k37:=B5.row.cell (i:=37) (by omega);have z37:=B5.row.frozen 37;have k26:=B5.row.cell (i:=26) (by omega);have z26:=B5.row.frozen 26;have k27:=B5.row.cell (i:=27) (by omega);have z27:=B5.row.frozen 27;have k28:=B5.row.cell (i:=28) (by omega);have z28:=B5.row.frozen 28;have k29:=B5.row.cell (i:=29) (by omega);have z29:=B5.row.frozen 29;have k30:=B5.row.cell (i:=30) (by omega);have z30:=B5.row.frozen 30;have k31:=B5.row.cell (i:=31) (by omega);have z31:=B5.row.frozen 31;have k32:=B5.row.cell (i:=32) (by omega);have z32:=B5.row.frozen 32;have k33:=B5.row.cell (i:=33) (by omega);have z33:=B5.row.frozen 33;have k34:=B5.row.cell (i:=34) (by omega);have z34:=B5.row.frozen 34;have k35:=B5.row.cell (i:=35) (by omega);have z35:=B5.row.frozen 35;have k7:=B5.row.cell (i:=7) (by omega);have z7:=B5.row.frozen 7;have e37:w5.cell? ⟨p,37,none⟩=some L.sets:=k37;have e26:w5.cell? ⟨p,26,none⟩=some (.int .i64 x.nl):=k26;have e27:w5.cell? ⟨p,27,none⟩=some (.int .i64 x.nd):=k27;have e28:w5.cell? ⟨p,28,none⟩=some (.int .i64 x.told):=k28;have e29:w5.cell? ⟨p,29,none⟩=some L.hv:=k29;have e30:w5.cell? ⟨p,30,none⟩=some L.hp:=k30;have e31:w5.cell? ⟨p,31,none⟩=some (.int .i64 x.hlen):=k31;have e32:w5.cell? ⟨p,32,none⟩=some (.bool x.hbef):=k32;have e33:w5.cell? ⟨p,33,none⟩=some (.int .i64 x.hleast):=k33;have e34:w5.cell? ⟨p,34,none⟩=some (.int .i64 x.hbits):=k34;have e35:w5.cell? ⟨p,35,none⟩=some L.rv:=k35;have e7:w5.cell? ⟨p,7,none⟩=some (.int .i64 x.st):=k7;clear B5 T5 k37 k26 k27 k28 k29 k30 k31 k32 k33 k34 k35 k7 c35 c26 hc256;unfold zeroOwn at HA5;go_wp2_with fail
    go_ret
    unfold xxu;rw [HE.out,if_neg HGOOD.out];exact ⟨rfl,ym0.next (Ext.refl _ _) (Fr.below HD4.out) HA5.out⟩
def jsb(k:Nat):Nat:=if k=12∨k=13∨k=14 then 0 else k
theorem z3l(k:Nat):v3q k=#[.int .i64 (jsb k), .bool (decide (k=12)), .int .i64 (hleast k), .int .i64 (hbits k)]:=by
 unfold v3q jsb hleast hbits;by_cases h1:k=12
 ·subst h1;rfl
 ·by_cases h2:k=13
  ·subst h2;rfl
  ·by_cases h3:k=14
   ·subst h3;rfl
   ·simp [h1,h2,h3]
theorem yfb(k:Nat):hbits k<=6:=by
  unfold hbits;repeat' split
  all_goals omega
theorem x4x(k:Nat):hleast k<=11:=by
  unfold hleast;repeat' split
  all_goals omega
theorem MM.help{ρ:Nat->Nat}{w:World}{p:Nat}{x:MS}(h:MM ρ w p x)(hn:x.hs≠[]):∃ t,w.cell? ⟨p,30,none⟩=some (.pointer (some ⟨t,0,none⟩))∧TabS ρ w 265 4 (fun i=>(v3q i).toList) t x.hs:=by
 obtain ⟨L,B,T⟩:=h;rcases T.hp with h | ⟨t,e,k⟩
 ·exact absurd h hn
 ·exact ⟨t,by rw [← e];exact B.row.cell (i:=30) (by omega),k⟩
theorem MM.frz{ρ:Nat->Nat}{w:World}{p:Nat}{x:MS}(h:MM ρ w p x)(i:Nat):w.frozen? ⟨p,i,none⟩=false:=by
 obtain ⟨L,B,T⟩:=h;exact B.row.frozen i
theorem MM.helped{ρ:Nat->Nat}{w:World}{p:Nat}{x:MS}(h:MM ρ w p x)(k:Nat):MM ρ ((((w.setCell ⟨p,31,none⟩ (.int .i64 (jsb k))).setCell ⟨p,32,none⟩ (.bool (decide (k=12)))).setCell ⟨p,33,none⟩ (.int .i64 (hleast k))).setCell ⟨p,34,none⟩ (.int .i64 (hbits k))) p (x.helped k)∧Fr (fun k=>1<=k∧k<=5) ρ w ((((w.setCell ⟨p,31,none⟩ (.int .i64 (jsb k))).setCell ⟨p,32,none⟩ (.bool (decide (k=12)))).setCell ⟨p,33,none⟩ (.int .i64 (hleast k))).setCell ⟨p,34,none⟩ (.int .i64 (hbits k))):=by
 obtain ⟨L,B,T⟩:=h;exact ((((((show Bh ρ w p x x L w from ⟨B,T,Fr.refl _ _ _⟩).set (z:={ x with hlen:=jsb k }) 31 _ rfl ⟨rfl,rfl⟩).set (z:={ x with hlen:=jsb k,hbef:=decide (k=12) }) 32 _ rfl ⟨rfl,rfl⟩).set (z:={ x with hlen:=jsb k,hbef:=decide (k=12),hleast:=hleast k }) 33 _ rfl ⟨rfl,rfl⟩).set (z:=x.helped k) 34 _ rfl ⟨rfl,rfl⟩).done rfl rfl rfl rfl ⟨rfl,rfl⟩)
structure Rok(x:MS):Prop where
 nl:257<=x.nl∧x.nl<=269
 nd:1<=x.nd∧x.nd<=16
 rr:inRange x.row=true
 len:x.row.length<x.nl+x.nd
theorem inRange_append{a b:List Int}(ha:inRange a=true)(hb:inRange b=true):inRange (a++b)=true:=by
 rw [vto] at *;intro x hx;rcases List.mem_append.1 hx with h | h
 ·exact ha x h
 ·exact hb x h
theorem x6i{n:Nat}{a:Int}(h:yuc a=true):inRange (List.replicate n a)=true:=by
 rw [vto];intro x hx;have:x=a:=List.eq_of_mem_replicate hx;subst this;simpa [yuc] using h
theorem yit{x:MS}(hr:inRange x.row=true)(hh:x.hlen<=11):yuc x.rowLen=true:=by
 unfold MS.rowLen;split
 ·exact yyi hr _
 ·simp [yuc];omega
structure Tw(ρ:Nat->Nat)(w:World)(p:Nat)(y:MS)(w':World):Prop where
 mm:MM ρ w' p y
 ok:Ok y
 cnt:y.count<=40
 fr:Fr mine ρ w w'
theorem yf3{ρ:Nat->Nat}{w:World}{p:Nat}{x:MS}(h:MM ρ w p x)(ok:Ok x)(hc:x.count<=40)(RK:Rok x)(hb:x.hbits<=6)(hl:x.hleast<=11)(RK2:x.hlen<=11)(hst:x.st=15) :
  Calls Tryz.prog 104 #[.pointer (some ⟨p,0,none⟩)] w fun v w'=>xxu ρ w p x.r15 v w':=by
 have H15:Hid (Tw ρ w p x w):=⟨h,ok,hc,Fr.refl _ _ _⟩
 have B15:x.hbits<=16∧x.hleast<=1000000∧x.hleast+2^x.hbits<=1000:=⟨by omega,by omega,by
  have:2^x.hbits<=2^6:=Nat.pow_le_pow_right (by decide) hb;have e:2^6=64:=by decide
  omega⟩
 have R15:Hid (x.r15=MS.symThen (x.spanR x.hleast x.hbits) fun y times=>if (y.hbef=true∧y.row.length=0)∨y.nl+y.nd<y.row.length+times then y.refuse 10 else MS.rowEnd { y with row:=y.row++List.replicate times y.rowLen,st:=14 }):=rfl;obtain ⟨_,_,_,_,_,c33,c34,_⟩:=h.own;have c7:=h.cell7.1;rw [hst] at c7;clear h ok hst hc;go_enter Tryz.func104,Tryz.ntmps104
 go_wp2_with fail
 refine (xh4 x.hleast x.hbits H15.out.mm H15.out.ok H15.out.cnt B15.1 B15.2.1).mono ?_;rintro v wa ⟨rfl,g1,g2⟩;have SF:=MS.spanR_facts (least:=x.hleast) H15.out.ok H15.out.cnt B15.1;have R':Hid (x.r15=if (x.spanR x.hleast x.hbits).2.1=0 then (if (((x.spanR x.hleast x.hbits).1.hbef=true∧(x.spanR x.hleast x.hbits).1.row.length=0)∨(x.spanR x.hleast x.hbits).1.nl+(x.spanR x.hleast x.hbits).1.nd<(x.spanR x.hleast x.hbits).1.row.length+(x.spanR x.hleast x.hbits).2.2) then (x.spanR x.hleast x.hbits).1.refuse 10 else MS.rowEnd { (x.spanR x.hleast x.hbits).1 with row:=(x.spanR x.hleast x.hbits).1.row++List.replicate (x.spanR x.hleast x.hbits).2.2 (x.spanR x.hleast x.hbits).1.rowLen,st:=14 }) else ((x.spanR x.hleast x.hbits).1,(x.spanR x.hleast x.hbits).2.1)):=R15.out;clear R15;by_cases h0:(x.spanR x.hleast x.hbits).2.1=0
 ·rw [if_pos h0] at R';obtain ⟨s1,s2,s3,s4⟩:=SF.2 h0;have so:=SF.1;have hT:(x.spanR x.hleast x.hbits).2.2<=1000:=by have:=B15.2.2;omega
  obtain ⟨z,t,N,hr⟩:∃ z t N,x.spanR x.hleast x.hbits=(z,t,N):=⟨_,_,_,rfl⟩
  rw [hr] at g1 R' s4 so hT h0 ⊢;have h0':t=0:=h0;subst h0';have hzr:Rok z∧z.hlen<=11:=by
   have e:z=_:=s4;have a1:z.nl=x.nl:=by rw [e]
   have a2:z.nd=x.nd:=by rw [e]
   have a3:z.row=x.row:=by rw [e]
   have a4:z.hlen=x.hlen:=by rw [e]
   exact ⟨⟨by rw [a1];exact RK.nl,by rw [a2];exact RK.nd,by rw [a3];exact RK.rr,by rw [a1,a2,a3];exact RK.len⟩,by rw [a4];exact RK2⟩
  have HZ:Hid (MM ρ wa p z∧Fr mine ρ w wa∧Rok z∧z.hlen<=11):=⟨g1,H15.out.fr.trans g2.five_mine,hzr.1,hzr.2⟩
  have n1:=hzr.1.nl;have n2:=hzr.1.nd;have n3:=hzr.1.len;have n4:=hzr.2;clear g1 g2 hr s1 s2 s3 s4 so SF h0 hzr;go_wp2_with fail
  refine (juf N HZ.out.1 (by omega) (by omega) (by omega) hT (by omega)).mono ?_;rintro v wb EX;unfold ExtE at EX;by_cases hbad:(z.hbef=true∧z.row.length=0)∨z.nl+z.nd<z.row.length+N
  ·rw [if_pos hbad] at EX R';obtain ⟨rfl,AF⟩:=EX;obtain ⟨ρ',ex,mm⟩:=AF.ex;have HX:Hid (MM ρ' wb p z∧Ext w.heap.size ρ ρ'∧Fr mine ρ w wb):=⟨mm,fun k hk=>ex k (Nat.lt_of_lt_of_le hk HZ.out.2.1.kp.size),HZ.out.2.1.trans AF.fr⟩
   clear AF ex mm hbad;go_wp2_with fail
   refine (kv8 10 HX.out.1).mono ?_;rintro v wc ⟨rfl,g3,g4⟩;have HR2:Hid (ym0 ρ w p (z.refuse 10).1 wc):=⟨⟨ρ',HX.out.2.1,g3⟩,HX.out.2.2.ext g4.five_mine HX.out.2.1⟩
   clear g3 g4;go_wp2_with fail
   go_ret
   unfold xxu;rw [R'.out];exact ⟨rfl,HR2.out⟩
  ·rw [if_neg hbad] at EX R';obtain ⟨rfl,AF⟩:=EX;obtain ⟨ρ',ex,mm⟩:=AF.ex;have k7:=mm.cell7.1;have z7:=mm.frz 7;have hnb:z.row.length+N<=z.nl+z.nd:=by
    apply Classical.byContradiction;intro hq;exact hbad (Or.inr (by omega))
   obtain ⟨u,hu⟩:∃ u:MS,u={ z with row:=z.row++List.replicate N z.rowLen,st:=14 }:=⟨_,rfl⟩
   have hul:u.row.length=z.row.length+N:=by rw [hu];simp
   have hun:u.nl=z.nl∧u.nd=z.nd:=by rw [hu];exact ⟨rfl,rfl⟩
   have hur:inRange u.row=true:=by rw [hu];exact inRange_append HZ.out.2.2.1.rr (x6i (yit HZ.out.2.2.1.rr HZ.out.2.2.2))
   have HX:Hid (MM ρ' (wb.setCell ⟨p,7,none⟩ (.int .i64 14)) p u∧Ext w.heap.size ρ ρ'∧Fr mine ρ w (wb.setCell ⟨p,7,none⟩ (.int .i64 14))):=by
    have e1:Ext w.heap.size ρ ρ':=fun k hk=>ex k (Nat.lt_of_lt_of_le hk HZ.out.2.1.kp.size)
    refine ⟨by rw [hu];exact (mm.st 14).1,e1,?_⟩;exact (HZ.out.2.1.trans AF.fr).ext (mm.st 14).2.five_mine e1
   have R3:Hid (x.r15=MS.rowEnd u):=by show x.r15=_;rw [hu];exact R'.out
   clear AF ex mm hbad hu R';have HW:Hid (Calls Tryz.prog 143 #[.pointer (some ⟨p,26,none⟩)] (wb.setCell ⟨p,7,none⟩ (.int .i64 14)) fun v w'=>v= .returned (.bool (decide (u.row.length=u.nl+u.nd)))∧∃ n,w'=(wb.setCell ⟨p,7,none⟩ (.int .i64 14)).drewN n):=ksc HX.out.1 (by omega) (by omega) (by omega);by_cases hw:u.row.length=u.nl+u.nd
   ·have R4:Hid (x.r15=u.endRow):=by show x.r15=_;rw [R3.out];exact if_pos hw
    rw [decide_eq_true hw] at HW;go_wp2_with fail
    refine HW.out.mono ?_;rintro v wc ⟨rfl,m,hm⟩;have HC:Hid (MM ρ' wc p u∧Fr mine ρ w wc):=by
     show _∧_;rw [hm];exact ⟨HX.out.1.drewN m,HX.out.2.2.drewN m⟩
    clear hm HW;go_wp2_with fail
    refine (kpl HC.out.1 hur hw (by rw [hun.1];exact n1) (by rw [hun.2];exact n2)).mono ?_;rintro v wd ⟨rfl,AF⟩;have HR2:Hid (ym0 ρ w p u.endRow.1 wd):=ym0.next HX.out.2.1 HC.out.2 AF;clear AF;obtain ⟨E,hE⟩:∃ E,E=u.endRow:=⟨_,rfl⟩
    rw [← hE] at HR2 R4 ⊢;clear hE;go_wp2_with fail
    go_ret
    unfold xxu;rw [R4.out];exact ⟨rfl,HR2.out⟩
   ·have R4:Hid (x.r15=(u,0)):=by show x.r15=_;rw [R3.out];exact if_neg hw
    rw [decide_eq_false hw] at HW;go_wp2_with fail
    refine HW.out.mono ?_;rintro v wc ⟨rfl,m,hm⟩;have HC:Hid (ym0 ρ w p u wc):=by
     show ym0 _ _ _ _ _;rw [hm];exact ⟨⟨ρ',HX.out.2.1,HX.out.1.drewN m⟩,HX.out.2.2.drewN m⟩
    clear hm HW;go_wp2_with fail
    go_ret
    unfold xxu;rw [R4.out];exact ⟨rfl,HC.out⟩
 ·rw [if_neg h0] at R';obtain ⟨e,he⟩:∃ e,e=(x.spanR x.hleast x.hbits).2.1:=⟨_,rfl⟩
  have HR:Hid (ym0 ρ w p (x.spanR x.hleast x.hbits).1 wa∧(x.spanR x.hleast x.hbits).2.1=e):=⟨ym0.of g1 (H15.out.fr.trans g2.five_mine),he.symm⟩
  rw [← he] at h0 ⊢;have h0':((e:Int)==0)=false:=by simp;exact h0
  clear g1 g2 he;go_wp2_with fail
  go_ret
  unfold xxu;rw [R'.out,HR.out.2];exact ⟨rfl,HR.out.1⟩
theorem xsa{ρ:Nat->Nat}{w:World}{p:Nat}{x:MS}(h:MM ρ w p x)(ok:Ok x)(hc:x.count<=40)(RK0:Rok x)(hs:x.hs≠[])(hsl:x.hs.length<=15)(hst:x.st=14) :
  Calls Tryz.prog 104 #[.pointer (some ⟨p,0,none⟩)] w fun v w'=>xxu ρ w p x.r14 v w':=by
 have HM:Hid (MM ρ w p x∧Ok x):=⟨h,ok⟩
 obtain ⟨th,c30,TH⟩:=h.help hs;have THr:=TH.rng;have HTH:Hid (TabS ρ w 265 4 (fun i=>(v3q i).toList) th x.hs):=TH;have c7:=h.cell7.1;rw [hst] at c7;clear h ok hst TH;go_enter Tryz.func104,Tryz.ntmps104
 go_wp2_with fail
 refine (zh1 HM.out.1 HM.out.2 hc HTH.out).mono ?_;rintro v wa14 ⟨rfl,g1,g2⟩;have SF:=MS.sym_facts THr HM.out.2 hc;have R':Hid (x.r14=if (x.sym x.hs).2.1=0 then MS.r15 { (x.sym x.hs).1.helped (x.sym x.hs).2.2 with st:=15 } else ((x.sym x.hs).1,(x.sym x.hs).2.1)):=rfl;by_cases h0:(x.sym x.hs).2.1=0
 ·rw [if_pos h0] at R';rw [if_pos h0];obtain ⟨s1,s2,s3⟩:=SF.2 h0;have so:=SF.1;obtain ⟨z,t,k,hr⟩:∃ z t k,x.sym x.hs=(z,t,k):=⟨_,_,_,rfl⟩
  rw [hr] at g1 R' s1 s2 s3 so h0 ⊢;have h0':t=0:=h0;subst h0';have hk15:k<15:=by have:k<x.hs.length:=s1;omega
  have hz:Rok z:=by
   have e:z=_:=s3;have a1:z.nl=x.nl:=by rw [e]
   have a2:z.nd=x.nd:=by rw [e]
   have a3:z.row=x.row:=by rw [e]
   exact ⟨by rw [a1];exact RK0.nl,by rw [a2];exact RK0.nd,by rw [a3];exact RK0.rr,by rw [a1,a2,a3];exact RK0.len⟩
  have b1:Below wa14.heap.size wa14 (wa14.alloc (.cells #[.int .i64 (jsb k), .bool (decide (k=12)), .int .i64 (hleast k), .int .i64 (hbits k)] 127)):=(Below.refl _ _).alloc (Nat.le_refl _) _;have HZ:Hid (MM ρ (wa14.alloc (.cells #[.int .i64 (jsb k), .bool (decide (k=12)), .int .i64 (hleast k), .int .i64 (hbits k)] 127)) p z∧Fr mine ρ w (wa14.alloc (.cells #[.int .i64 (jsb k), .bool (decide (k=12)), .int .i64 (hleast k), .int .i64 (hbits k)] 127))):=⟨g1.below b1,(g2.trans (Fr.below b1)).five_mine⟩
  obtain ⟨_,_,_,a31,a32,a33,a34,_⟩:=HZ.out.1.own;have z31:=HZ.out.1.frz 31;have z32:=HZ.out.1.frz 32;have z33:=HZ.out.1.frz 33;have z34:=HZ.out.1.frz 34;have k7:=HZ.out.1.cell7.1;have z7:=HZ.out.1.cell7.2;have q0:(wa14.alloc (.cells #[.int .i64 (jsb k), .bool (decide (k=12)), .int .i64 (hleast k), .int .i64 (hbits k)] 127)).cell? ⟨wa14.heap.size,0,none⟩=some (.int .i64 (jsb k)):=by simp
  have q1:(wa14.alloc (.cells #[.int .i64 (jsb k), .bool (decide (k=12)), .int .i64 (hleast k), .int .i64 (hbits k)] 127)).cell? ⟨wa14.heap.size,1,none⟩=some (.bool (decide (k=12))):=by simp
  have q2:(wa14.alloc (.cells #[.int .i64 (jsb k), .bool (decide (k=12)), .int .i64 (hleast k), .int .i64 (hbits k)] 127)).cell? ⟨wa14.heap.size,2,none⟩=some (.int .i64 (hleast k)):=by simp
  have q3:(wa14.alloc (.cells #[.int .i64 (jsb k), .bool (decide (k=12)), .int .i64 (hleast k), .int .i64 (hbits k)] 127)).cell? ⟨wa14.heap.size,3,none⟩=some (.int .i64 (hbits k)):=by simp
  have HA:=HZ.out.1.helped k;have HB:=HA.1.st 15;obtain ⟨y15,hy15⟩:∃ y:MS,y={ z.helped k with st:=15 }:=⟨_,rfl⟩
  obtain ⟨WW,hW⟩:∃ W,W=(((((wa14.alloc (.cells #[.int .i64 (jsb k), .bool (decide (k=12)), .int .i64 (hleast k), .int .i64 (hbits k)] 127)).setCell ⟨p,31,none⟩ (.int .i64 (jsb k))).setCell ⟨p,32,none⟩ (.bool (decide (k=12)))).setCell ⟨p,33,none⟩ (.int .i64 (hleast k))).setCell ⟨p,34,none⟩ (.int .i64 (hbits k))).setCell ⟨p,7,none⟩ (.int .i64 15):=⟨_,rfl⟩
  have H15:Hid (Tw ρ w p y15 WW):=by
   show Tw ρ w p y15 WW;rw [hW,hy15];exact ⟨HB.1,{ so with },s2,(HZ.out.2.trans HA.2.five_mine).trans HB.2.five_mine⟩
  have RK:Rok y15:=by rw [hy15];exact ⟨hz.nl,hz.nd,hz.rr,hz.len⟩
  have RK2:y15.hlen<=11:=by rw [hy15];show (if k=12∨k=13∨k=14 then 0 else k)<=11;split <;> omega
  have B15:y15.hbits<=16∧y15.hleast<=1000000∧y15.hleast+2^y15.hbits<=1000:=by
   rw [hy15];show hbits k<=16∧hleast k<=1000000∧hleast k+2^hbits k<=1000;have h1:=yfb k;have h2:=x4x k;have:2^hbits k<=2^6:=Nat.pow_le_pow_right (by decide) h1;have e:2^6=64:=by decide
   omega
  have R15:Hid (x.r14=MS.r15 y15):=by show x.r14=_;rw [hy15];exact R'.out
  have HW15:Hid (WW=(((((wa14.alloc (.cells #[.int .i64 (jsb k), .bool (decide (k=12)), .int .i64 (hleast k), .int .i64 (hbits k)] 127)).setCell ⟨p,31,none⟩ (.int .i64 (jsb k))).setCell ⟨p,32,none⟩ (.bool (decide (k=12)))).setCell ⟨p,33,none⟩ (.int .i64 (hleast k))).setCell ⟨p,34,none⟩ (.int .i64 (hbits k))).setCell ⟨p,7,none⟩ (.int .i64 15)):=hW;have hv1:jsb k=y15.hlen:=by rw [hy15];rfl
  have hv2:decide (k=12)=y15.hbef:=by rw [hy15];rfl
  have hv3:hleast k=y15.hleast:=by rw [hy15];rfl
  have hv4:hbits k=y15.hbits:=by rw [hy15];rfl
  rw [z3l];rw [hv1,hv2,hv3,hv4] at HW15 a31 a32 a33 a34 z31 z32 z33 z34 k7 z7 q0 q1 q2 q3 ⊢;clear g1 g2 hr s3 so SF h0 hz HA HB hy15 hW b1 R' HZ s1 hk15 hv1 hv2 hv3 hv4;go_wp2_with fail
  rw [← HW15.out];clear a31 a32 a33 a34 z31 z32 z33 z34 k7 z7 q0 q1 q2 q3 HW15;refine (xh4 y15.hleast y15.hbits H15.out.mm H15.out.ok H15.out.cnt B15.1 B15.2.1).mono ?_;rintro v wa ⟨rfl,g1,g2⟩;have SF:=MS.spanR_facts (least:=y15.hleast) H15.out.ok H15.out.cnt B15.1;have R':Hid (x.r14=if (y15.spanR y15.hleast y15.hbits).2.1=0 then (if (((y15.spanR y15.hleast y15.hbits).1.hbef=true∧(y15.spanR y15.hleast y15.hbits).1.row.length=0)∨(y15.spanR y15.hleast y15.hbits).1.nl+(y15.spanR y15.hleast y15.hbits).1.nd<(y15.spanR y15.hleast y15.hbits).1.row.length+(y15.spanR y15.hleast y15.hbits).2.2) then (y15.spanR y15.hleast y15.hbits).1.refuse 10 else MS.rowEnd { (y15.spanR y15.hleast y15.hbits).1 with row:=(y15.spanR y15.hleast y15.hbits).1.row++List.replicate (y15.spanR y15.hleast y15.hbits).2.2 (y15.spanR y15.hleast y15.hbits).1.rowLen,st:=14 }) else ((y15.spanR y15.hleast y15.hbits).1,(y15.spanR y15.hleast y15.hbits).2.1)):=R15.out;clear R15;by_cases h0:(y15.spanR y15.hleast y15.hbits).2.1=0
  ·rw [if_pos h0] at R';obtain ⟨s1,s2,s3,s4⟩:=SF.2 h0;have so:=SF.1;have hT:(y15.spanR y15.hleast y15.hbits).2.2<=1000:=by have:=B15.2.2;omega
   obtain ⟨z,t,N,hr⟩:∃ z t N,y15.spanR y15.hleast y15.hbits=(z,t,N):=⟨_,_,_,rfl⟩
   rw [hr] at g1 R' s4 so hT h0 ⊢;have h0':t=0:=h0;subst h0';have hzr:Rok z∧z.hlen<=11:=by
    have e:z=_:=s4;have a1:z.nl=y15.nl:=by rw [e]
    have a2:z.nd=y15.nd:=by rw [e]
    have a3:z.row=y15.row:=by rw [e]
    have a4:z.hlen=y15.hlen:=by rw [e]
    exact ⟨⟨by rw [a1];exact RK.nl,by rw [a2];exact RK.nd,by rw [a3];exact RK.rr,by rw [a1,a2,a3];exact RK.len⟩,by rw [a4];exact RK2⟩
   have HZ:Hid (MM ρ wa p z∧Fr mine ρ w wa∧Rok z∧z.hlen<=11):=⟨g1,H15.out.fr.trans g2.five_mine,hzr.1,hzr.2⟩
   have n1:=hzr.1.nl;have n2:=hzr.1.nd;have n3:=hzr.1.len;have n4:=hzr.2;clear g1 g2 hr s1 s2 s3 s4 so SF h0 hzr;go_wp2_with fail
   refine (juf N HZ.out.1 (by omega) (by omega) (by omega) hT (by omega)).mono ?_;rintro v wb EX;unfold ExtE at EX;by_cases hbad:(z.hbef=true∧z.row.length=0)∨z.nl+z.nd<z.row.length+N
   ·rw [if_pos hbad] at EX R';obtain ⟨rfl,AF⟩:=EX;obtain ⟨ρ',ex,mm⟩:=AF.ex;have HX:Hid (MM ρ' wb p z∧Ext w.heap.size ρ ρ'∧Fr mine ρ w wb):=⟨mm,fun k hk=>ex k (Nat.lt_of_lt_of_le hk HZ.out.2.1.kp.size),HZ.out.2.1.trans AF.fr⟩
    clear AF ex mm hbad;go_wp2_with fail
    refine (kv8 10 HX.out.1).mono ?_;rintro v wc ⟨rfl,g3,g4⟩;have HR2:Hid (ym0 ρ w p (z.refuse 10).1 wc):=⟨⟨ρ',HX.out.2.1,g3⟩,HX.out.2.2.ext g4.five_mine HX.out.2.1⟩
    clear g3 g4;go_wp2_with fail
    go_ret
    unfold xxu;rw [R'.out];exact ⟨rfl,HR2.out⟩
   ·rw [if_neg hbad] at EX R';obtain ⟨rfl,AF⟩:=EX;obtain ⟨ρ',ex,mm⟩:=AF.ex;have k7:=mm.cell7.1;have z7:=mm.frz 7;have hnb:z.row.length+N<=z.nl+z.nd:=by
     apply Classical.byContradiction;intro hq;exact hbad (Or.inr (by omega))
    obtain ⟨u,hu⟩:∃ u:MS,u={ z with row:=z.row++List.replicate N z.rowLen,st:=14 }:=⟨_,rfl⟩
    have hul:u.row.length=z.row.length+N:=by rw [hu];simp
    have hun:u.nl=z.nl∧u.nd=z.nd:=by rw [hu];exact ⟨rfl,rfl⟩
    have hur:inRange u.row=true:=by rw [hu];exact inRange_append HZ.out.2.2.1.rr (x6i (yit HZ.out.2.2.1.rr HZ.out.2.2.2))
    have HX:Hid (MM ρ' (wb.setCell ⟨p,7,none⟩ (.int .i64 14)) p u∧Ext w.heap.size ρ ρ'∧Fr mine ρ w (wb.setCell ⟨p,7,none⟩ (.int .i64 14))):=by
     have e1:Ext w.heap.size ρ ρ':=fun k hk=>ex k (Nat.lt_of_lt_of_le hk HZ.out.2.1.kp.size)
     refine ⟨by rw [hu];exact (mm.st 14).1,e1,?_⟩;exact (HZ.out.2.1.trans AF.fr).ext (mm.st 14).2.five_mine e1
    have R3:Hid (x.r14=MS.rowEnd u):=by show x.r14=_;rw [hu];exact R'.out
    clear AF ex mm hbad hu R';have HW:Hid (Calls Tryz.prog 143 #[.pointer (some ⟨p,26,none⟩)] (wb.setCell ⟨p,7,none⟩ (.int .i64 14)) fun v w'=>v= .returned (.bool (decide (u.row.length=u.nl+u.nd)))∧∃ n,w'=(wb.setCell ⟨p,7,none⟩ (.int .i64 14)).drewN n):=ksc HX.out.1 (by omega) (by omega) (by omega);by_cases hw:u.row.length=u.nl+u.nd
    ·have R4:Hid (x.r14=u.endRow):=by show x.r14=_;rw [R3.out];exact if_pos hw
     rw [decide_eq_true hw] at HW;go_wp2_with fail
     refine HW.out.mono ?_;rintro v wc ⟨rfl,m,hm⟩;have HC:Hid (MM ρ' wc p u∧Fr mine ρ w wc):=by
      show _∧_;rw [hm];exact ⟨HX.out.1.drewN m,HX.out.2.2.drewN m⟩
     clear hm HW;go_wp2_with fail
     refine (kpl HC.out.1 hur hw (by rw [hun.1];exact n1) (by rw [hun.2];exact n2)).mono ?_;rintro v wd ⟨rfl,AF⟩;have HR2:Hid (ym0 ρ w p u.endRow.1 wd):=ym0.next HX.out.2.1 HC.out.2 AF;clear AF;obtain ⟨E,hE⟩:∃ E,E=u.endRow:=⟨_,rfl⟩
     rw [← hE] at HR2 R4 ⊢;clear hE;go_wp2_with fail
     go_ret
     unfold xxu;rw [R4.out];exact ⟨rfl,HR2.out⟩
    ·have R4:Hid (x.r14=(u,0)):=by show x.r14=_;rw [R3.out];exact if_neg hw
     rw [decide_eq_false hw] at HW;go_wp2_with fail
     refine HW.out.mono ?_;rintro v wc ⟨rfl,m,hm⟩;have HC:Hid (ym0 ρ w p u wc):=by
      show ym0 _ _ _ _ _;rw [hm];exact ⟨⟨ρ',HX.out.2.1,HX.out.1.drewN m⟩,HX.out.2.2.drewN m⟩
     clear hm HW;go_wp2_with fail
     go_ret
     unfold xxu;rw [R4.out];exact ⟨rfl,HC.out⟩
  ·rw [if_neg h0] at R';obtain ⟨e,he⟩:∃ e,e=(y15.spanR y15.hleast y15.hbits).2.1:=⟨_,rfl⟩
   have HR:Hid (ym0 ρ w p (y15.spanR y15.hleast y15.hbits).1 wa∧(y15.spanR y15.hleast y15.hbits).2.1=e):=⟨ym0.of g1 (H15.out.fr.trans g2.five_mine),he.symm⟩
   rw [← he] at h0 ⊢;have h0':((e:Int)==0)=false:=by simp;exact h0
   clear g1 g2 he;go_wp2_with fail
   go_ret
   unfold xxu;rw [R'.out,HR.out.2];exact ⟨rfl,HR.out.1⟩
 ·rw [if_neg h0] at R';rw [if_neg h0];obtain ⟨e,he⟩:∃ e,e=(x.sym x.hs).2.1:=⟨_,rfl⟩
  have b1:Below wa14.heap.size wa14 (wa14.alloc (.cells #[.int .i64 0, .bool false, .int .i64 0, .int .i64 0] 127)):=(Below.refl _ _).alloc (Nat.le_refl _) _;have HR:Hid (ym0 ρ w p (x.sym x.hs).1 (wa14.alloc (.cells #[.int .i64 0, .bool false, .int .i64 0, .int .i64 0] 127))∧(x.sym x.hs).2.1=e):=⟨ym0.of (g1.below b1) (g2.trans (Fr.below b1)).five_mine,he.symm⟩
  rw [← he] at h0 ⊢;have h0':((e:Int)==0)=false:=by simp;exact h0
  clear g1 g2 he b1;go_wp2_with fail
  go_ret
  unfold xxu;rw [R'.out,HR.out.2];exact ⟨rfl,HR.out.1⟩
def OrdP(w:World):Prop:=∃ fr,w.heap[0]?=some (.cells ky5 245 fr)
theorem OrdP.below{w w':World}(h:OrdP w)(hb:Below w.heap.size w w'):OrdP w':=by
 obtain ⟨fr,h1⟩:=h;exact ⟨fr,(hb.block _ (Array.getElem?_eq_some_iff.1 h1).1).trans h1⟩
theorem OrdP.fr{ρ:Nat->Nat}{w w':World}(h:OrdP w)(f:Fr mine ρ w w')(hg:ρ 0=0):OrdP w':=by
 obtain ⟨fr,h1⟩:=h;exact ⟨fr,(f.kp.block _ (Array.getElem?_eq_some_iff.1 h1).1 (by rw [hg];exact fun h=>h.1 rfl)).trans h1⟩
theorem OrdP.cell{w:World}(h:OrdP w){k:Nat}(hk:k<15):w.cell? ⟨0,k,none⟩=some (.int .i64 ((Tr.order.getD k 0:Nat):Int)):=by
 obtain ⟨fr,h1⟩:=h;rw [cell_of_row _ _ k _ _ _ h1];exact (vr5 hk).1
theorem OrdP.lt{w:World}(h:OrdP w):0<w.heap.size:=by
 obtain ⟨fr,h1⟩:=h;exact (Array.getElem?_eq_some_iff.1 h1).1
theorem j3p{l:List Int}{i:Nat}(h:i<l.length){v:Int}:(l.set i v).getD i 0=v:=by simp [List.getD_eq_getElem?_getD,h]
theorem zhx{l:List Int}{i j:Nat}(h:j≠i){v:Int}:(l.set i v).getD j 0=l.getD j 0:=by simp [List.getD_eq_getElem?_getD,List.getElem?_set_ne (Ne.symm h)]
theorem yed(hl:List Int):(hset hl).length=15:=by
 unfold hset;have:∀ (hl:List Int) (i:Nat) (l:List Int),(xhc hl i l).length=l.length:=fun hl=>by
  induction hl with
  | nil=>intro i l;rfl
  | cons x xs ih=>intro i l;show (xhc xs (i+1) (l.set _ x)).length=_;rw [ih];simp
 rw [this];rfl
structure jtk(w w':World)(t:Nat)(l:List Int):Prop where
 ex:∃ (m n:Nat) (f:Nat->Value),bsum l 12=n∧TabI w' 265 4 t m n (cn l) (fc (cn l)) (bgTo l 12) (lgTo l 12) (fun j=>[f (j*4),f (j*4+1),f (j*4+2),f (j*4+3)])∧HelperT.Filled l f l.length∧w.heap.size<=t∧w.heap.size<=m
 bel:Below w.heap.size w w'
theorem jtk.mm{ρ:Nat->Nat}{w w':World}{p t:Nat}{x:MS}{l:List Int}(h:MM ρ w p x)(m:jtk w w' t l)(hr:inRange l=true)(hl:l.length<=15):ym0 ρ w p { x with hs:=l } (w'.setCell ⟨p,30,none⟩ (.pointer (some ⟨t,0,none⟩))):=by
 obtain ⟨b,n,f,h1,h2,h3,h4,h5⟩:=m.ex;obtain ⟨ρ',hρ⟩:∃ ρ':Nat->Nat,ρ'=fun k=>if k=t∨k=b then 8 else ρ k:=⟨_,rfl⟩
 have e8:∀ k,k=t∨k=b->ρ' k=8:=fun k hk=>by rw [hρ];exact if_pos hk
 have en:∀ k,¬ (k=t∨k=b)->ρ' k=ρ k:=fun k hk=>by rw [hρ];exact if_neg hk
 have hz:∀ k,w.heap.size<=k->ρ k=0:=fun k hk=>h.new k hk
 have e1:Ext w.heap.size ρ ρ':=fun k hk=>en k (by omega)
 have e2:∀ k,ρ k≠0->ρ' k=ρ k:=fun k hk=>en k (fun hq=>hk (hz k (by omega)))
 obtain ⟨L,B,T⟩:=h.below m.bel;have B1:=B.rho e2;have T1:=T.rho e2 (fun k hk=>by
  by_cases hq:k=t∨k=b
  ·have:=h2.pm;omega
  ·rw [en k hq] at hk;exact T.lt k hk)
 have rp:=B1.rp;have F:Fr (fun k=>1<=k∧k<=5) ρ' w' (w'.setCell ⟨p,30,none⟩ (.pointer (some ⟨t,0,none⟩))):=Fr.own w' p 30 _ rp;have S:TabS ρ' w' 265 4 (fun i=>(v3q i).toList) t l:=⟨⟨b,n,_,h2,h1,fun i hi h0=>by
  have:=h3 i hi h0;show [_,_,_,_]=(v3q i).toList;rw [← this],e8 b (by simp)⟩,e8 t (by simp),hr,by omega⟩
 have T2:MT ρ' w' { x with hs:=l } { L with hp:= .pointer (some ⟨t,0,none⟩) }:=⟨T1.sup,T1.hl,T1.rw,Or.inr ⟨t,rfl,S⟩,T1.sets,T1.fx,T1.lt⟩
 exact ⟨⟨ρ',e1,{ L with hp:= .pointer (some ⟨t,0,none⟩) },B1.set 30 _ rfl ⟨rfl,rfl,rfl,rfl⟩ ⟨rfl,rfl⟩,T2.fr5 F⟩,(Fr.below (ρ:=ρ) m.bel).ext F.five_mine e1⟩
theorem MM.hlA{ρ:Nat->Nat}{w:World}{p:Nat}{x:MS}(h:MM ρ w p x):∃ ad cap,w.cell? ⟨p,29,none⟩=some (.slice ad x.hl.length cap)∧xin w ad x.hl:=by
 obtain ⟨L,B,T⟩:=h;obtain ⟨ad,cap,e,hc⟩:=T.hl.1.cells;exact ⟨ad,cap,by rw [← e];exact B.row.cell (i:=29) (by omega),hc⟩
theorem xin.of_row{w:World}{g:Nat}{T:TypeId}{l:List Int}{n:Nat}(h:w.rowIs g T n (fun j=> .int .i64 (l.getD j 0)))(hn:l.length<=n):xin w (some ⟨g,0,none⟩) l:=fun k hk=>⟨g,0,rfl,h.lt,by rw [Nat.zero_add];exact h.cell (i:=k) (by omega)⟩
def kee(ρ:Nat->Nat)(w:World)(p:Nat)(x:MS)(e:Ending)(w':World):Prop:=
 if jwa gw (hset x.hl)=2048 then e= .returned (.bool true)∧ym0 ρ w p { x with hs:=hset x.hl } w' else e= .returned (.bool false)∧ym0 ρ w p x w'
theorem kpx{ρ:Nat->Nat}{w:World}{p:Nat}{x:MS}(h:MM ρ w p x)(hO:OrdP w)(hx:∀ y∈x.hl,0<=y∧y<8)(hl:x.hl.length<=15) :
  Calls Tryz.prog 139 #[.pointer (some ⟨p,26,none⟩)] w fun v w'=>kee ρ w p x v w':=by
 have HM:Hid (MM ρ w p x∧OrdP w):=⟨h,hO⟩
 obtain ⟨ad,cap,c29,hco⟩:=h.hlA;have HC:Hid (xin w ad x.hl):=hco;have hset15:=yed x.hl;have hrng:=(jsu hx).1;have hp:p<w.heap.size:=by obtain ⟨L,B,T⟩:=h;exact B.row.lt
 have H0:Hid ((w.alloc (.cells #[.int .i64 0, .int .i64 0, .int .i64 0, .int .i64 0, .int .i64 0, .int .i64 0, .int .i64 0, .int .i64 0, .int .i64 0, .int .i64 0, .int .i64 0, .int .i64 0, .int .i64 0, .int .i64 0, .int .i64 0] 245)).rowIs w.heap.size 245 15 (fun j=> .int .i64 ((hset (x.hl.take 0)).getD j 0))∧Below w.heap.size w (w.alloc (.cells #[.int .i64 0, .int .i64 0, .int .i64 0, .int .i64 0, .int .i64 0, .int .i64 0, .int .i64 0, .int .i64 0, .int .i64 0, .int .i64 0, .int .i64 0, .int .i64 0, .int .i64 0, .int .i64 0, .int .i64 0] 245))):=by
  refine ⟨World.rowIs_alloc w _ _ _ (fun i hi=>?_),(Below.refl _ _).alloc (Nat.le_refl _) _⟩;have:i=0∨i=1∨i=2∨i=3∨i=4∨i=5∨i=6∨i=7∨i=8∨i=9∨i=10∨i=11∨i=12∨i=13∨i=14:=by have:i<15:=hi;omega
  rcases this with rfl | rfl | rfl | rfl | rfl | rfl | rfl | rfl | rfl | rfl | rfl | rfl | rfl | rfl | rfl <;> rfl
 clear h hO hco;go_enter Tryz.func139,Tryz.ntmps139
 go_wp2_with fail
 go_loopw [11] (fun i wr=>∃ k:Nat,k<=x.hl.length∧i= .int .i64 k∧Hid (wr.rowIs w.heap.size 245 15 (fun j=> .int .i64 ((hset (x.hl.take k)).getD j 0))∧Below w.heap.size w wr)) (fun i _=>x.hl.length - (intOf i).toNat)
 case atStart=>exact ⟨0,Nat.zero_le _,rfl,H0⟩
 case round=>
  clear H0;obtain ⟨k,hk,rfl,HH⟩:=hrel;by_cases hlt:k<x.hl.length
  ·obtain ⟨b,o,rfl,hb,hcell⟩:=(HC.out.below HH.out.2 (Nat.le_refl _)) k hlt;have ho15:Tr.order.getD k 0<15:=(vr5 (by omega)).2;have co:wr.cell? ⟨0,k,none⟩=some (.int .i64 ((Tr.order.getD k 0:Nat):Int)):=(HM.out.2.below HH.out.2).cell (by omega);have hk15:(k:Int)<15:=by omega
   have hkl:(k:Int)<x.hl.length:=by omega
   have cr:=HH.out.1.cell ho15;have zr:=HH.out.1.frozen (Tr.order.getD k 0);have HN:Hid ((wr.setCell ⟨w.heap.size,Tr.order.getD k 0,none⟩ (.int .i64 (x.hl.getD k 0))).rowIs w.heap.size 245 15 (fun j=> .int .i64 ((hset (x.hl.take (k+1))).getD j 0))∧Below w.heap.size w (wr.setCell ⟨w.heap.size,Tr.order.getD k 0,none⟩ (.int .i64 (x.hl.getD k 0)))):=by
    refine ⟨(HH.out.1.set _ _).congr fun j hj=>?_,HH.out.2.setCell (p:=⟨w.heap.size,Tr.order.getD k 0,none⟩) (Nat.le_refl _) _⟩;have e:x.hl.take (k+1)=x.hl.take k++[x.hl.getD k 0]:=by rw [List.take_succ_eq_append_getElem hlt];simp [hlt]
    have e2:(x.hl.take k).length=k:=by simp;omega
    rw [e,ycx,e2];have e3:=yed (x.hl.take k);by_cases ej:j=Tr.order.getD k 0
    ·rw [if_pos ej,ej];rw [j3p (by omega)]
    ·rw [if_neg ej];rw [zhx ej]
   obtain ⟨od,hod⟩:∃ od,od=Tr.order.getD k 0:=⟨_,rfl⟩
   rw [← hod] at ho15 co cr zr HN;clear hod;have hodi:(od:Int)<15:=by omega
   obtain ⟨vv,hvv⟩:∃ vv,vv=x.hl.getD k 0:=⟨_,rfl⟩
   rw [← hvv] at hcell HN;clear hvv;go_wp2_with fail
   go_roundw
   case rel=>exact ⟨k+1,by omega,by go_num,HN⟩
   case measure=>simp [intOf];omega
  ·obtain rfl:k=x.hl.length:=by omega
   have HRW:Hid (wr.rowIs w.heap.size 245 15 (fun j=> .int .i64 ((hset x.hl).getD j 0))∧Below w.heap.size w wr):=by
    have:=HH.out;rw [List.take_length] at this;exact this
   have HEE:Hid (∀ e w',kee ρ w p x e w'↔if jwa gw (hset x.hl)=2048 then e= .returned (.bool true)∧ym0 ρ w p { x with hs:=hset x.hl } w' else e= .returned (.bool false)∧ym0 ρ w p x w'):=fun _ _=>Iff.rfl
   obtain ⟨S,hS⟩:∃ S,S=hset x.hl:=⟨_,rfl⟩
   rw [← hS] at HRW hset15 hrng HEE;clear hS HH;have hcs:xin wr (some ⟨w.heap.size,0,none⟩) S:=xin.of_row HRW.out.1 (by omega);have HSO:Hid (Calls Tryz.prog 114 #[.slice (some ⟨w.heap.size,0,none⟩) 15 15] wr fun e w'=>e= .returned (.agg (arr (cn S)))∧Below wr.heap.size wr w'):=by
    have:=v5q (some ⟨w.heap.size,0,none⟩) 15 S wr (by omega) hcs hrng;rw [hset15] at this;exact this
   have HNT:Hid (∀ w',Below wr.heap.size wr w'->Calls Tryz.prog 168 #[.slice (some ⟨w.heap.size,0,none⟩) 15 15, .func (.func 169) #[] #[]] w' fun e w''=>∃ t,e= .returned (.pointer (some ⟨t,0,none⟩))∧jtk w' w'' t S):=fun w' b=>by
    have:=HelperT.newTable (some ⟨w.heap.size,0,none⟩) 15 S w' (by omega) (hcs.below b (Nat.le_refl _)) hrng;rw [hset15] at this;refine this.mono ?_;rintro e w'' ⟨t,m,n,f,rfl,h1,h2,h3,h4,h5,h6⟩;exact ⟨t,rfl,⟨m,n,f,h1,h2,by rw [hset15];exact h3,h4,h5⟩,h6⟩
   have HBD:Hid (∀ j,j<12->0<=cn S j∧cn S j<=1000000):=z7r (by omega);have HEQ:Hid (shr (cn S) 12=jwa gw S):=by show _=_;rw [kfr S hrng,yky]
   have HRG:Hid (inRange S=true∧S.length<=15):=⟨hrng,by omega⟩
   clear hcs hrng hset15;go_wp2_with fail
   refine HSO.out.mono ?_;rintro e w1 ⟨rfl,b1⟩;have HD1:Hid (Below wr.heap.size wr w1):=b1;clear b1;go_wp2_with fail
   refine (xni (cn S) _ HBD.out).mono ?_;rintro e w2 ⟨rfl,b2⟩;have HD2:Hid (Below wr.heap.size wr w2):=HD1.out.trans (b2.mono HD1.out.size);clear b2;cases hS:(shr (cn S) 12==2048) with
   | false=>
    have HBAD:Hid (¬ jwa gw S=2048):=fun e=>by rw [HEQ.out,e] at hS;cases hS
    clear hS;go_wp2_with fail
    go_ret
    rw [HEE.out,if_neg HBAD.out];have b:Below w.heap.size w w2:=HRW.out.2.trans (HD2.out.mono HRW.out.2.size);exact ⟨rfl,ym0.of (HM.out.1.below b) (Fr.below b)⟩
   | true=>
    have HGOOD:Hid (jwa gw S=2048):=by show _=_;rw [← HEQ.out];simpa using hS
    clear hS;go_wp2_with fail
    refine (HNT.out _ HD2.out).mono ?_;rintro e w3 ⟨t,rfl,MH⟩;have b:Below w.heap.size w w2:=HRW.out.2.trans (HD2.out.mono HRW.out.2.size);have HA:Hid (ym0 ρ w p { x with hs:=S } (w3.setCell ⟨p,30,none⟩ (.pointer (some ⟨t,0,none⟩)))):=ym0.next (Ext.refl _ _) (Fr.below b) (jtk.mm (HM.out.1.below b) MH HRG.out.1 HRG.out.2);have mm3:MM ρ w3 p x:=(HM.out.1.below b).below MH.bel;obtain ⟨L,B3,T3⟩:=mm3;have e30:w3.cell? ⟨p,30,none⟩=some L.hp:=B3.row.cell (i:=30) (by omega);have z30:=B3.row.frozen 30;clear MH b B3 T3;go_wp2_with fail
    go_ret
    rw [HEE.out,if_pos HGOOD.out];exact ⟨rfl,HA.out⟩
theorem kp4{ρ:Nat->Nat}{w w1:World}{p:Nat}{x:MS}{L:Lo}{g cap:Nat}{a:Int}{o:Obj}(B:MB ρ w p x L)(T:MT ρ w x L)
  (hown:w1.ownsRow 0 3 1 (.slice (some ⟨g,0,none⟩) (x.hl.length+1) cap) (x.hl.length+1) (k2f x.hl++[.int .i64 a])) (hg:(w.alloc o).grownBy w1 L.hv.ownBlock) (hat:L.hv.ownBlock=some g∨g=w.heap.size+1) (hlt:g<w1.heap.size) :
  MM (give ρ g 6) (w1.setCell ⟨p,29,none⟩ (.slice (some ⟨g,0,none⟩) (x.hl.length+1) cap)) p { x with hl:=x.hl++[a] }∧Ext w.heap.size ρ (give ρ g 6)∧Fr mine ρ w (w1.setCell ⟨p,29,none⟩ (.slice (some ⟨g,0,none⟩) (x.hl.length+1) cap)):=by
 have hgr:ρ g=0∨ρ g=6:=by
  rcases hat with h | h
  ·exact Or.inr (T.hl.2 g h)
  ·left
   apply Classical.byContradiction;intro hn;have:=T.lt g hn;omega
 have kp:Kp (fun r=>r=6) ρ w w1:=⟨by have:=hg.size;simp at this;omega,fun k hk hr=>by
  rw [hg.block k (by simp;omega) (fun e=>hr (T.hl.2 k e.symm))];exact Go.heap_alloc_old _ _ hk⟩
 have keep:=z5c (ρ:=ρ) (g:=g) (r:=6) hgr;obtain ⟨o1,f1,k1⟩:=B.ra;obtain ⟨o2,f2,k2⟩:=B.rc;obtain ⟨r1,r2,r3,r4⟩:=B.rl;have B1:MB ρ w1 p x L:=⟨zlz B.row kp (by rw [B.rp];decide),⟨o1,f1,k1.kp kp (by rw [r1];decide) (by rw [r2];decide)⟩,⟨o2,f2,k2.kp kp (by rw [r3];decide) (by rw [r4];decide)⟩,B.rp,B.rl⟩
 have hpg:p≠g:=by
  rcases hgr with h | h
  ·exact x1n B.rp h (by decide)
  ·exact x1n B.rp h (by decide)
 have ext:Ext w.heap.size ρ (give ρ g 6):=fun k hk=>by
  unfold give;by_cases e:k=g
  ·subst e;rw [if_pos rfl];rcases hat with h | h
   ·exact (T.hl.2 k h).symm
   ·omega
  ·rw [if_neg e]
 refine ⟨⟨{ L with hv:= .slice (some ⟨g,0,none⟩) (x.hl.length+1) cap },(B1.rho keep).set 29 _ rfl ⟨rfl,rfl,rfl,rfl⟩ ⟨rfl,rfl⟩,?_⟩,ext,?_⟩
 ·have keep2:MT (give ρ g 6) w1 { x with hl:=x.hl++[a] } { L with hv:= .slice (some ⟨g,0,none⟩) (x.hl.length+1) cap }:=by
   have T':MT ρ w1 { x with hl:=[] } { L with hv:= .slice none 0 0 }:=⟨T.sup.fr kp (by decide),⟨OI.nil _ _,fun b hb=>by cases hb⟩,⟨kcz T.rw.1 kp (fun b hb e=>by rw [T.rw.2 b hb] at e;cases e),T.rw.2⟩,T.hp.imp id fun ⟨t,a,b⟩=>⟨t,a,b.fr kp (by decide)⟩,T.sets.imp id fun ⟨t,a,b⟩=>⟨t,a,b.fr kp (by decide)⟩,T.fx.imp id fun ⟨t,a,b⟩=>⟨t,a,b.fr kp (by decide)⟩,fun k hk=>Nat.lt_of_lt_of_le (T.lt k hk) kp.size⟩
   have T2:=T'.rho keep (fun k hk=>by
    unfold give at hk;by_cases e:k=g
    ·subst e;exact hlt
    ·rw [if_neg e] at hk;exact T'.lt k hk)
   refine ⟨T2.sup,⟨?_,fun b hb=>?_⟩,T2.rw,T2.hp,T2.sets,T2.fx,T2.lt⟩
   ·show w1.ownsRow 0 3 1 (.slice (some ⟨g,0,none⟩) (x.hl.length+1) cap) (x.hl++[a]).length (k2f (x.hl++[a]));have e1:(x.hl++[a]).length=x.hl.length+1:=by simp
    have e2:k2f (x.hl++[a])=k2f x.hl++[.int .i64 a]:=by unfold k2f;simp
    rw [e1,e2];exact hown
   ·have:b=g:=by have h:some g=some b:=hb;injection h with h;exact h.symm
    rw [this];exact v07 _ _ _
  exact keep2.fr (R:=fun r=>r=1) (Kp.of_set w1 _ _ (by show give ρ g 6 p=1;unfold give;rw [if_neg hpg];exact B.rp)) (fun r e=>by omega)
 ·have f1:Fr mine ρ w w1:=⟨kp.mono (fun r e=>⟨by omega,by omega⟩),by rw [hg.os];rfl,by rw [hg.tape];rfl,by rw [hg.output];rfl⟩
  exact f1.trans (Fr.set _ p 29 _ (by rw [B.rp];exact ⟨by decide,by decide⟩))
theorem xc4{P:Program}{ops:Array Oper}{o:Oper}{a:Go.Act}{w:World}{K:Go.Act->World->Prop}{Q:Exit->Go.Act->World->Prop}{E:Prop}(hg:o.guard=none)
  (f:FuncId) (args:Array Value) (hrun:(execOp a.eval o).run P w= .ok (.enter f args) w) {R:Ending->World->Prop}
  (hc:Calls P f args w R) (h:∀ e w',R e w'->∃ v,e= .returned v∧K (a.put o.dst v) w') :
  if Region.wanted o (yielded ops a.tmps)=true then Oper.wp P o a w K Q else E:=by
 have hw:Region.wanted o (yielded ops a.tmps)=true:=by simp [Region.wanted,hg]
 rw [if_pos hw];unfold Oper.wp;rw [hrun,Oper.upon_enter];refine hc.mono fun e w'' hh=>?_
 obtain ⟨v,rfl,hk⟩:=h e w'' hh;exact hk
theorem jh0{ρ:Nat->Nat}{w:World}{p:Nat}{x:MS}{L:Lo}(k:Nat)(B:MB ρ w p x L)(T:MT ρ w x L)(ok:Ok x)(hk:k<=x.count)(hc:x.count<=63) :
  Calls Tryz.prog 134 #[.pointer (some ⟨p,14,none⟩), .int .i64 k] w fun v w'=>v= .returned (.int .i64 (x.num k))∧MB ρ w' p (x.rd k) L∧MT ρ w' (x.rd k) L∧Fr (fun k=>1<=k∧k<=5) ρ w w':=by
 have c1:w.cell? ⟨p,14,none⟩=some (.int .u64 x.held):=B.row.cell (i:=14) (by omega);have c2:w.cell? ⟨p,14+1,none⟩=some (.int .i64 x.count):=B.row.cell (i:=15) (by omega);refine (zto p 14 x.held x.count k w hk hc ok.held c1 c2 (B.row.frozen 14) (B.row.frozen 15)).mono ?_;rintro v w' ⟨rfl,n,e⟩;refine ⟨rfl,?_⟩;have R:Bh ρ w p x x L w:=⟨B,T,Fr.refl _ _ _⟩
 rw [e];have D:=(((R.drewN n).set (z:={ x with held:=x.held / 2^k }) 14 (.int .u64 (x.held / 2^k:Nat)) rfl ⟨rfl,rfl⟩).set (z:=x.rd k) 15 (.int .i64 (x.count - k:Nat)) rfl ⟨rfl,rfl⟩)
 exact ⟨D.mb,D.mt.same rfl rfl rfl rfl ⟨rfl,rfl⟩,D.fr⟩
structure Lw(ρ:Nat->Nat)(w:World)(p:Nat)(y:MS)(R:MS×Nat)(w':World):Prop where
 ex:∃ ρ',Ext w.heap.size ρ ρ'∧MM ρ' w' p y
 fr:Fr mine ρ w w'
 ok:Ok y
 eq:MS.hlL (y.told - y.hl.length) y=R
 cnt:y.count<=40
 told:y.told<=15
 le:y.hl.length<=y.told
 hx:∀ b∈y.hl,0<=b∧b<8
theorem MS.hl_zero{y:MS}(h:¬ y.hl.length<y.told):MS.hlL (y.told - y.hl.length) y=y.helpersMade:=by rw [show y.told - y.hl.length=0 by omega];rfl
theorem MS.hl_succ{y:MS}{n:Nat}(h:y.told - y.hl.length=n+1):MS.hlL (y.told - y.hl.length) y=if (MS.need 3 y).2=0 then MS.hlL n { (MS.need 3 y).1.rd 3 with hl:=(MS.need 3 y).1.hl++[((MS.need 3 y).1.num 3:Int)] } else MS.need 3 y:=by rw [h];rfl
def xda(w:World)(p:Nat):Nat:=match w.cell? ⟨p,29,none⟩ with | some (.slice _ n _)=>n | _=>0
theorem x45{w:World}{p:Nat}{ad:Option Addr}{n cap:Nat}(h:w.cell? ⟨p,29,none⟩=some (.slice ad n cap)):xda w p=n:=by unfold xda;rw [h]
theorem ylo{ρ:Nat->Nat}{w:World}{p:Nat}{x:MS}(h:MM ρ w p x)(ok:Ok x)(hc:x.count<=40)(hO:OrdP w)(hG:ρ 0=0)(ht:x.told<=15)(hle:x.hl.length<=x.told)(hx:∀ b∈x.hl,0<=b∧b<8)(hst:x.st=13) :
  Calls Tryz.prog 103 #[.pointer (some ⟨p,0,none⟩)] w fun v w'=>xxu ρ w p x.o13 v w':=by
 obtain ⟨R,hR⟩:∃ R,R=MS.hlL (x.told - x.hl.length) x:=⟨_,rfl⟩
 have H0:Hid (∃ y,Lw ρ w p y R w):=⟨x,⟨ρ,Ext.refl _ _,h⟩,Fr.refl _ _ _,ok,hR.symm,hc,ht,hle,hx⟩
 have HF:Hid (x.o13=R):=by show x.o13=R;rw [hR];rfl
 have HOG:Hid (OrdP w∧ρ 0=0):=⟨hO,hG⟩
 have c7:=h.cell7.1;rw [hst] at c7;clear h ok hst hR hc ht hle hx hO hG;go_enter Tryz.func103,Tryz.ntmps103
 go_wp2_with fail
 go_loopw [] (fun wr=>Hid (∃ y,Lw ρ w p y R wr)) (fun wr=>15 - xda wr p)
 case atStart=>exact H0
 case round=>
  clear H0;obtain ⟨y,Y⟩:=hrel.out;obtain ⟨ρ',ex,mm⟩:=Y.ex;obtain ⟨ad,cap,c29,_⟩:=mm.hlA;have e29:=x45 c29;have c28:=mm.own.2.2.1;have htl:=Y.told;have hle:=Y.le;have hcn:=Y.cnt;have HY:Hid (Lw ρ w p y R wr∧MM ρ' wr p y∧Ext w.heap.size ρ ρ'):=⟨Y,mm,ex⟩
  clear Y hrel mm ex;by_cases hlt:y.hl.length<y.told
  ·obtain ⟨n,hn⟩:∃ n,y.told - y.hl.length=n+1:=⟨y.told - y.hl.length - 1,by omega⟩
   have HS:Hid (R=if (MS.need 3 y).2=0 then MS.hlL n { (MS.need 3 y).1.rd 3 with hl:=(MS.need 3 y).1.hl++[((MS.need 3 y).1.num 3:Int)] } else MS.need 3 y):=by show R=_;rw [← HY.out.1.eq,MS.hl_succ hn]
   have hlti:(y.hl.length:Int)<y.told:=by omega
   go_wp2_with fail
   go_quiet (fail)
   go_wp2_with fail
   refine (zvo 3 (HY.out.2.1.drewN _) HY.out.1.ok (by omega) (by omega)).mono ?_;rintro v w5 ⟨rfl,g1,g2⟩;by_cases h0:(MS.need 3 y).2=0
   ·have k1:=MS.need_cnt HY.out.1.ok h0;have k2:=MS.need_same HY.out.1.ok h0;have k3:=MS.need_ok (k:=3) HY.out.1.ok;rw [h0];rw [if_pos h0] at HS;obtain ⟨z,hzz⟩:∃ z,z=(MS.need 3 y).1:=⟨_,rfl⟩
    rw [← hzz] at g1 HS k1 k2 k3;have HZH:Hid (z.hl=y.hl):=by show z.hl=y.hl;rw [k2]
    have HZT:Hid (z.told=y.told):=by show z.told=y.told;rw [k2]
    have HZ:Hid (MM ρ' w5 p z∧Ok z∧Fr mine ρ w w5):=⟨g1,k3,(HY.out.1.fr.drewN _).ext g2.five_mine HY.out.2.2⟩
    clear g1 g2 hzz k2 k3 h0 c29 c28;have hbl:z.num 3<8:=Nat.mod_lt _ (by decide);obtain ⟨L5,B5,T5⟩:=HZ.out.1;have HRD:Hid (∀ n,Calls Tryz.prog 134 #[.pointer (some ⟨p,14,none⟩), .int .i64 (3:Nat)] (w5.drewN n) fun v w'=>v= .returned (.int .i64 (z.num 3))∧MB ρ' w' p (z.rd 3) L5∧MT ρ' w' (z.rd 3) L5∧Fr (fun k=>1<=k∧k<=5) ρ' (w5.drewN n) w'):=fun n=>jh0 3 (B5.drewN n) (T5.drewN n) HZ.out.2.1 k1.1 (by omega)
    obtain ⟨b,hb⟩:∃ b,b=z.num 3:=⟨_,rfl⟩
    rw [← hb] at HS HRD hbl;clear hb;have a29:w5.cell? ⟨p,29,none⟩=some L5.hv:=B5.row.cell (i:=29) (by omega);have hpo:L5.hv.ownBlock≠some p:=fun e=>by
     have a1:=T5.hl.2 p e;have a2:=B5.rp;omega
    obtain ⟨lv,hlv⟩:∃ lv,lv=L5.hv:=⟨_,rfl⟩
    have HLV:Hid (lv=L5.hv):=hlv;have HHV:Hid (∀ w',MT ρ' w' (z.rd 3) L5->w'.ownsRow 0 3 1 lv z.hl.length (k2f z.hl)):=fun w' t=>by rw [hlv];exact t.hl.1
    have hzl:z.hl.length<=15:=by rw [HZH.out];omega
    have hcz:=k1;rw [← hlv] at a29 hpo;clear B5 T5 hlv;obtain ⟨i3,hi3,hy0,hy1,hy2⟩:=info_parts ve2;go_wp2_with fail
    go_region_law
     ((first
      | (refine xc4 rfl 134 #[.pointer (some ⟨p,14,none⟩), .int .i64 (3:Nat)] (by kernel_rfl) (HRD.out 1) ?_;rintro e w2 ⟨rfl,B2,T2,g2⟩;refine ⟨_,rfl,?_⟩;have HB2:Hid (MB ρ' w2 p (z.rd 3) L5∧MT ρ' w2 (z.rd 3) L5∧Fr mine ρ w w2):=⟨B2,T2,(HZ.out.2.2.drewN 1).ext g2.five_mine HY.out.2.2⟩;have d29:w2.cell? ⟨p,29,none⟩=some lv:=by { rw [HLV.out];exact B2.row.cell (i:=29) (by omega) };have y29:=B2.row.frozen 29;have hown2:=HHV.out w2 T2;have hpl2:=B2.row.lt;clear B2 T2 g2)
      | (refine step_append_lies _ (by rfl) _ _ _ (by rfl) 0 3 i3 _ 1 8 Tryz.underlying69 hi3 hy0 hy1 hy2 rfl (by omega) lv z.hl.length (k2f z.hl) (by rfl) (hown2.alloc _) ⟨w2.heap.size,0,none⟩ 1 1 [.int .i64 b] (by rfl) (by rfl) (cell_one_new w2 _ _) (by simp [Value.oneCell']) (by omega) (by unfold maxLen;omega) (by omega) (Nat.zero_le _) (w2.heap.size+1) (by simp) ?_;intro g3 p3 w3 hown3 hgrow3 hat3 hlt3;have d29':=x7a (a:=⟨p,29,none⟩) hgrow3 hpl2 hpo d29;have y29':=jk1 (a:=⟨p,29,none⟩) hgrow3 hpl2 hpo y29)))
    all_goals
     have G:=kp4 (g:=g3) (cap:=p3) (a:=(b:Int)) HB2.out.1 HB2.out.2.1 hown3 (by rw [← HLV.out];exact hgrow3) (by rw [← HLV.out];exact hat3) hlt3;have HN:Hid (∃ y,Lw ρ w p y R (w3.setCell ⟨p,29,none⟩ (.slice (some ⟨g3,0,none⟩) (z.hl.length+1) p3))):=by
      refine ⟨{ z.rd 3 with hl:=z.hl++[(b:Int)] },⟨give ρ' g3 6,HY.out.2.2.trans G.2.1 HB2.out.2.2.kp.size,G.1⟩,HB2.out.2.2.ext G.2.2 HY.out.2.2,{ HZ.out.2.1.rd hcz.1 with },?_,?_,?_,?_,?_⟩
      ·have e:({ z.rd 3 with hl:=z.hl++[(b:Int)] }:MS).told - ({ z.rd 3 with hl:=z.hl++[(b:Int)] }:MS).hl.length=n:=by
        show z.told - (z.hl++[(b:Int)]).length=n;rw [HZT.out,HZH.out];simp;omega
       rw [e];exact HS.out.symm
      ·show z.count - 3<=40;omega
      ·show z.told<=15;rw [HZT.out];exact htl
      ·show (z.hl++[(b:Int)]).length<=z.told;rw [HZT.out,HZH.out];simp;omega
      ·intro q hq;have hq':q∈z.hl++[(b:Int)]:=hq;rcases List.mem_append.1 hq' with hq' | hq'
       ·rw [HZH.out] at hq';exact HY.out.1.hx q hq'
       ·simp at hq';omega
     have eN:xda (w3.setCell ⟨p,29,none⟩ (.slice (some ⟨g3,0,none⟩) (z.hl.length+1) p3)) p=z.hl.length+1:=by
      obtain ⟨ad',cap',c',_⟩:=G.1.hlA;exact (x45 c').trans (by show (z.hl++[(b:Int)]).length=_;simp)
     clear G hown3 hgrow3 hat3 hlt3;go_wp2_with fail
     go_roundw
     case rel=>exact HN
     case measure=>rw [e29,eN,HZH.out];omega
   ·rw [if_neg h0] at HS;obtain ⟨t,ht⟩:∃ t,t=(MS.need 3 y).2:=⟨_,rfl⟩
    have HR:Hid (ym0 ρ w p (MS.need 3 y).1 w5∧(MS.need 3 y).2=t):=⟨⟨⟨ρ',HY.out.2.2,g1⟩,(HY.out.1.fr.drewN _).ext g2.five_mine HY.out.2.2⟩,ht.symm⟩
    rw [← ht] at h0 ⊢;have h0':((t:Int)==0)=false:=by simp;exact h0
    clear g1 g2 ht;go_wp2_with fail
    go_ret
    unfold xxu;rw [HF.out,HS.out,HR.out.2];exact ⟨rfl,HR.out.1⟩
  ·have hlti:¬ (y.hl.length:Int)<y.told:=by omega
   have HS:Hid (R=if jwa gw (hset y.hl)=2048 then ({ y with hs:=hset y.hl,st:=14 },0) else y.refuse 10):=by show R=_;rw [← HY.out.1.eq,MS.hl_zero hlt];rfl
   have HMH:Hid (∀ n,Calls Tryz.prog 139 #[.pointer (some ⟨p,26,none⟩)] (wr.drewN n) fun v w'=>kee ρ' (wr.drewN n) p y v w'):=fun n=>kpx (HY.out.2.1.drewN n) (HOG.out.1.fr (HY.out.1.fr.drewN n) HOG.out.2) HY.out.1.hx (by omega)
   go_wp2_with fail
   go_quiet (fail)
   go_wp2_with fail
   refine (HMH.out _).mono ?_;rintro v w5 HE5;unfold kee at HE5;by_cases hS:jwa gw (hset y.hl)=2048
   ·rw [if_pos hS] at HE5 HS;obtain ⟨rfl,AF⟩:=HE5;have AW:=ym0.next HY.out.2.2 (HY.out.1.fr.drewN _) AF;obtain ⟨ρ'',ex2,mm2⟩:=AW.ex;have k7:=mm2.cell7.1;have z7:=mm2.cell7.2;have HA:Hid (ym0 ρ w p { y with hs:=hset y.hl,st:=14 } (w5.setCell ⟨p,7,none⟩ (.int .i64 14))):=⟨⟨ρ'',ex2,(mm2.st 14).1⟩,AW.fr.ext (mm2.st 14).2.five_mine ex2⟩
    clear AF AW ex2 mm2;go_wp2_with fail
    go_ret
    unfold xxu;rw [HF.out,HS.out];exact ⟨rfl,HA.out⟩
   ·rw [if_neg hS] at HE5 HS;obtain ⟨rfl,AF⟩:=HE5;have AW:=ym0.next HY.out.2.2 (HY.out.1.fr.drewN _) AF;obtain ⟨ρ'',ex2,mm2⟩:=AW.ex;have HA:Hid (MM ρ'' w5 p y∧Ext w.heap.size ρ ρ''∧Fr mine ρ w w5):=⟨mm2,ex2,AW.fr⟩
    clear AF AW ex2 mm2;go_wp2_with fail
    refine (kv8 10 HA.out.1).mono ?_;rintro v w6 ⟨rfl,g3,g4⟩;have HR2:Hid (ym0 ρ w p (y.refuse 10).1 w6):=⟨⟨ρ'',HA.out.2.1,g3⟩,HA.out.2.2.ext g4.five_mine HA.out.2.1⟩
    clear g3 g4;go_wp2_with fail
    go_ret
    unfold xxu;rw [HF.out,HS.out];exact ⟨rfl,HR2.out⟩
end Go.Proofs.YtbcjmakpempkiaaGreatDoor
