import Derived.Test.YtbcjmakpempkiaaGreatDoorX08
set_option maxRecDepth 100000
set_option maxHeartbeats 8000000
set_option linter.all false
namespace Go.Proofs.YtbcjmakpempkiaaGreatDoor
open Go.RowKit
def zn4:Array Value:=#[.int .i64 13, .int .i64 14, .int .i64 12, .int .i64 0, .int .i64 7, .int .i64 8, .int .i64 6, .int .i64 9, .int .i64 5, .int .i64 10, .int .i64 4, .int .i64 11, .int .i64 3, .int .i64 2, .int .i64 1]
def y4t(w:World)(B:Nat):Prop:=1<B∧∃ fr,w.heap[1]?=some (.cells zn4 245 fr)
theorem y4t.below{w w':World}{B:Nat}(h:y4t w B)(hb:Below B w w'):y4t w' B:=by
 obtain ⟨h0,fr,h1⟩:=h;exact ⟨h0,fr,(hb.block 1 h0).trans h1⟩
theorem vr5{k:Nat}(h:k<15):zn4[k]?=some (.int .i64 ((Tr.order.getD k 0:Nat):Int))∧Tr.order.getD k 0<15:=by
 have:k=0∨k=1∨k=2∨k=3∨k=4∨k=5∨k=6∨k=7∨k=8∨k=9∨k=10∨k=11∨k=12∨k=13∨k=14:=by omega
 rcases this with rfl | rfl | rfl | rfl | rfl | rfl | rfl | rfl | rfl | rfl | rfl | rfl | rfl | rfl | rfl <;> exact ⟨rfl,by decide⟩
theorem y4t.cell{w:World}{B:Nat}(h:y4t w B){k:Nat}(hk:k<15):w.cell? ⟨1,k,none⟩=some (.int .i64 ((Tr.order.getD k 0:Nat):Int)):=by
 obtain ⟨_,fr,h1⟩:=h;rw [cell_of_row _ _ k _ _ _ h1];exact (vr5 hk).1
structure vn5(B p:Nat)(vo va vs:Value)(W:World)(gh m:Nat)(t0:Tr)(fin:List Int×Tr)(wr:World)(k:Nat)(L:List Int)(t1:Tr):Prop where
 go:Tr.helps (m - k) k L t1=fin
 len:L.length=15
 rng:inRange L=true
 row:wr.rowIs gh 3 15 (fun j=> .int .i64 (L.getD j 0))
 kept:Kept B p vo va vs t1 W wr
 fine:t1.Fine
 s:t1.s=t0.s
 few:t1.ended=false->m<=15
theorem Tr.helps_go{r i:Nat}{L:List Int}{t:Tr}(h:t.ended=false):Tr.helps (r+1) i L t=Tr.helps r (i+1) (L.set (Tr.order.getD i 0) (t.number 3).1) (t.number 3).2:=by rw [Tr.helps,if_neg (by rw [h];simp)]
theorem Tr.helps_ended{r i:Nat}{L:List Int}{t:Tr}(h:t.ended=true):Tr.helps r i L t=(L,t):=by
 cases r with
 | zero=>rfl
 | succ r=>rw [Tr.helps,if_pos h]
theorem Tr.fwd_helps(r:Nat):∀ (i:Nat) (L:List Int) (t:Tr),Tr.Fwd t (Tr.helps r i L t).2:=by
 induction r with
 | zero=>intro i L t;exact Tr.Fwd.refl t
 | succ r ih=>
  intro i L t;unfold Tr.helps;split
  ·exact Tr.Fwd.refl t
  ·exact (Tr.fwd_number t 3).trans (ih _ _ _)
theorem vtb{L:List Int}(h:inRange L=true){i x:Nat}(hx:x<=11):inRange (L.set i (x:Int))=true:=by
 unfold inRange at *;rw [List.all_eq_true] at *;intro y hy;rcases List.mem_or_eq_of_mem_set hy with hy | rfl
 ·exact h y hy
 ·simp [yuc];omega
theorem vn5.next{B p:Nat}{vo va vs:Value}{W:World}{gh m:Nat}{t0 ti:Tr}{fin:List Int×Tr}{wr w3:World}{k:Nat}{L:List Int}{t1:Tr}(h:vn5 B p vo va vs W gh m t0 fin wr k L t1)(h0:TrI B p vo va vs ti W)(hg:W.heap.size<=gh)(he:t1.ended=false)(hk:k<m)(q3:Kept B p vo va vs (t1.number 3).2 wr w3) :
  vn5 B p vo va vs W gh m t0 fin (w3.setCell ⟨gh,Tr.order.getD k 0,none⟩ (.int .i64 (t1.number 3).1)) (k+1) (L.set (Tr.order.getD k 0) (t1.number 3).1) (t1.number 3).2:=by
 have hp:=h0.row.lt;have hlt:(t1.number 3).1<8:=Tr.number_lt t1 3;refine ⟨?_,by rw [List.length_set];exact h.len,vtb h.rng (by omega),?_,?_,h.fine.number 3,(Tr.fwd_number t1 3).s.trans h.s,fun _=>h.few he⟩
 ·rw [← h.go,show m - k=(m - (k+1))+1 by omega,Tr.helps_go he]
 ·have r3:w3.rowIs gh 3 15 (fun j=> .int .i64 (L.getD j 0)):=h.row.of_block (q3.kp.block gh h.row.lt (by show gh≠p;omega));refine (r3.set (Tr.order.getD k 0) _).congr fun i hi=>?_
  have hl:=h.len;generalize Tr.order.getD k 0=o at *;by_cases e:i=o
  ·subst e;rw [if_pos rfl,List.getD_eq_getElem?_getD,List.getElem?_set,if_pos rfl,if_pos (by omega)];rfl
  ·rw [if_neg e,List.getD_eq_getElem?_getD,List.getD_eq_getElem?_getD,List.getElem?_set,if_neg (fun x=>e x.symm)]
 ·exact (h.kept.trans q3).low h0 ((Below.refl _ _).setCell hg _)
def yhi:Array Value:=#[.slice none 0 0, .slice none 0 0, .int .i64 0, .bool false]
theorem rowZ{w:World}{g:Nat}(h:w.heap[g]?=some (.cells yhi 273 (0,0))) :
  (w.cell? ⟨g,0,none⟩=some (.slice none 0 0)∧w.cell? ⟨g,1,none⟩=some (.slice none 0 0)∧w.cell? ⟨g,2,none⟩=some (.int .i64 0)∧w.cell? ⟨g,3,none⟩=some (.bool false))∧
  (w.frozen? ⟨g,0,none⟩=false∧w.frozen? ⟨g,1,none⟩=false∧w.frozen? ⟨g,2,none⟩=false∧w.frozen? ⟨g,3,none⟩=false):=by
 have k:=fun j=>cell_of_row w g j _ _ _ h
 refine ⟨⟨k 0,k 1,k 2,k 3⟩,?_,?_,?_,?_⟩ <;> simp [World.frozen?,h]
theorem xin.lt{w:World}{ad:Option Addr}{l:List Int}(h:xin w ad l)(hl:0<l.length):∀ b o f,ad=some ⟨b,o,f⟩->b<w.heap.size:=fun b o f e=>by
 obtain ⟨b',o',e',hlt,_⟩:=h 0 hl;rw [e] at e';simp only [Option.some.injEq,Addr.mk.injEq] at e';omega
theorem Lies.new{B p:Nat}{vo va vs:Value}{t:Tr}{w W:World}{ad:Option Addr}(h:TrI B p vo va vs t w)(hn:v3o w.heap.size ad)(hl:∀ b o f,ad=some ⟨b,o,f⟩->b<W.heap.size):Lies W p vo va ad:=fun b o f e=>by
 have h1:=hn b o f e;refine ⟨hl b o f e,by have:=h.row.lt;omega,fun e=>by have:=(h.out.lt _ e).2;omega,fun e=>by have:=(h.ats.lt _ e).2;omega⟩
theorem zg6{B p:Nat}{vo va vs:Value}{t:Tr}(w:World)(h:TrI B p vo va vs t w)(hf:t.Fine)(hs:t.s.size<=maxLen)(hO:y4t w B) :
  Calls Tryz.prog 202 #[.pointer (some ⟨p,0,none⟩)] w fun x w'=>∃ a1 a2 b1 b2 k1 k2 l1 l2,x= .returned (.tuple #[.agg (setC t.own.1 a1 k1 a2 k2), .agg (setC t.own.2.1 b1 l1 b2 l2)])∧Kept B p vo va vs t.own.2.2 w w'∧SetA w' p vo va t.own.1 a1 a2∧SetA w' p vo va t.own.2.1 b1 b2∧t.own.1.l.length<=269∧t.own.2.1.l.length<=16:=by
 obtain ⟨W0,hW0⟩:∃ W0,W0=((w.alloc (.cells yhi 273)).alloc (.cells yhi 273)).alloc (.cells yhi 273):=⟨_,rfl⟩
 have B0:Below w.heap.size w W0:=by rw [hW0];exact (((Below.refl _ _).alloc (Nat.le_refl _) _).alloc (by simp) _).alloc (by simp;omega) _
 have hsz0:W0.heap.size=w.heap.size+3:=by rw [hW0];simp
 have HI0:Hid (TrI B p vo va vs t W0):=h.below B0;have HK0:Hid (Kept B p vo va vs t w W0):=(Kept.refl h).below B0;have HIw:Hid (TrI B p vo va vs t w):=h;have HO0:Hid (y4t W0 B):=hO.below (B0.mono h.hB);have hp0:p<w.heap.size:=h.row.lt;have HF:Hid (t.Fine∧t.s.size<=maxLen):=⟨hf,hs⟩
 have HG:Hid (W0.heap[w.heap.size]?=some (.cells yhi 273 (0,0))∧W0.heap[w.heap.size+1]?=some (.cells yhi 273 (0,0))∧W0.heap[w.heap.size+1+1]?=some (.cells yhi 273 (0,0))):=by
  show _∧_;rw [hW0];refine ⟨?_,?_,?_⟩
  ·rw [Below.heap_alloc _ _ _ (by simp;omega),Below.heap_alloc _ _ _ (by simp)];exact heap_alloc_new _ _
  ·rw [Below.heap_alloc _ _ _ (by simp)];have:=heap_alloc_new (w.alloc (.cells yhi 273)) (.cells yhi 273);simpa using this
  ·have:=heap_alloc_new ((w.alloc (.cells yhi 273)).alloc (.cells yhi 273)) (.cells yhi 273);simpa using this
 clear h hf hs hO B0;go_enter Tryz.func202,Tryz.ntmps202
 go_upto_region 3 with fail
 change Calls Tryz.prog _ _ (((w.alloc (.cells yhi 273)).alloc (.cells yhi 273)).alloc (.cells yhi 273)) _
 rw [← hW0];clear hW0;refine (zu8 4 W0 HI0.out HF.out.1 HF.out.2 (by omega)).mono ?_;rintro e w1 ⟨rfl,q1⟩;have HQ1:Hid (Kept B p vo va vs (t.number 4).2 W0 w1):=q1;have ha16:(t.number 4).1<16:=Tr.number_lt t 4;clear q1;obtain ⟨T1,hT1⟩:∃ T1,T1=(if 12<(t.number 4).1 then (t.number 4).2.fail 10 else (t.number 4).2):=⟨_,rfl⟩
 have HT1:Hid (Tr.Fwd t T1∧T1.Fine∧(12<(t.number 4).1->T1.ended=true)):=by
  show _∧_;rw [hT1];split
  ·exact ⟨(Tr.fwd_number t 4).trans (Tr.fwd_fail _ (by decide)),(HF.out.1.number 4).fail (by decide),fun _=>Tr.ended_fail _ (by decide)⟩
  ·exact ⟨Tr.fwd_number t 4,HF.out.1.number 4,fun h=>by omega⟩
 have HTA:Hid (t.ownHead=((t.number 4).1,(T1.number 4).1,((T1.number 4).2.number 4).1,if 11<((T1.number 4).2.number 4).1 then ((T1.number 4).2.number 4).2.fail 10 else ((T1.number 4).2.number 4).2)):=by show _=_;rw [hT1];rfl
 obtain ⟨hlv,hhl⟩:∃ hlv,hlv=(t.number 4).1:=⟨_,rfl⟩
 rw [← hhl] at ha16 hT1 HT1 ⊢;have HHL:Hid (hlv=(t.number 4).1):=hhl;clear hhl;go_upto_if 20 with fail
 go_cut [5] (fun s5 wx=>s5= .int .i64 hlv∧Hid (Kept B p vo va vs T1 W0 wx))
 case first=>
  by_cases h12:12<hlv
  ·rw [if_pos h12] at hT1;have HT:Hid (T1=(t.number 4).2.fail 10):=hT1;clear hT1;go_wp2_with fail
   refine (j0n 10 _ HQ1.out.inv).mono ?_;rintro e w2 ⟨rfl,q2⟩;have HQ2:Hid (Kept B p vo va vs T1 W0 w2):=by show Kept _ _ _ _ _ _ _ _;rw [HT.out];exact HQ1.out.trans q2
   clear q2;go_wp2_with fail
   go_meet
   exact ⟨rfl,HQ2⟩
  ·rw [if_neg h12] at hT1;have HQ2:Hid (Kept B p vo va vs T1 W0 w1):=by show Kept _ _ _ _ _ _ _ _;rw [hT1];exact HQ1.out
   clear hT1;go_wp2_with fail
   go_meet
   exact ⟨rfl,HQ2⟩
 case rest=>
 obtain ⟨rfl,HQ2⟩:=hcut;clear HQ1 hT1;have HZ1:Hid (T1.s.size<=maxLen):=by show _<=_;rw [HT1.out.1.s];exact HF.out.2
 go_upto_region 6 with (go_at_call 198;refine (zu8 4 _ HQ2.out.inv HT1.out.2.1 HZ1.out (by omega)).mono ?_;rintro e w3 ⟨rfl,q3⟩;have HQ3:Hid (Kept B p vo va vs (T1.number 4).2 W0 w3):=HQ2.out.trans q3;clear q3)
 have HT2:Hid (Tr.Fwd t (T1.number 4).2∧(T1.number 4).2.Fine):=⟨HT1.out.1.trans (Tr.fwd_number _ _),HT1.out.2.1.number 4⟩
 have HZ2:Hid ((T1.number 4).2.s.size<=maxLen):=by show _<=_;rw [HT2.out.1.s];exact HF.out.2
 have hb16:(T1.number 4).1<16:=Tr.number_lt T1 4;have hc16:((T1.number 4).2.number 4).1<16:=Tr.number_lt (T1.number 4).2 4;go_upto_region 7 with (go_at_call 198;refine (zu8 4 _ HQ3.out.inv HT2.out.2 HZ2.out (by omega)).mono ?_;rintro e w4 ⟨rfl,q4⟩;have HQ4:Hid (Kept B p vo va vs ((T1.number 4).2.number 4).2 W0 w4):=HQ3.out.trans q4;clear q4)
 obtain ⟨T3,hT3⟩:∃ T3,T3=(if 11<((T1.number 4).2.number 4).1 then ((T1.number 4).2.number 4).2.fail 10 else ((T1.number 4).2.number 4).2):=⟨_,rfl⟩
 have HT3:Hid (Tr.Fwd t T3∧T3.Fine∧(T3.ended=false->((T1.number 4).2.number 4).1<=11)):=by
  show _∧_;rw [hT3];split
  ·exact ⟨(HT2.out.1.trans (Tr.fwd_number _ 4)).trans (Tr.fwd_fail _ (by decide)),(HT2.out.2.number 4).fail (by decide),fun h=>by rw [Tr.ended_fail _ (by decide)] at h;cases h⟩
  ·exact ⟨HT2.out.1.trans (Tr.fwd_number _ 4),HT2.out.2.number 4,fun _=>by omega⟩
 have HT12:Hid (T3.ended=false->hlv<=12):=fun h=>by
  have f:Tr.Fwd T1 T3:=by
   rw [hT3];split
   ·exact ((Tr.fwd_number T1 4).trans (Tr.fwd_number _ 4)).trans (Tr.fwd_fail _ (by decide))
   ·exact (Tr.fwd_number T1 4).trans (Tr.fwd_number _ 4)
  have h1:=f.of_ended h;by_cases h2:12<hlv
  ·rw [HT1.out.2.2 h2] at h1;cases h1
  ·omega
 have HTH:Hid (t.ownHead=(hlv,(T1.number 4).1,((T1.number 4).2.number 4).1,T3)):=by show _=_;rw [HTA.out,HHL.out,hT3]
 have HTN:Hid ((T1.number 4).2.s=t.s):=HT2.out.1.s;clear HTA HQ2 HQ3;generalize hX:(T1.number 4)=X at *;generalize hY:(X.2.number 4)=Y at *;clear hX;go_upto_if 28 with fail
 go_cut [7] (fun s7 wx=>s7= .int .i64 Y.1∧Hid (Kept B p vo va vs T3 W0 wx))
 case first=>
  by_cases h12:11<Y.1
  ·rw [if_pos h12] at hT3;have HT:Hid (T3=Y.2.fail 10):=hT3;clear hT3;go_wp2_with fail
   refine (j0n 10 _ HQ4.out.inv).mono ?_;rintro e w5 ⟨rfl,q5⟩;have HQ5:Hid (Kept B p vo va vs T3 W0 w5):=by show Kept _ _ _ _ _ _ _ _;rw [HT.out];exact HQ4.out.trans q5
   clear q5;go_wp2_with fail
   go_meet
   exact ⟨rfl,HQ5⟩
  ·rw [if_neg h12] at hT3;have HQ5:Hid (Kept B p vo va vs T3 W0 w4):=by show Kept _ _ _ _ _ _ _ _;rw [hT3];exact HQ4.out
   clear hT3;go_wp2_with fail
   go_meet
   exact ⟨rfl,HQ5⟩
 case rest=>
 obtain ⟨rfl,HQ5⟩:=hcut;clear HQ4 hT3 HT1 HT2 HZ1 HZ2 HTN;have hmk:∀ w:World,(Instr.makeSlice 69 (.int .i64 15) (.int .i64 15)).run Tryz.prog w= .ok (.slice (some ⟨w.heap.size,0,none⟩) 15 15) (w.alloc (.cells (madeCells #[.int .i64 0] 15) 3)):=run_make_row' (P:=Tryz.prog) 69 3 (.int .i64 0) 8 Tryz.underlying69 ve2 rfl .i64 .i64 15 (by omega) (by omega);have hszc:W0.heap.size<=wc.heap.size:=HQ5.out.kp.size;obtain ⟨gh,hgh⟩:∃ gh,gh=wc.heap.size:=⟨_,rfl⟩
 have HFN:Hid (∃ fin,fin=Tr.helps (4+Y.1) 0 (List.replicate 15 0) T3):=⟨_,rfl⟩
 obtain ⟨fin,hfin⟩:=HFN.out;have H0:Hid (vn5 B p vo va vs W0 gh (4+Y.1) t fin (wc.alloc (.cells (madeCells #[.int .i64 0] 15) 3)) 0 (List.replicate 15 0) T3):=by
  refine ⟨hfin.symm,by simp,by decide,?_,HQ5.out.below ((Below.refl _ _).alloc (Nat.le_refl _) _),HT3.out.2.1,HT3.out.1.s,fun h=>by have:=HT3.out.2.2 h;omega⟩;rw [hgh];refine (World.rowIs_made wc (.int .i64 0) 15 3).congr fun i hi=>?_
  rw [List.getD_eq_getElem?_getD,List.getElem?_replicate,if_pos hi];rfl
 have hgl:W0.heap.size<=gh:=by omega
 have HFI:Hid (fin=Tr.helps (4+Y.1) 0 (List.replicate 15 0) T3):=hfin;have HOB:Hid (∀ wr t1,Kept B p vo va vs t1 W0 wr->y4t wr B):=fun wr t1 k=>HO0.out.below k.bel
 have hB0:1<B:=HO0.out.1;have hpB:B<=p:=HI0.out.pB;clear HFN hfin;go_upto_block 0 with fail
 rw [← hgh];clear hgh;go_cut [9] (fun _ wx=>∃ (k:Nat) (L:List Int) (t1:Tr),Hid (vn5 B p vo va vs W0 gh (4+Y.1) t fin wx k L t1∧(L,t1)=fin))
 case first=>
  go_wp2_with fail
  go_loopw [9] (fun i wr=>∃ (k:Nat) (L:List Int) (t1:Tr),k<=4+Y.1∧i= .int .i64 k∧Hid (vn5 B p vo va vs W0 gh (4+Y.1) t fin wr k L t1)) (fun i _=>4+Y.1 - (intOf i).toNat)
  case atStart=>exact ⟨0,_,T3,Nat.zero_le _,rfl,H0⟩
  case round=>
   obtain ⟨k,L,t1,hk,rfl,HH⟩:=hrel;clear H0 HQ5;by_cases hlt:k<4+Y.1
   ·cases he:t1.ended
    ·have HE:Hid (t1.ended=false):=he;clear he;have hk15:k<15:=by have:=HH.out.few HE.out;omega
     have ho:=(vr5 hk15).2;have HZ4:Hid (t1.s.size<=maxLen):=by show _<=_;rw [HH.out.s];exact HF.out.2
     have co:wr.cell? ⟨1,k,none⟩=some (.int .i64 ((Tr.order.getD k 0:Nat):Int)):=(HOB.out wr t1 HH.out.kept).cell hk15;have HCO:Hid (∀ w3,Kept B p vo va vs (t1.number 3).2 wr w3->w3.cell? ⟨1,k,none⟩=some (.int .i64 ((Tr.order.getD k 0:Nat):Int))):=fun w3 q=>(HOB.out w3 _ (HH.out.kept.trans q)).cell hk15
     have HN:Hid (∀ w3,Kept B p vo va vs (t1.number 3).2 wr w3->vn5 B p vo va vs W0 gh (4+Y.1) t fin (w3.setCell ⟨gh,Tr.order.getD k 0,none⟩ (.int .i64 (t1.number 3).1)) (k+1) (L.set (Tr.order.getD k 0) (t1.number 3).1) (t1.number 3).2):=fun w3 q=>HH.out.next HI0.out hgl HE.out hlt q
     have HRW:Hid (∀ w3,Kept B p vo va vs (t1.number 3).2 wr w3->w3.rowIs gh 3 15 (fun j=> .int .i64 (L.getD j 0))):=fun w3 q=>HH.out.row.of_block (q.kp.block gh HH.out.row.lt (by show gh≠p;omega))
     generalize Tr.order.getD k 0=o at *;have hoi:(o:Int)<15:=by omega
     have hki:(k:Int)<15:=by omega
     go_wp2_with (go_at_call 182;refine (ywm _ HH.out.kept.inv).mono ?_;rw [HE.out];rintro e w' ⟨rfl,rfl⟩)
     go_region_with (go_at_call 198;refine (zu8 3 _ (HH.out.kept.inv.drewN 1) HH.out.fine HZ4.out (by omega)).mono ?_;rintro e w3 ⟨rfl,q3⟩;have HQK:Hid (Kept B p vo va vs (t1.number 3).2 wr w3):=((Kept.refl HH.out.kept.inv).drewN 1).trans q3;have co3:=HCO.out w3 HQK.out;have rw3:=(HRW.out w3 HQK.out).cell (i:=o) (by omega);have fz3:=(HRW.out w3 HQK.out).frozen o;clear q3)
     all_goals
      have HI8:Hid (vn5 B p vo va vs W0 gh (4+Y.1) t fin (w3.setCell ⟨gh,o,none⟩ (.int .i64 (t1.number 3).1)) (k+1) (L.set o (t1.number 3).1) (t1.number 3).2):=HN.out w3 HQK.out;go_wp2_with fail
      go_roundw
      case rel=>exact ⟨k+1,_,_,by omega,by go_num,HI8⟩
      case measure=>simp [intOf];omega
    ·have HE:Hid (t1.ended=true):=he;clear he;go_wp2_with (go_at_call 182;refine (ywm _ HH.out.kept.inv).mono ?_;rw [HE.out];rintro e w' ⟨rfl,rfl⟩)
     go_meet
     exact ⟨k,L,t1,HH.out,by rw [← HH.out.go,Tr.helps_ended HE.out]⟩
   ·obtain rfl:k=4+Y.1:=by omega
    go_wp2_with fail
    go_meet
    exact ⟨_,L,t1,HH.out,by rw [← HH.out.go,Nat.sub_self];rfl⟩
 case rest=>
 obtain ⟨k4,L,T4,HH4⟩:=hcut;clear H0 HQ5 hmk hszc;have HL15:Hid (L.length=15):=HH4.out.1.len;have HH4e:Hid ((L,T4)=fin):=HH4.out.2;have HCL:Hid (xin wc (some ⟨gh,0,none⟩) L):=fun k hk=>⟨gh,0,rfl,HH4.out.1.row.lt,by rw [Nat.zero_add];exact HH4.out.1.row.cell (by have:=HL15.out;omega)⟩
 obtain ⟨T5,hT5⟩:∃ T5,T5=(if jwa gw L=2048 then T4 else T4.fail 10):=⟨_,rfl⟩
 have HOH:Hid (t.ownHelp=(L,T5)):=by
  show t.ownHelp=_;have e:(Tr.helps (4+t.ownHead.2.2.1) 0 (List.replicate 15 0) t.ownHead.2.2.2)=(L,T4):=by rw [HTH.out,HH4.out.2];exact HFI.out.symm
  unfold Tr.ownHelp;simp only;rw [e,hT5]
 have HT5:Hid (Tr.Fwd T4 T5∧T5.Fine∧(T5.ended=false->jwa gw L=2048)):=by
  show _∧_;rw [hT5];split
  ·exact ⟨Tr.Fwd.refl _,HH4.out.1.fine,fun _=>by assumption⟩
  ·exact ⟨Tr.fwd_fail _ (by decide),HH4.out.1.fine.fail (by decide),fun h=>by rw [Tr.ended_fail _ (by decide)] at h;cases h⟩
 have HK4:Hid (Kept B p vo va vs T4 W0 wc):=HH4.out.1.kept;have hcomp:=yx0 (some ⟨gh,0,none⟩) 15 L wc (by have:=HL15.out;omega) HCL.out HH4.out.1.rng;rw [HL15.out] at hcomp;have HCP:Hid (Calls Tryz.prog 118 #[.slice (some ⟨gh,0,none⟩) 15 15] wc fun e w'=>e= .returned (.bool (jwa gw L==2048))∧wc=w'):=hcomp;clear hcomp;go_upto_if 53 with (go_at_call 118;refine HCP.out.mono ?_;rintro e w' ⟨rfl,rfl⟩)
 obtain ⟨wq,hwq⟩:∃ wq,wq=wc:=⟨_,rfl⟩
 rw [← hwq] at HK4 HCL;have HHR:Hid (wq.rowIs gh 3 15 (fun j=> .int .i64 (L.getD j 0))∧inRange L=true∧T4.s=t.s):=by show _∧_;rw [hwq];exact ⟨HH4.out.1.row,HH4.out.1.rng,HH4.out.1.s⟩
 rw [← hwq];clear hwq HH4 HCP;go_cut [8,10,51,52,53] (fun s8 _ _ _ _ wx=>s8= .slice (some ⟨gh,0,none⟩) 15 15∧Hid (Kept B p vo va vs T5 wq wx))
 case first=>
  cases hcB:(jwa gw L==2048)
  ·have hc:jwa gw L≠2048:=by simpa using hcB
   rw [if_neg hc] at hT5;have HT:Hid (T5=T4.fail 10):=hT5;clear hT5 hc hcB;go_wp2_with fail
   refine (j0n 10 _ HK4.out.inv).mono ?_;rintro e w5 ⟨rfl,q5⟩;have HQ5:Hid (Kept B p vo va vs T5 wq w5):=by show Kept _ _ _ _ _ _ _ _;rw [HT.out];exact q5
   clear q5;go_wp2_with fail
   go_meet
   exact ⟨rfl,HQ5⟩
  ·have hc:jwa gw L=2048:=by simpa using hcB
   rw [if_pos hc] at hT5;have HQ5:Hid (Kept B p vo va vs T5 wq wq):=by show Kept _ _ _ _ _ _ _ _;rw [hT5];exact Kept.refl HK4.out.inv
   clear hT5 hc hcB;go_wp2_with fail
   go_meet
   exact ⟨rfl,HQ5⟩
 case rest=>
 obtain ⟨rfl,HK5⟩:=hcut;clear hT5;have HK6:Hid (Kept B p vo va vs T5 W0 wc):=HK4.out.trans HK5.out;have HCL5:Hid (xin wc (some ⟨gh,0,none⟩) L):=HCL.out.sole HK5.out.kp (fun b o f e=>by simp only [Option.some.injEq,Addr.mk.injEq] at e;omega);have HG5:Hid (wc.heap[w.heap.size]?=some (.cells yhi 273 (0,0))∧wc.heap[w.heap.size+1]?=some (.cells yhi 273 (0,0))∧wc.heap[w.heap.size+1+1]?=some (.cells yhi 273 (0,0))):=⟨(HK6.out.kp.block _ (by omega) (by show w.heap.size≠p;omega)).trans HG.out.1,(HK6.out.kp.block _ (by omega) (by show w.heap.size+1≠p;omega)).trans HG.out.2.1,(HK6.out.kp.block _ (by omega) (by show w.heap.size+2≠p;omega)).trans HG.out.2.2⟩
 clear HK4 HK5 HCL;cases he:T5.ended
 ·have HE:Hid (T5.ended=false):=he;clear he;have HCM:Hid (jwa gw L=2048):=HT5.out.2.2 HE.out;have hset:=yww (some ⟨gh,0,none⟩) 15 L wc (by have:=HL15.out;omega) HCL5.out HHR.out.2.1;rw [HL15.out] at hset;have HSET:Hid (Calls Tryz.prog 213 #[.slice (some ⟨gh,0,none⟩) 15 15] wc fun e w'=>∃ ad' cap',e= .returned (.agg (setC (rset L) (some ⟨gh,0,none⟩) 15 ad' cap'))∧SetI w' (rset L) (some ⟨gh,0,none⟩) ad'∧v3o wc.heap.size ad'∧Below wc.heap.size wc w'):=hset;clear hset;go_upto_region 19 with (go_at_call 182;refine (ywm _ HK6.out.inv).mono ?_;rw [HE.out];rintro e w' ⟨rfl,rfl⟩)
  go_upto_region 20 with (go_at_call 213;refine HSET.out.mono ?_;rintro e w6 ⟨ad',cap',rfl,hS6,hN6,hb6⟩)
  have hl12:hlv<=12:=by
   have h4:=HT5.out.1.of_ended HE.out;have f:Tr.Fwd T3 T4:=by
    have f:=Tr.fwd_helps (4+Y.1) 0 (List.replicate 15 0) T3;rw [← HFI.out,← HH4e.out] at f;exact f
   exact HT12.out (f.of_ended h4)
  obtain ⟨nn,hnn⟩:∃ nn,nn=257+hlv+1+X.1:=⟨_,rfl⟩
  rw [show (257+(hlv:Int)+1+X.1)=(nn:Int) by omega];have HK7:Hid (Kept B p vo va vs T5 W0 w6):=HK6.out.below hb6;have hpgh:p<gh:=by omega
  have hszw:W0.heap.size<=wc.heap.size:=HK6.out.kp.size;have HOf:Hid (Off p (some ⟨gh,0,none⟩)∧Off p ad'):=⟨fun b o f e=>by simp only [Option.some.injEq,Addr.mk.injEq] at e;omega,fun b o f e=>by have:=hN6 b o f e;omega⟩
  have HS5:Hid (T5.s.size<=maxLen):=by show _<=_;rw [HT5.out.1.s,HHR.out.2.2];exact HF.out.2
  have HS6:Hid (SetI w6 (rset L) (some ⟨gh,0,none⟩) ad'):=hS6;clear hb6 hN6 hS6;refine (jpk (rset L) (some ⟨gh,0,none⟩) ad' 15 cap' nn w6 HK7.out.inv HT5.out.2.1 HS5.out HS6.out HOf.out.1 HOf.out.2 HL15.out (by omega) HHR.out.2.1 HCM.out (xze HCM.out)).mono ?_;rintro e w7 ⟨v,rfl,hv7,q7,hl7,hr7⟩;have HOR:Hid (t.ownRow=Tr.row (rset L) nn [] T5):=by
   show _=_;unfold Tr.ownRow;rw [HOH.out,HTH.out,hnn]
  have HRF:Hid (Tr.Fwd T5 (Tr.row (rset L) nn [] T5).2∧(Tr.row (rset L) nn [] T5).2.Fine∧((Tr.row (rset L) nn [] T5).2.ended=false->(Tr.row (rset L) nn [] T5).1.length=nn)):=by
   obtain ⟨a,b,c⟩:=Tr.row_facts (H:=rset L) (n:=nn) T5.mu [] T5 (Nat.le_refl _);exact ⟨a,b HT5.out.2.1,fun h=>c h (Nat.zero_le _)⟩
  generalize Tr.row (rset L) nn [] T5=R at *;have HK8:Hid (Kept B p vo va vs R.2 W0 w7):=HK7.out.trans q7;have HV7:Hid (w7.ownsRow w6.heap.size 3 1 v R.1.length (k2f R.1)∧inRange R.1=true):=⟨hv7,hr7⟩
  have HG7:Hid (w7.heap[w.heap.size]?=some (.cells yhi 273 (0,0))∧w7.heap[w.heap.size+1]?=some (.cells yhi 273 (0,0))∧w7.heap[w.heap.size+1+1]?=some (.cells yhi 273 (0,0))):=⟨(HK8.out.kp.block _ (by omega) (by show w.heap.size≠p;omega)).trans HG.out.1,(HK8.out.kp.block _ (by omega) (by show w.heap.size+1≠p;omega)).trans HG.out.2.1,(HK8.out.kp.block _ (by omega) (by show w.heap.size+2≠p;omega)).trans HG.out.2.2⟩
  have hsz6:w.heap.size+3<=w6.heap.size:=by have:=HK7.out.kp.size;omega
  clear hv7 hr7 q7 HK7 HSET HS6 HOf HG5 HCL5;cases he:R.2.ended
  ·have HER:Hid (R.2.ended=false):=he;clear he;have hRl:R.1.length=nn:=HRF.out.2.2 HER.out;obtain ⟨g,cp,hv,hgB,hgl⟩:=HV7.out.1.form (by omega);have hown:=HV7.out.1;rw [hv,hRl] at hown;have hcp:nn<=cp:=by
    rcases hown.2 with ⟨e,_⟩ | ⟨g',c',_,e,_,_,hc,_⟩
    ·cases e
    ·cases e;exact hc
   have hcpm:cp<=maxLen:=by
    rcases hown.2 with ⟨e,_⟩ | ⟨g',c',_,e,_,_,_,hc,_⟩
    ·cases e
    ·cases e;exact hc
   unfold maxLen at hcpm;have HAL:Hid (xin w7 (some ⟨g,0,none⟩) R.1):=by
    obtain ⟨ad,cap,e,hc⟩:=OI.cells (w:=w7) (B:=w6.heap.size) (v:=v) (l:=R.1) HV7.out.1;rw [hv] at e;cases e
    exact hc
   obtain ⟨m,hm⟩:∃ m,m=257+hlv:=⟨_,rfl⟩
   have hmi:(257:Int)+hlv=(m:Int):=by omega
   have hmn:m<=nn:=by omega
   have HRL:Hid (R.1.length=nn):=hRl;have HHV:Hid (hlv+257=m∧nn=m+1+X.1):=⟨by omega,by omega⟩
   rw [hRl] at hv;subst hv;have hcm:¬ cp=m:=by omega
   clear hown hRl hm hnn;go_upto_region 24 with (go_at_call 182;refine (ywm _ HK8.out.inv).mono ?_;rw [HER.out];rintro e w' ⟨rfl,rfl⟩)
   have HCA:Hid (xin w7 (some ⟨g,0,none⟩) (R.1.take m)):=fun k hk=>by
    have hk':k<m:=by simp at hk;omega
    obtain ⟨b,o,e,hlt,hc⟩:=HAL.out k (by rw [HRL.out];omega);exact ⟨b,o,e,hlt,by rw [hc];simp [hk']⟩
   have HCB:Hid (xin w7 (some ⟨g,m,none⟩) (R.1.drop m)):=fun k hk=>by
    have hk':m+k<nn:=by simp at hk;have:=HRL.out;omega
    obtain ⟨b,o,e,hlt,hc⟩:=HAL.out (m+k) (by rw [HRL.out];omega);cases e
    exact ⟨g,m,rfl,hlt,by rw [Nat.zero_add] at hc;rw [hc];simp⟩
   have HLA:Hid ((R.1.take m).length=m):=by show _=_;simp;have:=HRL.out;omega
   have HLB:Hid ((R.1.drop m).length=nn - m):=by show _=_;simp;have:=HRL.out;omega
   have HRA:Hid (inRange (R.1.take m)=true∧inRange (R.1.drop m)=true):=by
    have h:=HV7.out.2;unfold inRange at h ⊢;rw [List.all_eq_true] at h;exact ⟨List.all_eq_true.2 fun x hx=>h x (List.mem_of_mem_take hx),List.all_eq_true.2 fun x hx=>h x (List.mem_of_mem_drop hx)⟩
   have hm9:m<=269∧257<=m:=by have:=HHV.out.1;omega
   have hb9:nn - m<=16∧0<nn - m:=by have:=HHV.out.2;omega
   have c256:w7.cell? ⟨g,256,none⟩=some (.int .i64 ((R.1.take m).getD 256 0)):=by
    obtain ⟨b,o,e,_,hc⟩:=HCA.out 256 (by rw [HLA.out];omega);cases e
    rw [Nat.zero_add] at hc;exact hc
   generalize hA:R.1.take m=LA at *;generalize hBB:R.1.drop m=LB at *;have K1:=yx0 (some ⟨g,0,none⟩) cp LA w7 (by rw [HLA.out];omega) HCA.out HRA.out.1;have K2:=yx0 (some ⟨g,m,none⟩) (cp - m) LB w7 (by rw [HLB.out];omega) HCB.out HRA.out.2;have K3:=yyh (some ⟨g,m,none⟩) (cp - m) LB w7 (by rw [HLB.out];omega) HCB.out HRA.out.2;have K4:=klo (some ⟨g,m,none⟩) (cp - m) LB w7 (by rw [HLB.out];omega) HCB.out;rw [HLA.out] at K1;rw [HLB.out] at K2 K3 K4;have HK:Hid (Calls Tryz.prog 118 #[.slice (some ⟨g,0,none⟩) m cp] w7 (fun e w'=>e= .returned (.bool (jwa gw LA==2048))∧w7=w')∧Calls Tryz.prog 118 #[.slice (some ⟨g,m,none⟩) (nn - m) (cp - m)] w7 (fun e w'=>e= .returned (.bool (jwa gw LB==2048))∧w7=w')∧Calls Tryz.prog 119 #[.slice (some ⟨g,m,none⟩) (nn - m) (cp - m)] w7 (fun e w'=>e= .returned (.bool (ky9 LB))∧w7=w')∧Calls Tryz.prog 153 #[.slice (some ⟨g,m,none⟩) (nn - m) (cp - m)] w7 (fun e w'=>e= .returned (.int .i64 (jwa (fun _=>1) LB))∧w7=w')):=⟨K1,K2,K3,K4⟩
   clear K1 K2 K3 K4;go_upto_region 27 with (first | (go_at_call 118;first | (refine HK.out.1.mono ?_;rintro e w' ⟨rfl,rfl⟩) | (refine HK.out.2.1.mono ?_;rintro e w' ⟨rfl,rfl⟩)) | (go_at_call 119;refine HK.out.2.2.1.mono ?_;rintro e w' ⟨rfl,rfl⟩))
   have HBAD:Hid (∃ bad,bad=(((LA.getD 256 0)==0) || !(jwa gw LA==2048) || (!(jwa gw LB==2048) && !(ky9 LB) && decide (0<jwa (fun _=>1) LB)))):=⟨_,rfl⟩
   obtain ⟨bad,hbad⟩:=HBAD.out;clear HBAD;go_cut [14,15,16,82,84,86,107] (fun _ _ _ _ _ _ sb wx=>sb= .bool bad∧w7=wx)
   case first=>
    generalize LA.getD 256 0=x256 at *;generalize jwa (fun _=>1) LB=cnt at *;cases h1:(x256==0)
    ·cases h2:(jwa gw LA==2048)
     ·go_wp2_with fail
      go_meet
      exact ⟨by rw [hbad,h1,h2];rfl,rfl⟩
     ·cases h3:(jwa gw LB==2048)
      ·cases h4:ky9 LB
       ·by_cases h5:0<cnt
        ·go_wp2_with (go_at_call 153;refine HK.out.2.2.2.mono ?_;rintro e w' ⟨rfl,rfl⟩)
         go_meet
         exact ⟨by rw [hbad,h1,h2,h3,h4];simp [h5],rfl⟩
        ·go_wp2_with (go_at_call 153;refine HK.out.2.2.2.mono ?_;rintro e w' ⟨rfl,rfl⟩)
         go_meet
         exact ⟨by rw [hbad,h1,h2,h3,h4,show decide (0<cnt)=false by simp;omega];rfl,rfl⟩
       ·go_wp2_with fail
        go_meet
        exact ⟨by rw [hbad,h1,h2,h3,h4];rfl,rfl⟩
      ·go_wp2_with fail
       go_meet
       exact ⟨by rw [hbad,h1,h2,h3];rfl,rfl⟩
    ·go_wp2_with fail
     go_meet
     exact ⟨by rw [hbad,h1];rfl,rfl⟩
   case rest=>
   obtain ⟨rfl,rfl⟩:=hcut;obtain ⟨T7,hT7⟩:∃ T7,T7=(if bad=true then R.2.fail 10 else R.2):=⟨_,rfl⟩
   have HOW:Hid (t.own=(rset LA,rset LB,T7)):=by
    show t.own=_;unfold Tr.own;rw [HOH.out,HOR.out,HTH.out];simp only;rw [if_neg (by rw [HE.out];simp),if_neg (by rw [HER.out];simp)];have e1:257+hlv=m:=by have:=HHV.out.1;omega
    rw [e1,hA,hBB,hT7];have e2:(LA.getD 256 0=0∨jwa gw LA≠2048∨(jwa gw LB≠2048∧ky9 LB=false∧0<jwa (fun _=>1) LB))↔bad=true:=by
     rw [hbad];simp;rw [or_assoc,and_assoc]
    simp only [e2]
   have HT7:Hid (Tr.Fwd R.2 T7):=by
    show Tr.Fwd _ _;rw [hT7];split
    ·exact Tr.fwd_fail _ (by decide)
    ·exact Tr.Fwd.refl _
   have HGL:Hid (R.1.length=nn∧w6.heap.size<=g):=⟨HRL.out,hgB⟩
   clear hA hBB;go_upto_if 107 with fail
   go_cut [12] (fun s12 wx=>s12= .slice (some ⟨g,0,none⟩) m cp∧Hid (Kept B p vo va vs T7 w7 wx))
   case first=>
    cases hb:bad
    ·rw [hb,if_neg (by simp)] at hT7;have HQ:Hid (Kept B p vo va vs T7 w7 w7):=by show Kept _ _ _ _ _ _ _ _;rw [hT7];exact Kept.refl HK8.out.inv
     clear hT7 hbad hb;go_wp2_with fail
     go_meet
     exact ⟨rfl,HQ⟩
    ·rw [hb,if_pos rfl] at hT7;have HT:Hid (T7=R.2.fail 10):=hT7;clear hT7 hbad hb;go_wp2_with fail
     refine (j0n 10 _ HK8.out.inv).mono ?_;rintro e w9 ⟨rfl,q9⟩;have HQ:Hid (Kept B p vo va vs T7 w7 w9):=by show Kept _ _ _ _ _ _ _ _;rw [HT.out];exact q9
     clear q9;go_wp2_with fail
     go_meet
     exact ⟨rfl,HQ⟩
   case rest=>
   obtain ⟨rfl,HKx⟩:=hcut;clear hT7 hbad;have hoffg:∀ o,Off p (some ⟨g,o,none⟩):=fun o b o' f e=>by simp only [Option.some.injEq,Addr.mk.injEq] at e;omega
   have HCAx:Hid (xin wc (some ⟨g,0,none⟩) LA∧xin wc (some ⟨g,m,none⟩) LB):=⟨HCA.out.sole HKx.out.kp (hoffg 0),HCB.out.sole HKx.out.kp (hoffg m)⟩
   have J1:=yww (some ⟨g,0,none⟩) cp LA wc (by rw [HLA.out];omega) HCAx.out.1 HRA.out.1;rw [HLA.out] at J1;have hgz:w.heap.size+3<=g:=by omega
   have hzc:w.heap.size+3<=wc.heap.size:=by have h1:=HKx.out.kp.size;have h2:=HK8.out.kp.size;omega
   go_wp2_with fail
   refine J1.mono ?_;clear J1;rintro e w8 ⟨ad1,cap1,rfl,hS8,hN8,hb8⟩;have J2:=yww (some ⟨g,m,none⟩) (cp - m) LB w8 (by rw [HLB.out];omega) (HCAx.out.2.below hb8 (Nat.le_refl _)) HRA.out.2;rw [HLB.out] at J2;have HS8:Hid (SetI w8 (rset LA) (some ⟨g,0,none⟩) ad1∧v3o wc.heap.size ad1∧Below wc.heap.size wc w8):=⟨hS8,hN8,hb8⟩
   clear hS8 hN8 hb8;go_wp2_with fail
   refine J2.mono ?_;clear J2;rintro e w9 ⟨ad2,cap2,rfl,hS9,hN9,hb9⟩;have HS9:Hid (SetI w9 (rset LB) (some ⟨g,m,none⟩) ad2∧v3o w8.heap.size ad2∧Below w8.heap.size w8 w9):=⟨hS9,hN9,hb9⟩
   clear hS9 hN9 hb9;have HB9:Hid (Below wc.heap.size wc w9):=HS8.out.2.2.trans (HS9.out.2.2.mono HS8.out.2.2.size);have HKw:Hid (Kept B p vo va vs T7 w w9):=((HK0.out.trans HK8.out).trans HKx.out).below HB9.out;have HG9:Hid (w9.heap[w.heap.size]?=some (.cells yhi 273 (0,0))∧w9.heap[w.heap.size+1]?=some (.cells yhi 273 (0,0))):=by
    have h1:=HKx.out.kp;exact ⟨((HB9.out.block _ (by omega)).trans (h1.block _ (by have:=HK8.out.kp.size;omega) (by show w.heap.size≠p;omega))).trans HG7.out.1,((HB9.out.block _ (by omega)).trans (h1.block _ (by have:=HK8.out.kp.size;omega) (by show w.heap.size+1≠p;omega))).trans HG7.out.2.1⟩
   have HI1:=vo8 (rset LA) (some ⟨g,0,none⟩) ad1 cp cap1;have HI2:=vo8 (rset LB) (some ⟨g,m,none⟩) ad2 (cp - m) cap2;have HO1:=kqo (rset LA) (some ⟨g,0,none⟩) ad1 cp cap1;have HO2:=kqo (rset LB) (some ⟨g,m,none⟩) ad2 (cp - m) cap2;have HZ1:Hid (yhi.size=(setC (rset LA) (some ⟨g,0,none⟩) cp ad1 cap1).size∧yhi.size=(setC (rset LB) (some ⟨g,m,none⟩) (cp - m) ad2 cap2).size):=⟨rfl,rfl⟩
   generalize hca:setC (rset LA) (some ⟨g,0,none⟩) cp ad1 cap1=ca at *;generalize hcb:setC (rset LB) (some ⟨g,m,none⟩) (cp - m) ad2 cap2=cb at *;have hG1:(w9.setRow w.heap.size ca).heap[w.heap.size+1]?=some (.cells yhi 273 (0,0)):=(setRow_other w9 w.heap.size (w.heap.size+1) ca (by omega)).trans HG9.out.2;go_wp2_with (first | (refine wpList_store_row rfl 273 _ _ rfl _ ca rfl rfl 273 _ HG9.out.1 HI1 HZ1.out.1 HO1 ?_) | (refine wpList_store_row rfl 273 _ _ rfl _ cb rfl rfl 273 _ hG1 HI2 HZ1.out.2 HO2 ?_))
   have hE0:((w9.setRow w.heap.size ca).setRow (w.heap.size+1) cb).heap[w.heap.size]?=some (.cells ca 273 (0,0)):=(setRow_other _ _ _ _ (by omega)).trans (setRow_heap _ _ _ _ _ _ HG9.out.1);have hE1:((w9.setRow w.heap.size ca).setRow (w.heap.size+1) cb).heap[w.heap.size+1]?=some (.cells cb 273 (0,0)):=setRow_heap _ _ _ _ _ _ hG1;refine bodyPost_ret (v:= .tuple #[.agg ca, .agg cb]) ?_ rfl ?_
   ·exact zf3 Tryz.results202 _ _ _ _ 273 273 ca cb (0,0) (0,0) _ rfl rfl hE0 hE1 Tryz.underlying273 rfl HI1 HI2
   ·have hBw:Below w.heap.size w9 ((w9.setRow w.heap.size ca).setRow (w.heap.size+1) cb):=below_setRow (below_setRow (Below.refl _ _) (Nat.le_refl _) ca) (by omega) cb;have hother:∀ k,k≠w.heap.size->k≠w.heap.size+1->((w9.setRow w.heap.size ca).setRow (w.heap.size+1) cb).heap[k]?=w9.heap[k]?:=fun k h1 h2=>(setRow_other _ _ _ _ h2).trans (setRow_other _ _ _ _ h1)
    have hLA0:0<LA.length:=by have:=HLA.out;omega
    have hLB0:0<LB.length:=by have:=HLB.out;omega
    have hs8:=HS8.out.2.2.size;have A1:SetI w9 (rset LA) (some ⟨g,0,none⟩) ad1:=HS8.out.1.below HS9.out.2.2;have A2:=HS9.out.1;have mk:∀ (ad:Option Addr) (l:List Int),0<l.length->xin w9 ad l->v3o (w.heap.size+3) ad->xin ((w9.setRow w.heap.size ca).setRow (w.heap.size+1) cb) ad l∧Lies ((w9.setRow w.heap.size ca).setRow (w.heap.size+1) cb) p vo va ad:=fun ad l hl hc hn=>⟨hc.of_blocks hBw.size (fun b o f e _=>hother b (by have:=hn b o f e;omega) (by have:=hn b o f e;omega)),
      Lies.new HIw.out (fun b o f e=>by have:=hn b o f e;omega) (fun b o f e=>Nat.lt_of_lt_of_le (hc.lt hl b o f e) hBw.size)⟩
    have n1:∀ o,v3o (w.heap.size+3) (some ⟨g,o,none⟩):=fun o b o' f e=>by simp only [Option.some.injEq,Addr.mk.injEq] at e;omega
    have M1:=mk (some ⟨g,0,none⟩) LA hLA0 A1.len (n1 0);have M2:=mk ad1 (vol LA LA.length) (by rw [kjj];exact hLA0) A1.cds (fun b o f e=>by have:=HS8.out.2.1 b o f e;omega);have M3:=mk (some ⟨g,m,none⟩) LB hLB0 A2.len (n1 m);have M4:=mk ad2 (vol LB LB.length) (by rw [kjj];exact hLB0) A2.cds (fun b o f e=>by have:=HS9.out.2.1 b o f e;omega);rw [HOW.out];exact ⟨some ⟨g,0,none⟩,ad1,some ⟨g,m,none⟩,ad2,cp,cap1,cp - m,cap2,by rw [← hca,← hcb],HKw.out.low HIw.out hBw,⟨⟨M1.1,M2.1⟩,M1.2,M2.2⟩,⟨⟨M3.1,M4.1⟩,M3.2,M4.2⟩,by have:=HLA.out;show LA.length<=269;omega,by have:=HLB.out;show LB.length<=16;omega⟩
  ·have HER:Hid (R.2.ended=true):=he;clear he;have r2:=rowZ HG7.out.2.2;have d0:=rowZ HG7.out.1;have d1:=rowZ HG7.out.2.1;obtain ⟨r20,r21,r22,r23⟩:=r2.1;obtain ⟨d00,d01,d02,d03⟩:=d0.1;obtain ⟨d10,d11,d12,d13⟩:=d1.1;obtain ⟨z00,z01,z02,z03⟩:=d0.2;obtain ⟨z10,z11,z12,z13⟩:=d1.2;clear r2 d0 d1;go_wp2_with (go_at_call 182;refine (ywm _ HK8.out.inv).mono ?_;rw [HER.out];rintro e w' ⟨rfl,rfl⟩)
   go_region
   go_wp2_with fail
   have E0:=fun i v hv=>jfy (i:=i) (v:=v) HG7.out.1 hv
   have E1:=fun i v hv=>jfy (i:=i) (v:=v) HG7.out.2.1 hv
   rw [E0 0 (.slice none 0 0) rfl,E0 1 (.slice none 0 0) rfl,E0 2 (.int .i64 0) rfl,E0 3 (.bool false) rfl,E1 0 (.slice none 0 0) rfl,E1 1 (.slice none 0 0) rfl,E1 2 (.int .i64 0) rfl,E1 3 (.bool false) rfl];refine bodyPost_ret (v:= .tuple #[.agg yhi, .agg yhi]) ?_ rfl ?_
   ·exact zf3 Tryz.results202 _ _ _ _ 273 273 yhi yhi (0,0) (0,0) _ rfl rfl HG7.out.1 HG7.out.2.1 Tryz.underlying273 rfl (vo8 yk3 none none 0 0) (vo8 yk3 none none 0 0)
   ·have e1:t.own=(yk3,yk3,R.2):=by
     unfold Tr.own;rw [HOH.out,HOR.out];simp only;rw [if_neg (by rw [HE.out];simp),if_pos HER.out]
    rw [e1];have hk:=(HK0.out.trans HK8.out).drewN 1;exact ⟨none,none,none,none,0,0,0,0,rfl,hk,⟨⟨fun k hk=>by simp [yk3] at hk,fun k hk=>by simp [yk3,vol] at hk⟩,Lies.none _ _ _ _,Lies.none _ _ _ _⟩,⟨⟨fun k hk=>by simp [yk3] at hk,fun k hk=>by simp [yk3,vol] at hk⟩,Lies.none _ _ _ _,Lies.none _ _ _ _⟩,by simp [yk3],by simp [yk3]⟩
 ·have HE:Hid (T5.ended=true):=he;clear he;have r2:=rowZ HG5.out.2.2;have d0:=rowZ HG5.out.1;have d1:=rowZ HG5.out.2.1;obtain ⟨r20,r21,r22,r23⟩:=r2.1;obtain ⟨d00,d01,d02,d03⟩:=d0.1;obtain ⟨d10,d11,d12,d13⟩:=d1.1;obtain ⟨z00,z01,z02,z03⟩:=d0.2;obtain ⟨z10,z11,z12,z13⟩:=d1.2;clear r2 d0 d1;go_wp2_with (go_at_call 182;refine (ywm _ HK6.out.inv).mono ?_;rw [HE.out];rintro e w' ⟨rfl,rfl⟩)
  go_region
  go_wp2_with fail
  have E0:=fun i v hv=>jfy (i:=i) (v:=v) HG5.out.1 hv
  have E1:=fun i v hv=>jfy (i:=i) (v:=v) HG5.out.2.1 hv
  rw [E0 0 (.slice none 0 0) rfl,E0 1 (.slice none 0 0) rfl,E0 2 (.int .i64 0) rfl,E0 3 (.bool false) rfl,E1 0 (.slice none 0 0) rfl,E1 1 (.slice none 0 0) rfl,E1 2 (.int .i64 0) rfl,E1 3 (.bool false) rfl];refine bodyPost_ret (v:= .tuple #[.agg yhi, .agg yhi]) ?_ rfl ?_
  ·exact zf3 Tryz.results202 _ _ _ _ 273 273 yhi yhi (0,0) (0,0) _ rfl rfl HG5.out.1 HG5.out.2.1 Tryz.underlying273 rfl (vo8 yk3 none none 0 0) (vo8 yk3 none none 0 0)
  ·have e1:t.own=(yk3,yk3,T5):=by
    unfold Tr.own;rw [HOH.out];simp only;rw [if_pos HE.out]
   rw [e1];have hk:=(HK0.out.trans HK6.out).drewN 1;exact ⟨none,none,none,none,0,0,0,0,rfl,hk,⟨⟨fun k hk=>by simp [yk3] at hk,fun k hk=>by simp [yk3,vol] at hk⟩,Lies.none _ _ _ _,Lies.none _ _ _ _⟩,⟨⟨fun k hk=>by simp [yk3] at hk,fun k hk=>by simp [yk3,vol] at hk⟩,Lies.none _ _ _ _,Lies.none _ _ _ _⟩,by simp [yk3],by simp [yk3]⟩
end Go.Proofs.YtbcjmakpempkiaaGreatDoor
