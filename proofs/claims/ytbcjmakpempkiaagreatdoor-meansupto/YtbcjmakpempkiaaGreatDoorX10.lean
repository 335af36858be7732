import Derived.Test.YtbcjmakpempkiaaGreatDoorX09
set_option maxRecDepth 100000
set_option maxHeartbeats 8000000
set_option linter.all false
namespace Go.Proofs.YtbcjmakpempkiaaGreatDoor
open Go.RowKit
theorem vsf:Tr.fixedA.length=269:=by rw [Tr.fixedA,List.length_append,List.length_replicate,List.length_replicate]
theorem v02:Tr.fixedB.length=16:=by rw [Tr.fixedB,List.length_replicate]
theorem kwr(m:Nat){x:Int}(hx:yuc x=true):inRange (List.replicate m x)=true:=by
 have:=Tr.inRange_append (l:=[]) rfl hx m;rwa [List.nil_append] at this
theorem jw3:inRange Tr.fixedA=true:=Tr.inRange_append (kwr 243 (by decide)) (by decide) 26
theorem vfw:inRange Tr.fixedB=true:=kwr 16 (by decide)
theorem x2c{k:Nat}(h:k<=242):Tr.fixedA.take (k+1)=Tr.fixedA.take k++[8]:=by
 have hk:k<Tr.fixedA.length:=by rw [vsf];omega
 rw [List.take_succ_eq_append_getElem hk];have e:Tr.fixedA[k]?=some 8:=by
  rw [Tr.fixedA,List.getElem?_append_left (by rw [List.length_replicate];omega),List.getElem?_replicate,if_pos (by omega)]
 rw [List.getElem?_eq_getElem hk] at e;rw [Option.some.inj e]
theorem z1l{k:Nat}(h:242<k)(h2:k<269):Tr.fixedA.take (k+1)=Tr.fixedA.take k++[9]:=by
 have hk:k<Tr.fixedA.length:=by rw [vsf];omega
 rw [List.take_succ_eq_append_getElem hk];have e:Tr.fixedA[k]?=some 9:=by
  rw [Tr.fixedA,List.getElem?_append_right (by rw [List.length_replicate];omega),List.getElem?_replicate,List.length_replicate,if_pos (by omega)]
 rw [List.getElem?_eq_getElem hk] at e;rw [Option.some.inj e]
theorem yu1{k:Nat}(h:k<16):Tr.fixedB.take (k+1)=Tr.fixedB.take k++[4]:=by
 have hk:k<Tr.fixedB.length:=by rw [v02];omega
 rw [List.take_succ_eq_append_getElem hk];have e:Tr.fixedB[k]=4:=List.getElem_replicate _;rw [e]
structure LayI(W:World)(l:List Int)(v:Value)(wr:World)(k:Nat):Prop where
 own:wr.ownsRow W.heap.size 3 1 v k (k2f (l.take k))
 bel:Below W.heap.size W wr
theorem LayI.next{W:World}{l:List Int}{v:Value}{wr w5:World}{k g c:Nat}{x:Int}{o:Obj}(h:LayI W l v wr k)(hl:l.take (k+1)=l.take k++[x])
  (hown:w5.ownsRow W.heap.size 3 1 (.slice (some ⟨g,0,none⟩) (k+1) c) (k+1) (k2f (l.take k)++[.int .i64 x])) (hgrow:(wr.alloc o).grownBy w5 v.ownBlock):LayI W l (.slice (some ⟨g,0,none⟩) (k+1) c) w5 (k+1):=by
 refine ⟨?_,(h.bel.alloc h.bel.size _).grown hgrow (by have:=h.bel.size;simp;omega) (fun g hg=>(h.own.lt g hg).1)⟩;rw [hl];have e:k2f (l.take k++[x])=k2f (l.take k)++[.int .i64 x]:=by simp [k2f]
 rw [e];exact hown
theorem k85(w:World) :
  Calls Tryz.prog 200 #[] w fun x w'=>∃ a1 a2 b1 b2 k1 k2 l1 l2,x= .returned (.tuple #[.agg (setC (rset Tr.fixedA) a1 k1 a2 k2), .agg (setC (rset Tr.fixedB) b1 l1 b2 l2)])∧SetI w' (rset Tr.fixedA) a1 a2∧SetI w' (rset Tr.fixedB) b1 b2∧v3o w.heap.size a1∧v3o w.heap.size a2∧v3o w.heap.size b1∧v3o w.heap.size b2∧Below w.heap.size w w':=by
 obtain ⟨W0,hW0⟩:∃ W0,W0=(w.alloc (.cells yhi 273)).alloc (.cells yhi 273):=⟨_,rfl⟩
 have B0:Below w.heap.size w W0:=by rw [hW0];exact ((Below.refl _ _).alloc (Nat.le_refl _) _).alloc (by simp) _
 have hsz0:W0.heap.size=w.heap.size+2:=by rw [hW0];simp
 have HG:Hid (W0.heap[w.heap.size]?=some (.cells yhi 273 (0,0))∧W0.heap[w.heap.size+1]?=some (.cells yhi 273 (0,0))):=by
  show _∧_;rw [hW0];refine ⟨?_,?_⟩
  ·rw [Below.heap_alloc _ _ _ (by simp)];exact heap_alloc_new _ _
  ·have:=heap_alloc_new (w.alloc (.cells yhi 273)) (.cells yhi 273);simpa using this
 have HB0:Hid (Below w.heap.size w W0):=B0;have H0:Hid (LayI W0 Tr.fixedA (.slice none 0 0) W0 0):=⟨World.ownsRow_nil _ _ _ _,Below.refl _ _⟩
 obtain ⟨i3,hi3,hy0,hy1,hy2⟩:=info_parts ve2;clear B0;go_enter Tryz.func200,Tryz.ntmps200
 go_wp2_with fail
 have hcg:((w.alloc (Obj.cells #[.slice none 0 0, .slice none 0 0, .int .i64 0, .bool false] 273)).alloc (Obj.cells #[.slice none 0 0, .slice none 0 0, .int .i64 0, .bool false] 273))=W0:=hW0.symm;rw [hcg];clear hcg hW0;go_loopw [2,3] (fun v i wr=>∃ k:Nat,k<=269∧i= .int .i64 k∧Hid (LayI W0 Tr.fixedA v wr k)) (fun _ i _=>269 - (intOf i).toNat)
 case atStart=>exact ⟨0,Nat.zero_le _,rfl,H0⟩
 case round=>
  obtain ⟨k,hk,rfl,HH⟩:=hrel;clear H0;have hown0:=HH.out.own;have hszw:W0.heap.size<=wr.heap.size:=HH.out.bel.size;by_cases hlt:k<269
  ·by_cases h242:242<k
   ·go_wp2_with (at_builtin;refine wpList_append_lies _ rfl _ _ 69 rfl W0.heap.size 3 i3 (.int .i64 0) 1 8 Tryz.underlying69 hi3 hy0 hy1 hy2 rfl (by decide) u2 k (k2f (Tr.fixedA.take k)) rfl (hown0.alloc _) ⟨wr.heap.size,0,none⟩ 1 1 [.int .i64 9] rfl rfl (cell_one_new _ _ _) (by simp [Value.oneCell']) (by omega) (by unfold maxLen;omega) (by omega) (by simp;omega) (wr.heap.size+1) (by simp) ?_;intro g2 p2 w5 hown2 hgrow2 hat2 hlt2)
    have HN:Hid (LayI W0 Tr.fixedA (.slice (some ⟨g2,0,none⟩) (k+1) p2) w5 (k+1)):=HH.out.next (z1l h242 hlt) hown2 hgrow2;clear hown2 hgrow2 hat2 hlt2 hown0;go_roundw
    case rel=>exact ⟨k+1,by omega,by go_num,HN⟩
    case measure=>simp [intOf];omega
   ·go_wp2_with (at_builtin;refine wpList_append_lies _ rfl _ _ 69 rfl W0.heap.size 3 i3 (.int .i64 0) 1 8 Tryz.underlying69 hi3 hy0 hy1 hy2 rfl (by decide) u2 k (k2f (Tr.fixedA.take k)) rfl (hown0.alloc _) ⟨wr.heap.size,0,none⟩ 1 1 [.int .i64 8] rfl rfl (cell_one_new _ _ _) (by simp [Value.oneCell']) (by omega) (by unfold maxLen;omega) (by omega) (by simp;omega) (wr.heap.size+1) (by simp) ?_;intro g2 p2 w5 hown2 hgrow2 hat2 hlt2)
    have HN:Hid (LayI W0 Tr.fixedA (.slice (some ⟨g2,0,none⟩) (k+1) p2) w5 (k+1)):=HH.out.next (x2c (by omega)) hown2 hgrow2;clear hown2 hgrow2 hat2 hlt2 hown0;go_roundw
    case rel=>exact ⟨k+1,by omega,by go_num,HN⟩
    case measure=>simp [intOf];omega
  ·have HK:Hid (k=269):=by show k=269;omega
   go_wp2_with fail
   obtain ⟨va2,hva2⟩:∃ va2,va2=u2:=⟨_,rfl⟩
   obtain ⟨wA,hwA⟩:∃ wA,wA=wr:=⟨_,rfl⟩
   have HA:Hid (wA.ownsRow W0.heap.size 3 1 va2 269 (k2f Tr.fixedA)∧Below W0.heap.size W0 wA):=by
    show _∧_;rw [hwA,hva2];have h:=HH.out.own;rw [HK.out,List.take_of_length_le (by rw [vsf];omega)] at h;exact ⟨h,HH.out.bel⟩
   have H1:Hid (LayI wA Tr.fixedB (.slice none 0 0) wA 0):=⟨World.ownsRow_nil _ _ _ _,Below.refl _ _⟩
   rw [← hwA,← hva2];clear hwA hva2 HH hown0 hszw;go_loopw [5,6] (fun v i wr=>∃ k:Nat,k<=16∧i= .int .i64 k∧Hid (LayI wA Tr.fixedB v wr k)) (fun _ i _=>16 - (intOf i).toNat)
   case atStart=>exact ⟨0,Nat.zero_le _,rfl,H1⟩
   case round=>
    obtain ⟨k,hk,rfl,HH⟩:=hrel;clear H1;have hown0:=HH.out.own;have hszw:wA.heap.size<=wr.heap.size:=HH.out.bel.size;by_cases hlt:k<16
    ·go_wp2_with (at_builtin;refine wpList_append_lies _ rfl _ _ 69 rfl wA.heap.size 3 i3 (.int .i64 0) 1 8 Tryz.underlying69 hi3 hy0 hy1 hy2 rfl (by decide) u5 k (k2f (Tr.fixedB.take k)) rfl (hown0.alloc _) ⟨wr.heap.size,0,none⟩ 1 1 [.int .i64 4] rfl rfl (cell_one_new _ _ _) (by simp [Value.oneCell']) (by omega) (by unfold maxLen;omega) (by omega) (by simp;omega) (wr.heap.size+1) (by simp) ?_;intro g2 p2 w5 hown2 hgrow2 hat2 hlt2)
     have HN:Hid (LayI wA Tr.fixedB (.slice (some ⟨g2,0,none⟩) (k+1) p2) w5 (k+1)):=HH.out.next (yu1 hlt) hown2 hgrow2;clear hown2 hgrow2 hat2 hlt2 hown0;go_roundw
     case rel=>exact ⟨k+1,by omega,by go_num,HN⟩
     case measure=>simp [intOf];omega
    ·obtain rfl:k=16:=by omega
     have hB':wr.ownsRow wA.heap.size 3 1 u5 16 (k2f Tr.fixedB):=by
      have h:=HH.out.own;rw [List.take_of_length_le (by rw [v02];omega)] at h;exact h
     obtain ⟨g1,p1,hv1,hg1,hl1⟩:=HA.out.1.form (by omega);obtain ⟨g2,p2,hv2,hg2,hl2⟩:=hB'.form (by omega);have HBW:Hid (Below wA.heap.size wA wr):=HH.out.bel;have HC1:Hid (xin wA (some ⟨g1,0,none⟩) Tr.fixedA):=by
      obtain ⟨ad,cap,e,hc⟩:=OI.cells (w:=wA) (B:=W0.heap.size) (v:=va2) (l:=Tr.fixedA) (by rw [OI,vsf];exact HA.out.1);rw [hv1,vsf] at e;cases e
      exact hc
     have HC2:Hid (xin wr (some ⟨g2,0,none⟩) Tr.fixedB):=by
      obtain ⟨ad,cap,e,hc⟩:=OI.cells (w:=wr) (B:=wA.heap.size) (v:=u5) (l:=Tr.fixedB) (by rw [OI,v02];exact hB');rw [hv2,v02] at e;cases e
      exact hc
     subst hv1 hv2;have hzA:W0.heap.size<=wA.heap.size:=HA.out.2.size;clear hB' hown0 HH;have J1:=yww (some ⟨g1,0,none⟩) p1 Tr.fixedA wr (by rw [vsf];omega) (HC1.out.below HBW.out (Nat.le_refl _)) jw3;rw [vsf] at J1;go_wp2_with fail
     refine J1.mono ?_;clear J1;rintro e w8 ⟨ad1,cap1,rfl,hS8,hN8,hb8⟩;have J2:=yww (some ⟨g2,0,none⟩) p2 Tr.fixedB w8 (by rw [v02];omega) (HC2.out.below hb8 (Nat.le_refl _)) vfw;rw [v02] at J2;have HS8:Hid (SetI w8 (rset Tr.fixedA) (some ⟨g1,0,none⟩) ad1∧v3o wr.heap.size ad1∧Below wr.heap.size wr w8):=⟨hS8,hN8,hb8⟩
     clear hS8 hN8 hb8;go_wp2_with fail
     refine J2.mono ?_;clear J2;rintro e w9 ⟨ad2,cap2,rfl,hS9,hN9,hb9⟩;have HS9:Hid (SetI w9 (rset Tr.fixedB) (some ⟨g2,0,none⟩) ad2∧v3o w8.heap.size ad2∧Below w8.heap.size w8 w9):=⟨hS9,hN9,hb9⟩
     clear hS9 hN9 hb9;have HBr:Hid (Below W0.heap.size W0 wr):=HA.out.2.trans (HBW.out.mono hzA);have HB9:Hid (Below W0.heap.size W0 w9):=HBr.out.trans ((HS8.out.2.2.mono HBr.out.size).trans (HS9.out.2.2.mono (Nat.le_trans HBr.out.size HS8.out.2.2.size)));have HG9:Hid (w9.heap[w.heap.size]?=some (.cells yhi 273 (0,0))∧w9.heap[w.heap.size+1]?=some (.cells yhi 273 (0,0))):=⟨(HB9.out.block _ (by omega)).trans HG.out.1,(HB9.out.block _ (by omega)).trans HG.out.2⟩
     have HI1:=vo8 (rset Tr.fixedA) (some ⟨g1,0,none⟩) ad1 p1 cap1;have HI2:=vo8 (rset Tr.fixedB) (some ⟨g2,0,none⟩) ad2 p2 cap2;have HO1:=kqo (rset Tr.fixedA) (some ⟨g1,0,none⟩) ad1 p1 cap1;have HO2:=kqo (rset Tr.fixedB) (some ⟨g2,0,none⟩) ad2 p2 cap2;have HZ1:Hid (yhi.size=(setC (rset Tr.fixedA) (some ⟨g1,0,none⟩) p1 ad1 cap1).size∧yhi.size=(setC (rset Tr.fixedB) (some ⟨g2,0,none⟩) p2 ad2 cap2).size):=⟨rfl,rfl⟩
     generalize hca:setC (rset Tr.fixedA) (some ⟨g1,0,none⟩) p1 ad1 cap1=ca at *;generalize hcb:setC (rset Tr.fixedB) (some ⟨g2,0,none⟩) p2 ad2 cap2=cb at *;have hG1:(w9.setRow w.heap.size ca).heap[w.heap.size+1]?=some (.cells yhi 273 (0,0)):=(setRow_other w9 w.heap.size (w.heap.size+1) ca (by omega)).trans HG9.out.2;go_wp2_with (first | (refine wpList_store_row rfl 273 _ _ rfl _ ca rfl rfl 273 _ HG9.out.1 HI1 HZ1.out.1 HO1 ?_) | (refine wpList_store_row rfl 273 _ _ rfl _ cb rfl rfl 273 _ hG1 HI2 HZ1.out.2 HO2 ?_))
     have hE0:((w9.setRow w.heap.size ca).setRow (w.heap.size+1) cb).heap[w.heap.size]?=some (.cells ca 273 (0,0)):=(setRow_other _ _ _ _ (by omega)).trans (setRow_heap _ _ _ _ _ _ HG9.out.1);have hE1:((w9.setRow w.heap.size ca).setRow (w.heap.size+1) cb).heap[w.heap.size+1]?=some (.cells cb 273 (0,0)):=setRow_heap _ _ _ _ _ _ hG1;refine bodyPost_ret (v:= .tuple #[.agg ca, .agg cb]) ?_ rfl ?_
     ·exact zf3 Tryz.results200 _ _ _ _ 273 273 ca cb (0,0) (0,0) _ rfl rfl hE0 hE1 Tryz.underlying273 rfl HI1 HI2
     ·have hBw:Below w.heap.size w9 ((w9.setRow w.heap.size ca).setRow (w.heap.size+1) cb):=below_setRow (below_setRow (Below.refl _ _) (Nat.le_refl _) ca) (by omega) cb;have hother:∀ k,k≠w.heap.size->k≠w.heap.size+1->((w9.setRow w.heap.size ca).setRow (w.heap.size+1) cb).heap[k]?=w9.heap[k]?:=fun k h1 h2=>(setRow_other _ _ _ _ h2).trans (setRow_other _ _ _ _ h1)
      have hs8:=HS8.out.2.2.size;have hsr:=HBr.out.size;have A1:SetI w9 (rset Tr.fixedA) (some ⟨g1,0,none⟩) ad1:=HS8.out.1.below HS9.out.2.2;have A2:=HS9.out.1;have mk:∀ (ad:Option Addr) (l:List Int),xin w9 ad l->v3o (w.heap.size+2) ad->xin ((w9.setRow w.heap.size ca).setRow (w.heap.size+1) cb) ad l:=fun ad l hc hn=>
       hc.of_blocks hBw.size (fun b o f e _=>hother b (by have:=hn b o f e;omega) (by have:=hn b o f e;omega))
      have n1:v3o (w.heap.size+2) (some ⟨g1,0,none⟩):=fun b o' f e=>by simp only [Option.some.injEq,Addr.mk.injEq] at e;omega
      have n2:v3o (w.heap.size+2) (some ⟨g2,0,none⟩):=fun b o' f e=>by simp only [Option.some.injEq,Addr.mk.injEq] at e;omega
      have n3:v3o (w.heap.size+2) ad1:=fun b o f e=>by have:=HS8.out.2.1 b o f e;omega
      have n4:v3o (w.heap.size+2) ad2:=fun b o f e=>by have:=HS9.out.2.1 b o f e;omega
      have lo:∀ {ad},v3o (w.heap.size+2) ad->v3o w.heap.size ad:=fun h b o f e=>by have:=h b o f e;omega
      exact ⟨some ⟨g1,0,none⟩,ad1,some ⟨g2,0,none⟩,ad2,p1,cap1,p2,cap2,by rw [← hca,← hcb],⟨mk _ _ A1.len n1,mk _ _ A1.cds n3⟩,⟨mk _ _ A2.len n2,mk _ _ A2.cds n4⟩,lo n1,lo n3,lo n2,lo n4,(HB0.out.trans (HB9.out.mono (by omega))).trans hBw⟩
namespace Tr
theorem fwd_ite_fail(c:Prop)[Decidable c](t:Tr){e:Nat}(he:e≠0):Fwd t (if c then t.fail e else t):=by
 split
 ·exact fwd_fail t he
 ·exact Fwd.refl t
theorem Fine.ite_fail(c:Prop)[Decidable c]{t:Tr}(h:Fine t){e:Nat}(he:e<=18):Fine (if c then t.fail e else t):=by
 split
 ·exact h.fail he
 ·exact h
theorem ownHead_facts(t:Tr):Fwd t t.ownHead.2.2.2∧(Fine t->Fine t.ownHead.2.2.2)∧(t.ownHead.2.2.2.ended=false->t.ownHead.1<=12):=by
 unfold ownHead;dsimp only
 have f1:=fwd_number t 4;have g1:Fine t->Fine (t.number 4).2:=fun h=>h.number 4
 generalize t.number 4=A at *;have f2:Fwd t (if 12<A.1 then A.2.fail 10 else A.2)∧(Fine t->Fine (if 12<A.1 then A.2.fail 10 else A.2))∧((if 12<A.1 then A.2.fail 10 else A.2).ended=false->A.1<=12):=by
  split
  ·exact ⟨f1.trans (fwd_fail _ (by decide)),fun h=>(g1 h).fail (by decide),fun h=>by rw [ended_fail _ (by decide)] at h;cases h⟩
  ·exact ⟨f1,g1,fun _=>by omega⟩
 generalize (if 12<A.1 then A.2.fail 10 else A.2)=T1 at *;have f3:Fwd T1 ((T1.number 4).2.number 4).2:=(fwd_number T1 4).trans (fwd_number _ 4);have g3:Fine T1->Fine ((T1.number 4).2.number 4).2:=fun h=>(h.number 4).number 4
 generalize ((T1.number 4).2.number 4)=C at *;split
 ·exact ⟨(f2.1.trans f3).trans (fwd_fail _ (by decide)),fun h=>(g3 (f2.2.1 h)).fail (by decide),fun h=>by rw [ended_fail _ (by decide)] at h;cases h⟩
 ·exact ⟨f2.1.trans f3,fun h=>g3 (f2.2.1 h),fun h=>f2.2.2 (f3.of_ended h)⟩
theorem fwd_ownHead(t:Tr):Fwd t t.ownHead.2.2.2:=(ownHead_facts t).1
theorem Fine.ownHead{t:Tr}(h:Fine t):Fine t.ownHead.2.2.2:=(ownHead_facts t).2.1 h
theorem ownHead_lt{t:Tr}(h:t.ownHead.2.2.2.ended=false):t.ownHead.1<=12:=(ownHead_facts t).2.2 h
theorem Fine.helps(r:Nat):∀ (i:Nat) (L:List Int) (t:Tr),Fine t->Fine (Tr.helps r i L t).2:=by
 induction r with
 | zero=>intro i L t h;exact h
 | succ r ih=>
  intro i L t h;unfold Tr.helps;split
  ·exact h
  ·exact ih _ _ _ (h.number 3)
theorem fwd_ownHelp'(t:Tr):Fwd t.ownHead.2.2.2 t.ownHelp.2:=by
 unfold ownHelp;simp only;refine (fwd_helps (4+t.ownHead.2.2.1) 0 (List.replicate 15 0) t.ownHead.2.2.2).trans ?_;split
 ·exact Fwd.refl _
 ·exact fwd_fail _ (by decide)
theorem Fine.ownHelp{t:Tr}(h:Fine t):Fine t.ownHelp.2:=by
 unfold Tr.ownHelp;simp only;split
 ·exact Fine.helps _ _ _ _ h.ownHead
 ·exact (Fine.helps _ _ _ _ h.ownHead).fail (by decide)
theorem own_facts(t:Tr):Fwd t t.own.2.2∧(Fine t->Fine t.own.2.2):=by
 have f1:=(fwd_ownHead t).trans (fwd_ownHelp' t);have g1:Fine t->Fine t.ownHelp.2:=fun h=>h.ownHelp
 have r:=row_facts (H:=rset t.ownHelp.1) (n:=257+t.ownHead.1+1+t.ownHead.2.1) t.ownHelp.2.mu [] t.ownHelp.2 (Nat.le_refl _);have f2:Fwd t t.ownRow.2:=f1.trans r.1;have g2:Fine t->Fine t.ownRow.2:=fun h=>r.2.1 (g1 h)
 clear r;unfold own;generalize t.ownRow=R at *;generalize t.ownHelp=HP at *;generalize t.ownHead=HD at *;dsimp only
 split
 ·exact ⟨f1,g1⟩
 ·split
  ·exact ⟨f2,g2⟩
  ·dsimp only
   split
   ·exact ⟨f2.trans (fwd_fail _ (by decide)),fun h=>(g2 h).fail (by decide)⟩
   ·exact ⟨f2,g2⟩
theorem fwd_own(t:Tr):Fwd t t.own.2.2:=(own_facts t).1
theorem Fine.own{t:Tr}(h:Fine t):Fine t.own.2.2:=(own_facts t).2 h
theorem own_len(t:Tr):t.own.1.l.length<=269:=by
 unfold own;split
 ·simp [yk3]
 ·split
  ·simp [yk3]
  ·rename_i h1 h2
   have h3:=ownHead_lt ((fwd_ownHelp' t).of_ended (by simpa using h1));show (t.ownRow.1.take (257+t.ownHead.1)).length<=269;rw [List.length_take];omega
theorem run_block(k:Nat)(t:Tr):Run t (block k t)∧(Fine t->Fine (block k t)):=by
 unfold block;split
 ·exact ⟨run_plain t,fun h=>h.plain⟩
 ·split
  ·exact run_content (by show Tr.fixedA.length<=269;rw [vsf];omega) t.mu t (Nat.le_refl _)
  ·split
   ·have c:=run_content (a:=t.own.1) (b:=t.own.2.1) (own_len t) t.own.2.2.mu t.own.2.2 (Nat.le_refl _);exact ⟨(fwd_own t).run.trans c.1,fun h=>c.2 h.own⟩
   ·exact ⟨(fwd_fail t (by decide)).run,fun h=>h.fail (by decide)⟩
theorem blocks_end{t:Tr}(h:t.ended=true):blocksFrom t=t:=by rw [blocksFrom,if_pos h]
theorem blocks_short{t:Tr}(h:t.ended=false)(h2:(t.bit.2.number 2).2.ended=true):blocksFrom t=(t.bit.2.number 2).2:=by
 rw [blocksFrom,if_neg (by rw [h];simp),if_pos h2]
theorem blocks_last{t:Tr}(h:t.ended=false)(h2:(t.bit.2.number 2).2.ended=false)(h3:t.bit.1≠0):blocksFrom t=if (block (t.bit.2.number 2).1 (t.bit.2.number 2).2).ended then block (t.bit.2.number 2).1 (t.bit.2.number 2).2 else (block (t.bit.2.number 2).1 (t.bit.2.number 2).2).skip:=by
 rw [blocksFrom,if_neg (by rw [h];simp),if_neg (by rw [h2];simp),if_pos h3]
theorem mu_block{t:Tr}(h:t.ended=false):(block (t.bit.2.number 2).1 (t.bit.2.number 2).2).mu<t.mu:=
 Nat.lt_of_le_of_lt (Nat.le_trans (run_block _ _).1.mu (fwd_number t.bit.2 2).mu) (mu_bit h)
theorem blocks_go{t:Tr}(h:t.ended=false)(h2:(t.bit.2.number 2).2.ended=false)(h3:t.bit.1=0):blocksFrom t=blocksFrom (block (t.bit.2.number 2).1 (t.bit.2.number 2).2):=by
 rw [blocksFrom,if_neg (by rw [h];simp),if_neg (by rw [h2];simp),if_neg (by rw [h3];simp),dif_pos (mu_block h)]
theorem run_blocksFrom:∀ (n:Nat) (t:Tr),t.mu<=n->Run t (blocksFrom t)∧(Fine t->Fine (blocksFrom t)):=by
 intro n;induction n with
 | zero=>
  intro t hn;have he:t.ended=true:=by
   cases h:t.ended
   ·have:=mu_pos h;omega
   ·rfl
  rw [blocks_end he];exact ⟨Run.refl t,fun h=>h⟩
 | succ n ih=>
  intro t hn;cases h1:t.ended
  ·have fd:=(fwd_bit t).trans (fwd_number t.bit.2 2);cases h2:(t.bit.2.number 2).2.ended
   ·have rb:=run_block (t.bit.2.number 2).1 (t.bit.2.number 2).2;have rr:=fd.run.trans rb.1;have ff:Fine t->Fine (block (t.bit.2.number 2).1 (t.bit.2.number 2).2):=fun h=>rb.2 (h.bit.number 2)
    have hmu:=mu_block h1;by_cases h3:t.bit.1=0
    ·rw [blocks_go h1 h2 h3];have k:=ih _ (show (block (t.bit.2.number 2).1 (t.bit.2.number 2).2).mu<=n by omega);exact ⟨rr.trans k.1,fun h=>k.2 (ff h)⟩
    ·rw [blocks_last h1 h2 h3];split
     ·exact ⟨rr,ff⟩
     ·exact ⟨rr.trans (fwd_skip _).run,fun h=>(ff h).skip⟩
   ·rw [blocks_short h1 h2];exact ⟨fd.run,fun h=>h.bit.number 2⟩
  ·rw [blocks_end h1];exact ⟨Run.refl t,fun h=>h⟩
theorem blocks_facts{t:Tr}(h:Fine t):t.blocks.s=t.s∧t.blocks.starts=t.starts∧t.blocks.cost<=t.cost∧t.blocks.mu<=t.mu∧Fine t.blocks∧(t.ended=true->t.blocks.ended=true)∧t.blocks.limit=t.limit:=by
 have hmu:({ t with frm:=t.out.length,left:=0 }:Tr).mu<=t.mu:=by
  cases he:t.ended
  ·rw [mu_going he,mu_going (t:={ t with frm:=t.out.length,left:=0 }) he];simp only;omega
  ·rw [mu_ended (t:={ t with frm:=t.out.length,left:=0 }) he];omega
 have F0:Fine ({ t with frm:=t.out.length,left:=0 }:Tr):=⟨Nat.zero_le _,h.cur,h.inn,Nat.le_refl _,h.ats,h.err⟩
 have hc:({ t with frm:=t.out.length,left:=0 }:Tr).cost<=t.cost:=by
  show t.out.length+66*({ t with frm:=t.out.length,left:=0 }:Tr).mu<=t.out.length+66*t.mu;omega
 have r:=run_blocksFrom _ ({ t with frm:=t.out.length,left:=0 }:Tr) (Nat.le_refl _);exact ⟨r.1.s,r.1.starts,Nat.le_trans r.1.cost hc,Nat.le_trans r.1.mu hmu,r.2 F0,fun he=>r.1.ended he,r.1.limit⟩
end Tr
theorem jmt{B p:Nat}{vo va vs:Value}{t:Tr}{a b:World}(h:Kept B p vo va vs t a b)(n:Nat):Kept B p vo va vs { t with frm:=n } a (b.setCell ⟨p,9,none⟩ (.int .i64 n)):=
 h.set 9 _ rfl rfl rfl (fun j hj=>by revert j;exact vhp rfl rfl rfl rfl rfl rfl rfl rfl rfl rfl rfl rfl rfl)
structure BlkI(B p:Nat)(vo va vs:Value)(w:World)(s:ByteArray)(fin:Tr)(wr:World)(last:Nat)(t1:Tr)(vo1 va1:Value):Prop where
 go:(last=0∧Tr.blocksFrom t1=fin)∨(last=1∧(if t1.ended then t1 else t1.skip)=fin)
 mov:jkl B p vo va vs vo1 va1 t1 w wr
 fine:t1.Fine
 cost:t1.cost<=900000000000
 s:t1.s=s
 ord:y4t wr B
theorem TrI.setA{B p:Nat}{vo va vs:Value}{t:Tr}{w w':World}{S:RSet}{a1 a2:Option Addr}(h:TrI B p vo va vs t w)(hS:SetI w' S a1 a2)(h1:v3o w.heap.size a1)(h2:v3o w.heap.size a2)(hl:0<S.l.length):SetA w' p vo va S a1 a2:=⟨hS,Lies.new h h1 (hS.len.lt hl),Lies.new h h2 (hS.cds.lt (by rw [kjj];exact hl))⟩
def zie(w:World)(ca cb:Array Value):World:=(((w.alloc (.cells yhi 273)).alloc (.cells yhi 273)).setRow w.heap.size ca).setRow (w.heap.size+1) cb
theorem y02(w:World)(ca cb:Array Value):Below w.heap.size w (zie w ca cb)∧(zie w ca cb).heap[w.heap.size]?=some (.cells ca 273 (0,0))∧(zie w ca cb).heap[w.heap.size+1]?=some (.cells cb 273 (0,0))∧
  ((w.alloc (.cells yhi 273)).alloc (.cells yhi 273)).heap[w.heap.size]?=some (.cells yhi 273 (0,0))∧
  (((w.alloc (.cells yhi 273)).alloc (.cells yhi 273)).setRow w.heap.size ca).heap[w.heap.size+1]?=some (.cells yhi 273 (0,0)):=by
 have g0:((w.alloc (.cells yhi 273)).alloc (.cells yhi 273)).heap[w.heap.size]?=some (.cells yhi 273 (0,0)):=by
  rw [Below.heap_alloc _ _ _ (by simp)];exact heap_alloc_new _ _
 have g1:((w.alloc (.cells yhi 273)).alloc (.cells yhi 273)).heap[w.heap.size+1]?=some (.cells yhi 273 (0,0)):=by
  have:=heap_alloc_new (w.alloc (.cells yhi 273)) (.cells yhi 273);simpa using this
 have g2:=(setRow_other ((w.alloc (.cells yhi 273)).alloc (.cells yhi 273)) w.heap.size (w.heap.size+1) ca (by omega)).trans g1;refine ⟨?_,?_,?_,g0,g2⟩
 ·exact below_setRow (below_setRow (((Below.refl _ _).alloc (Nat.le_refl _) _).alloc (by simp) _) (Nat.le_refl _) ca) (by omega) cb
 ·exact (setRow_other _ _ _ _ (by omega)).trans (setRow_heap _ _ _ _ _ _ g0)
 ·exact setRow_heap _ _ _ _ _ _ g2
theorem y7t{B p:Nat}{vo va vs:Value}{t:Tr}(w:World)(h:TrI B p vo va vs t w)(hf:t.Fine)(hs:t.s.size<=maxLen)(hc:t.cost<=900000000000)(hO:y4t w B) :
  Calls Tryz.prog 179 #[.pointer (some ⟨p,0,none⟩)] w fun x w'=>x= .returned (.tuple #[])∧∃ vo' va',jkl B p vo va vs vo' va' t.blocks w w':=by
 obtain ⟨aO,cO,hvo⟩:∃ aO cO,vo= .slice aO t.out.length cO:=by
  rcases h.out.2 with ⟨e,h0⟩ | ⟨g,cp,_,e,_⟩
  ·exact ⟨none,0,by rw [e,h0]⟩
  ·exact ⟨_,cp,e⟩
 have c0:w.cell? ⟨p,0,none⟩=some (.slice aO t.out.length cO):=by rw [← hvo];exact h.row.cell (i:=0) (by omega)
 have f9:=h.row.frozen 9;have f8:=h.row.frozen 8;have c9:=h.row.cell (i:=9) (by omega);have c8:=h.row.cell (i:=8) (by omega);obtain ⟨t0,ht0⟩:∃ t0:Tr,t0={ t with frm:=t.out.length,left:=0 }:=⟨_,rfl⟩
 obtain ⟨W0,hW0⟩:∃ W0,W0=(w.setCell ⟨p,9,none⟩ (.int .i64 t.out.length)).setCell ⟨p,8,none⟩ (.int .i64 0):=⟨_,rfl⟩
 have K0:Kept B p vo va vs t0 w W0:=by rw [ht0,hW0];exact y2c (jmt (Kept.refl h) t.out.length) 0
 have hmu:t0.mu<=t.mu:=by
  cases he:t.ended
  ·rw [Tr.mu_going he,Tr.mu_going (t:=t0) (by rw [ht0];exact he),ht0];simp only;omega
  ·rw [Tr.mu_ended (t:=t0) (by rw [ht0];exact he)];omega
 have hc0:t0.cost<=900000000000:=by
  have e:t0.out=t.out:=by rw [ht0]
  unfold Tr.cost at *;rw [e];omega
 have F0:t0.Fine:=by rw [ht0];exact ⟨Nat.zero_le _,hf.cur,hf.inn,Nat.le_refl _,hf.ats,hf.err⟩
 have s0:t0.s=t.s:=by rw [ht0]
 have fin0:t.blocks=Tr.blocksFrom t0:=by rw [ht0];rfl
 have H0:Hid (BlkI B p vo va vs w t.s t.blocks W0 0 t0 vo va):=⟨Or.inl ⟨rfl,fin0.symm⟩,K0.moved,F0,hc0,s0,hO.below K0.bel⟩
 have HZ:Hid (t.s.size<=maxLen):=hs;clear h hf hs hc hO hvo K0 hmu hc0 F0 s0 fin0 ht0;go_enter Tryz.func179,Tryz.ntmps179
 go_wp2_with fail
 rw [← hW0];clear hW0 c0 c8 c9 f8 f9;go_loopw [2] (fun l wr=>∃ (last:Nat) (t1:Tr) (vo1 va1:Value),last<=1∧l= .int .i64 last∧Hid (BlkI B p vo va vs w t.s t.blocks wr last t1 vo1 va1)) (fun _ wr=>muW p wr)
 case atStart=>exact ⟨0,t0,vo,va,by omega,rfl,H0⟩
 case round=>
  obtain ⟨last,t1,vo1,va1,hlast,rfl,HH⟩:=hrel;clear H0;have hl01:last=0∨last=1:=by omega
  rcases hl01 with rfl | rfl
  ·have HGO:Hid (Tr.blocksFrom t1=t.blocks):=by
    rcases HH.out.go with ⟨_,h⟩ | ⟨h,_⟩
    ·exact h
    ·omega
   cases he:t1.ended
   ·have HE:Hid (t1.ended=false):=he;clear he;have HS1:Hid (t1.s.size<=maxLen∧t1.bit.2.s.size<=maxLen):=by show _∧_;rw [(Tr.fwd_bit t1).s,HH.out.s];exact ⟨HZ.out,HZ.out⟩
    have hb1:=Tr.bit_le t1;have hk4:(t1.bit.2.number 2).1<4:=Tr.number_lt t1.bit.2 2;have HRB:Hid (Tr.Run t1 (Tr.block (t1.bit.2.number 2).1 (t1.bit.2.number 2).2)∧(Tr.block (t1.bit.2.number 2).1 (t1.bit.2.number 2).2).Fine∧(Tr.block (t1.bit.2.number 2).1 (t1.bit.2.number 2).2).mu<t1.mu):=by
     have r:=Tr.run_block (t1.bit.2.number 2).1 (t1.bit.2.number 2).2;exact ⟨((Tr.fwd_bit t1).trans (Tr.fwd_number _ 2)).run.trans r.1,r.2 (HH.out.fine.bit.number 2),Tr.mu_block HE.out⟩
    have HFN:Hid (Tr.Fwd t1 (t1.bit.2.number 2).2∧(t1.bit.2.number 2).2.Fine):=⟨(Tr.fwd_bit t1).trans (Tr.fwd_number _ 2),HH.out.fine.bit.number 2⟩
    have HNX:Hid ((t1.bit.2.number 2).2.ended=false->(t1.bit.1=0∧Tr.blocksFrom (Tr.block (t1.bit.2.number 2).1 (t1.bit.2.number 2).2)=t.blocks)∨(t1.bit.1=1∧(if (Tr.block (t1.bit.2.number 2).1 (t1.bit.2.number 2).2).ended then (Tr.block (t1.bit.2.number 2).1 (t1.bit.2.number 2).2) else (Tr.block (t1.bit.2.number 2).1 (t1.bit.2.number 2).2).skip)=t.blocks)):=fun h2=>by
     by_cases h0:t1.bit.1=0
     ·left;exact ⟨h0,by rw [← HGO.out,Tr.blocks_go HE.out h2 h0]⟩
     ·right;exact ⟨by omega,by rw [← HGO.out,Tr.blocks_last HE.out h2 h0]⟩
    have HSH:Hid ((t1.bit.2.number 2).2.ended=true->(t1.bit.2.number 2).2=t.blocks):=fun h2=>by rw [← HGO.out,Tr.blocks_short HE.out h2]
    go_wp2_with (go_at_call 182;refine (ywm _ HH.out.mov.inv).mono ?_;rw [HE.out];rintro e w' ⟨rfl,rfl⟩)
    refine (zvl _ HH.out.mov.inv HH.out.fine HS1.out.1).mono ?_;rintro e w1 ⟨rfl,q1⟩;have HQ1:Hid (Kept B p vo1 va1 vs t1.bit.2 wr w1):=q1;clear q1;go_wp2_with fail
    refine (zu8 2 _ HQ1.out.inv HH.out.fine.bit HS1.out.2 (by omega)).mono ?_;rintro e w2 ⟨rfl,q2⟩;have HQ2:Hid (Kept B p vo1 va1 vs (t1.bit.2.number 2).2 wr w2):=HQ1.out.trans q2;clear q2 HQ1;obtain ⟨b,hb⟩:∃ b,b=t1.bit.1:=⟨_,rfl⟩
    rw [← hb] at hb1 HNX ⊢;clear hb;generalize t1.bit.2.number 2=D at *;have HZD:Hid (D.2.s.size<=maxLen∧D.2.cost<=900000000000):=⟨by rw [HFN.out.1.s];exact HS1.out.1,Nat.le_trans HFN.out.1.cost HH.out.cost⟩
    have HOD:Hid (y4t w2 B):=HH.out.ord.below HQ2.out.bel;cases hd:D.2.ended
    ·have HD:Hid (D.2.ended=false):=hd;clear hd;have HFIN:Hid (∀ w' vo2 va2,jkl B p vo1 va1 vs vo2 va2 (Tr.block D.1 D.2) w2 w'->BlkI B p vo va vs w t.s t.blocks w' b (Tr.block D.1 D.2) vo2 va2):=fun w' vo2 va2 m=>⟨HNX.out HD.out,(HH.out.mov.trans HQ2.out.moved).trans m,HRB.out.2.1,Nat.le_trans HRB.out.1.cost HH.out.cost,HRB.out.1.s.trans HH.out.s,HOD.out.below m.bel⟩
     have HMU:Hid ((Tr.block D.1 D.2).mu<t1.mu):=HRB.out.2.2;clear HNX HSH HRB;have hk:D.1=0∨D.1=1∨D.1=2∨D.1=3:=by omega
     rcases hk with h0 | h1 | h2 | h3
     ·have hb0:Tr.block D.1 D.2=D.2.plain:=by unfold Tr.block;rw [if_pos h0]
      rw [hb0] at HFIN HMU;have k0:((D.1:Nat):Int)=0:=by omega
      rw [k0];clear k0 h0 hb0 hk4;go_wp2_with (first | (go_at_call 182;refine (ywm _ HQ2.out.inv).mono ?_;rw [HD.out];rintro e w' ⟨rfl,rfl⟩))
      refine (zj3 _ HQ2.out.inv HFN.out.2 HZD.out.1 (by have:=HZD.out.2;omega)).mono ?_;rintro e w3 ⟨rfl,vo2,va2,m3⟩;have HI3:Hid _:=HFIN.out w3 vo2 va2 m3;clear m3;go_wp2_with fail
      go_roundw
      case rel=>exact ⟨b,_,vo2,va2,hb1,rfl,HI3⟩
      case measure=>rw [HI3.out.mov.inv.muW,HH.out.mov.inv.muW];exact HMU.out
     ·have hb0:Tr.block D.1 D.2=Tr.content (rset Tr.fixedA) (rset Tr.fixedB) D.2:=by unfold Tr.block;rw [if_neg (by omega),if_pos h1]
      rw [hb0] at HFIN HMU;have k0:((D.1:Nat):Int)=1:=by omega
      rw [k0];clear k0 h1 hb0 hk4;go_wp2_with (first | (go_at_call 182;refine (ywm _ HQ2.out.inv).mono ?_;rw [HD.out];rintro e w' ⟨rfl,rfl⟩))
      refine (k85 w2).mono ?_;rintro e w3 ⟨a1,a2,b1,b2,k1,k2,l1,l2,rfl,sA,sB,n1,n2,n3,n4,hb3⟩;have HK3:Hid (Kept B p vo1 va1 vs D.2 w2 w3):=(Kept.refl HQ2.out.inv).below hb3;have HSA:Hid (SetA w3 p vo1 va1 (rset Tr.fixedA) a1 a2∧SetA w3 p vo1 va1 (rset Tr.fixedB) b1 b2):=⟨HQ2.out.inv.setA sA n1 n2 (by show 0<Tr.fixedA.length;rw [vsf];omega),HQ2.out.inv.setA sB n3 n4 (by show 0<Tr.fixedB.length;rw [v02];omega)⟩
      have HF3:Hid (D.2.Fine∧D.2.s.size<=maxLen∧D.2.cost<=900000000000):=⟨HFN.out.2,HZD.out.1,HZD.out.2⟩
      have HLN:Hid ((rset Tr.fixedA).l.length<=269∧(rset Tr.fixedB).l.length<=16):=⟨by show Tr.fixedA.length<=269;rw [vsf];omega,by show Tr.fixedB.length<=16;rw [v02];omega⟩
      clear sA sB n1 n2 n3 n4 hb3;have HI1:=vo8 (rset Tr.fixedA) a1 a2 k1 k2;have HI2:=vo8 (rset Tr.fixedB) b1 b2 l1 l2;have HO1:=kqo (rset Tr.fixedA) a1 a2 k1 k2;have HO2:=kqo (rset Tr.fixedB) b1 b2 l1 l2;have HZ1:Hid (yhi.size=(setC (rset Tr.fixedA) a1 k1 a2 k2).size∧yhi.size=(setC (rset Tr.fixedB) b1 l1 b2 l2).size):=⟨rfl,rfl⟩
      obtain ⟨ca,hca⟩:∃ ca,ca=setC (rset Tr.fixedA) a1 k1 a2 k2:=⟨_,rfl⟩
      obtain ⟨cb,hcb⟩:∃ cb,cb=setC (rset Tr.fixedB) b1 l1 b2 l2:=⟨_,rfl⟩
      rw [← hca,← hcb] at HZ1;rw [← hca] at HI1 HO1 ⊢;rw [← hcb] at HI2 HO2 ⊢;have HC:Hid (ca=setC (rset Tr.fixedA) a1 k1 a2 k2∧cb=setC (rset Tr.fixedB) b1 l1 b2 l2):=⟨hca,hcb⟩
      clear hca hcb;have TB:=y02 w3 ca cb;have HTB:Hid (Below w3.heap.size w3 (zie w3 ca cb)∧(zie w3 ca cb).heap[w3.heap.size]?=some (.cells ca 273 (0,0))∧(zie w3 ca cb).heap[w3.heap.size+1]?=some (.cells cb 273 (0,0))∧((w3.alloc (.cells yhi 273)).alloc (.cells yhi 273)).heap[w3.heap.size]?=some (.cells yhi 273 (0,0))∧(((w3.alloc (.cells yhi 273)).alloc (.cells yhi 273)).setRow w3.heap.size ca).heap[w3.heap.size+1]?=some (.cells yhi 273 (0,0))):=TB;clear TB;go_wp2_with (first | (refine wpList_store_row rfl 273 _ _ rfl w3.heap.size ca rfl rfl 273 yhi HTB.out.2.2.2.1 HI1 HZ1.out.1 HO1 ?_) | (refine wpList_store_row rfl 273 _ _ rfl (w3.heap.size+1) cb rfl rfl 273 yhi HTB.out.2.2.2.2 HI2 HZ1.out.2 HO2 ?_) | (refine wpList_load_row rfl 273 _ rfl w3.heap.size rfl 273 ca (0,0) _ HTB.out.2.1 Tryz.underlying273 rfl HI1 ?_) | (refine wpList_load_row rfl 273 _ rfl (w3.heap.size+1) rfl 273 cb (0,0) _ HTB.out.2.2.1 Tryz.underlying273 rfl HI2 ?_))
      have HKT:Hid (Kept B p vo1 va1 vs D.2 w2 (zie w3 ca cb)):=HK3.out.below HTB.out.1;have J:=xrz (rset Tr.fixedA) (rset Tr.fixedB) a1 a2 b1 b2 k1 k2 l1 l2 (zie w3 ca cb) HKT.out.inv HF3.out.1 HF3.out.2.1 HF3.out.2.2 (HSA.out.1.below HTB.out.1) (HSA.out.2.below HTB.out.1) HLN.out.1 HLN.out.2;rw [← HC.out.1,← HC.out.2] at J;refine J.mono ?_;clear J;rintro e w4 ⟨rfl,vo2,va2,m4⟩;have HI3:Hid _:=HFIN.out w4 vo2 va2 (HKT.out.moved.trans m4);clear m4;go_wp2_with fail
      go_roundw
      case rel=>exact ⟨b,_,vo2,va2,hb1,rfl,HI3⟩
      case measure=>rw [HI3.out.mov.inv.muW,HH.out.mov.inv.muW];exact HMU.out
     ·have hb0:Tr.block D.1 D.2=Tr.content D.2.own.1 D.2.own.2.1 D.2.own.2.2:=by unfold Tr.block;rw [if_neg (by omega),if_neg (by omega),if_pos h2]
      rw [hb0] at HFIN HMU;have k0:((D.1:Nat):Int)=2:=by omega
      rw [k0];clear k0 h2 hb0 hk4;go_wp2_with (first | (go_at_call 182;refine (ywm _ HQ2.out.inv).mono ?_;rw [HD.out];rintro e w' ⟨rfl,rfl⟩))
      refine (zg6 w2 HQ2.out.inv HFN.out.2 HZD.out.1 HOD.out).mono ?_;rintro e w3 ⟨a1,a2,b1,b2,k1,k2,l1,l2,rfl,q3,sA,sB,n1,n2⟩;have HK3:Hid (Kept B p vo1 va1 vs D.2.own.2.2 w2 w3):=q3;have HSA:Hid (SetA w3 p vo1 va1 D.2.own.1 a1 a2∧SetA w3 p vo1 va1 D.2.own.2.1 b1 b2):=⟨sA,sB⟩
      have HF3:Hid (D.2.own.2.2.Fine∧D.2.own.2.2.s.size<=maxLen∧D.2.own.2.2.cost<=900000000000):=⟨HFN.out.2.own,by rw [(Tr.fwd_own D.2).s];exact HZD.out.1,Nat.le_trans (Tr.fwd_own D.2).cost HZD.out.2⟩
      have HLN:Hid (D.2.own.1.l.length<=269∧D.2.own.2.1.l.length<=16):=⟨n1,n2⟩
      clear sA sB n1 n2 q3;generalize D.2.own=OW at *;have HI1:=vo8 (OW.1) a1 a2 k1 k2;have HI2:=vo8 (OW.2.1) b1 b2 l1 l2;have HO1:=kqo (OW.1) a1 a2 k1 k2;have HO2:=kqo (OW.2.1) b1 b2 l1 l2;have HZ1:Hid (yhi.size=(setC (OW.1) a1 k1 a2 k2).size∧yhi.size=(setC (OW.2.1) b1 l1 b2 l2).size):=⟨rfl,rfl⟩
      obtain ⟨ca,hca⟩:∃ ca,ca=setC (OW.1) a1 k1 a2 k2:=⟨_,rfl⟩
      obtain ⟨cb,hcb⟩:∃ cb,cb=setC (OW.2.1) b1 l1 b2 l2:=⟨_,rfl⟩
      rw [← hca,← hcb] at HZ1;rw [← hca] at HI1 HO1 ⊢;rw [← hcb] at HI2 HO2 ⊢;have HC:Hid (ca=setC (OW.1) a1 k1 a2 k2∧cb=setC (OW.2.1) b1 l1 b2 l2):=⟨hca,hcb⟩
      clear hca hcb;have TB:=y02 w3 ca cb;have HTB:Hid (Below w3.heap.size w3 (zie w3 ca cb)∧(zie w3 ca cb).heap[w3.heap.size]?=some (.cells ca 273 (0,0))∧(zie w3 ca cb).heap[w3.heap.size+1]?=some (.cells cb 273 (0,0))∧((w3.alloc (.cells yhi 273)).alloc (.cells yhi 273)).heap[w3.heap.size]?=some (.cells yhi 273 (0,0))∧(((w3.alloc (.cells yhi 273)).alloc (.cells yhi 273)).setRow w3.heap.size ca).heap[w3.heap.size+1]?=some (.cells yhi 273 (0,0))):=TB;clear TB;go_wp2_with (first | (refine wpList_store_row rfl 273 _ _ rfl w3.heap.size ca rfl rfl 273 yhi HTB.out.2.2.2.1 HI1 HZ1.out.1 HO1 ?_) | (refine wpList_store_row rfl 273 _ _ rfl (w3.heap.size+1) cb rfl rfl 273 yhi HTB.out.2.2.2.2 HI2 HZ1.out.2 HO2 ?_) | (refine wpList_load_row rfl 273 _ rfl w3.heap.size rfl 273 ca (0,0) _ HTB.out.2.1 Tryz.underlying273 rfl HI1 ?_) | (refine wpList_load_row rfl 273 _ rfl (w3.heap.size+1) rfl 273 cb (0,0) _ HTB.out.2.2.1 Tryz.underlying273 rfl HI2 ?_))
      have HKT:Hid (Kept B p vo1 va1 vs OW.2.2 w2 (zie w3 ca cb)):=HK3.out.below HTB.out.1;have J:=xrz (OW.1) (OW.2.1) a1 a2 b1 b2 k1 k2 l1 l2 (zie w3 ca cb) HKT.out.inv HF3.out.1 HF3.out.2.1 HF3.out.2.2 (HSA.out.1.below HTB.out.1) (HSA.out.2.below HTB.out.1) HLN.out.1 HLN.out.2;rw [← HC.out.1,← HC.out.2] at J;refine J.mono ?_;clear J;rintro e w4 ⟨rfl,vo2,va2,m4⟩;have HI3:Hid _:=HFIN.out w4 vo2 va2 (HKT.out.moved.trans m4);clear m4;go_wp2_with fail
      go_roundw
      case rel=>exact ⟨b,_,vo2,va2,hb1,rfl,HI3⟩
      case measure=>rw [HI3.out.mov.inv.muW,HH.out.mov.inv.muW];exact HMU.out
     ·have hb0:Tr.block D.1 D.2=D.2.fail 7:=by unfold Tr.block;rw [if_neg (by omega),if_neg (by omega),if_neg (by omega)]
      rw [hb0] at HFIN HMU;have k0:((D.1:Nat):Int)=3:=by omega
      rw [k0];clear k0 h3 hb0 hk4;go_wp2_with (first | (go_at_call 182;refine (ywm _ HQ2.out.inv).mono ?_;rw [HD.out];rintro e w' ⟨rfl,rfl⟩))
      refine (j0n 7 _ HQ2.out.inv).mono ?_;rintro e w3 ⟨rfl,q3⟩;have HI3:Hid _:=HFIN.out w3 vo1 va1 q3.moved;clear q3;go_wp2_with fail
      go_roundw
      case rel=>exact ⟨b,_,vo1,va1,hb1,rfl,HI3⟩
      case measure=>rw [HI3.out.mov.inv.muW,HH.out.mov.inv.muW];exact HMU.out
    ·have HD:Hid (D.2.ended=true):=hd;clear hd;go_wp2_with (first | (go_at_call 182;refine (ywm _ HQ2.out.inv).mono ?_;rw [HD.out];rintro e w' ⟨rfl,rfl⟩))
     refine bodyPost_ret (results_none rfl _ _ _) rfl ?_;rw [← HSH.out HD.out];exact ⟨rfl,vo1,va1,HH.out.mov.then HQ2.out⟩
   ·have HE:Hid (t1.ended=true):=he;clear he;go_wp2_with (go_at_call 182;refine (ywm _ HH.out.mov.inv).mono ?_;rw [HE.out];rintro e w' ⟨rfl,rfl⟩)
    go_end0
    have e1:=HGO.out;rw [Tr.blocks_end HE.out] at e1;rw [← e1];exact ⟨rfl,vo1,va1,HH.out.mov⟩
  ·have HGO:Hid ((if t1.ended then t1 else t1.skip)=t.blocks):=by
    rcases HH.out.go with ⟨h,_⟩ | ⟨_,h⟩
    ·omega
    ·exact h
   cases he:t1.ended
   ·have HE:Hid (t1.ended=false):=he;clear he;go_wp2_with (go_at_call 182;refine (ywm _ HH.out.mov.inv).mono ?_;rw [HE.out];rintro e w' ⟨rfl,rfl⟩)
    refine (zfl _ HH.out.mov.inv).mono ?_;rintro e w1 ⟨rfl,q1⟩;have HQ1:Hid (Kept B p vo1 va1 vs t1.skip wr w1):=q1;clear q1;go_wp2_with fail
    go_end0
    have e1:=HGO.out;rw [if_neg (by rw [HE.out];simp)] at e1;rw [← e1];exact ⟨rfl,vo1,va1,HH.out.mov.then HQ1.out⟩
   ·have HE:Hid (t1.ended=true):=he;clear he;go_wp2_with (go_at_call 182;refine (ywm _ HH.out.mov.inv).mono ?_;rw [HE.out];rintro e w' ⟨rfl,rfl⟩)
    go_end0
    have e1:=HGO.out;rw [if_pos HE.out] at e1;rw [← e1];exact ⟨rfl,vo1,va1,HH.out.mov⟩
end Go.Proofs.YtbcjmakpempkiaaGreatDoor
