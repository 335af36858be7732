import Derived.Test.YtbcjmakpempkiaaGreatDoorX39
set_option maxRecDepth 100000
set_option maxHeartbeats 8000000
set_option linter.all false
namespace Go.Proofs.YtbcjmakpempkiaaGreatDoor
open Go.RowKit
theorem ysv(x:Addr)(j:Nat):(x.add j).block=x.block:=by
 unfold Addr.add;split <;> rfl
theorem xqq(lo up:Int)(Y:Nat->(Nat->Nat)->kuu->World->Prop)(acs:Option Addr)(ncs ccs:Nat)(C:List (List Int))(ass:Option Addr)(nss css:Nat)(S:List ByteArray)(ad:Option Addr)(n cap:Nat)(w:World)(hn:n<=1048576)(hsc:Scr 1048576 w ad n)(hC:Cfgs w 1048576 acs ncs ccs C)(hS:Txts w 1048576 ass nss css S)(hK:zgf lo up w Y) :
  Calls Tryz.prog 12 #[.slice acs ncs ccs, .slice ass nss css, .slice ad n cap, .int .i64 lo, .int .i64 up] w fun e w'=>e= .returned (.bool true)∧Below w.heap.size w w':=by
 have HSC:Hid (Scr 1048576 w ad n):=hsc;have HCS:Hid (Cfgs w 1048576 acs ncs ccs C∧Txts w 1048576 ass nss css S):=⟨hC,hS⟩
 have HK:Hid (zgf lo up w Y):=hK;have hlo3:=hK.lo3;clear hsc hC hS hK;obtain ⟨i0,hi,hz0,hz1,hz2⟩:=info_parts ymd;obtain ⟨W0,hW0⟩:∃ W0,W0=w.alloc (.cells #[.slice none 0 0, .slice none 0 0, .slice none 0 0, .slice none 0 0, .int .i64 0, .slice none 0 0, .slice none 0 0, .slice none 0 0, .slice none 0 0] 75):=⟨_,rfl⟩
 have R0:W0.rowIs w.heap.size 75 9 kki:=by rw [hW0];exact jl6 w
 have B0:Below w.heap.size w W0:=by rw [hW0];exact (Below.refl _ _).alloc (Nat.le_refl _) _
 have hgl:w.heap.size<W0.heap.size:=R0.lt;have c0:W0.cell? ⟨w.heap.size,0,none⟩=some (.slice none 0 0):=R0.cell (i:=0) (by omega);have f0:=R0.frozen 0;go_enter Tryz.func12,Tryz.ntmps12
 go_upto_region 2 with fail
 rw [← hW0];clear hW0;go_cut [11] (fun s wx=>s= .pointer (some ⟨w.heap.size,0,none⟩)∧∃ (g1 p1:Nat),1<=p1∧wx.rowIs w.heap.size 75 9 (fld (yw2 (.slice (some ⟨g1,0,none⟩) 1 p1) (.slice none 0 0) []))∧Below w.heap.size w wx∧wx.ownsRow w.heap.size 42 7 (.slice (some ⟨g1,0,none⟩) 1 p1) 1 ownC.toList∧g1≠w.heap.size)
 case first=>
  go_region_law
   ((first
    | (refine z0e rfl rfl (by kernel_rfl) ?_)
    | (refine step_append_lies _ (by rfl) _ _ _ (by rfl) w.heap.size 42 i0 _ 7 56 Tryz.underlying39 hi hz0 hz1 hz2 rfl (by omega) (.slice none 0 0) 0 [] (by rfl) (World.ownsRow_nil _ _ _ _) ⟨W0.heap.size+1,0,none⟩ 1 1 ownC.toList (by rfl) (by rfl) (World.news_of_block (cs:=ownC) (t:=42) (fr:=(0,0)) (zfn W0 _ _)) (by simp [ownC,Value.oneCell']) (by omega) (by unfold maxLen;omega) (by omega) (by simp;omega) (W0.heap.size+2) (by simp) ?_;intro g1 p1 w1 hown1 hgrow1 hat1 hlt1;have k0:=jsf hgrow1 hgl (by simp [Value.ownBlock]) c0;have z0:=zwy hgrow1 hgl (by simp [Value.ownBlock]) f0)))
  all_goals
   go_wp2_with fail
   go_meet
   have T:=y5z (v:= .slice (some ⟨g1,0,none⟩) 1 p1) R0 B0 hgrow1;have hgn1:g1≠w.heap.size:=by
    rcases hat1 with e | e
    ·simp [Value.ownBlock] at e
    ·omega
   exact ⟨rfl,g1,p1,zgo hown1,T.1,T.2,kcz (R:=fun k=>k=w.heap.size) (ρ:=fun k=>k) hown1 ⟨by simp [World.setCell],fun k _ hk=>Below.heap_setCell _ _ _ _ hk⟩ (fun x hx=>by simp [Value.ownBlock] at hx;omega),hgn1⟩
 case rest=>
 obtain ⟨rfl,g1,p1,hp1,R1,B1,O1,N1⟩:=hcut;have HO1:Hid (wc.ownsRow w.heap.size 42 7 (.slice (some ⟨g1,0,none⟩) 1 p1) 1 ownC.toList∧g1≠w.heap.size):=⟨O1,N1⟩
 clear O1 N1;obtain ⟨j0,hj,hy0,hy1,hy2⟩:=info_parts jjg;clear hi hz0 hz1 hz2 i0 R0 B0 hgl c0 f0 W0;have hgl:w.heap.size<wc.heap.size:=R1.lt;have c1:wc.cell? ⟨w.heap.size,1,none⟩=some (.slice none 0 0):=R1.cell (i:=1) (by omega);have f1:=R1.frozen 1;go_upto_region 4 with (first | (at_builtin;refine wpList_append_lies _ rfl (.tmp 38) (.tmp 39) 30 rfl w.heap.size 9 j0 (.string ⟨#[]⟩) 1 16 Tryz.underlying30 hj hy0 hy1 hy2 rfl (by decide) (.slice none 0 0) 0 [] rfl (World.ownsRow_nil _ _ _ _) ⟨wc.heap.size,0,none⟩ 1 1 [.string ⟨#[1,2,0,253,255,104,105]⟩] rfl rfl (World.news_of_block (heap_alloc_new wc _)) (by simp [Value.oneCell']) (by omega) (by unfold maxLen;omega) (by omega) (by simp;omega) (wc.heap.size+1) (by simp) ?_))
 intro g2 p2 w2 hown2 hgrow2 hat2 hlt2;have k1:=x7a hgrow2 hgl (by simp [Value.ownBlock]) c1;have z1:=jk1 hgrow2 hgl (by simp [Value.ownBlock]) f1;have T:=jvy (v:= .slice (some ⟨g2,0,none⟩) 1 p2) R1 B1 hgrow2;have hp2:1<=p2:=zgo hown2;have N2:g2≠w.heap.size:=by
  rcases hat2 with e | e
  ·simp [Value.ownBlock] at e
  ·omega
 have O2:(w2.setCell ⟨w.heap.size,1,none⟩ (.slice (some ⟨g2,0,none⟩) 1 p2)).ownsRow w.heap.size 9 1 (.slice (some ⟨g2,0,none⟩) 1 p2) 1 [.string hiB]:=kcz (R:=fun k=>k=w.heap.size) (ρ:=fun k=>k) hown2 ⟨by simp [World.setCell],fun k _ hk=>Below.heap_setCell _ _ _ _ hk⟩ (fun x hx=>by simp [Value.ownBlock] at hx;omega);have O1:(w2.setCell ⟨w.heap.size,1,none⟩ (.slice (some ⟨g2,0,none⟩) 1 p2)).ownsRow w.heap.size 42 7 (.slice (some ⟨g1,0,none⟩) 1 p1) 1 ownC.toList:=by
  have l1:g1<wc.heap.size:=xmo HO1.out.1 rfl;have hne:=HO1.out.2;refine kcz (R:=fun k=>k=w.heap.size∨wc.heap.size<=k) (ρ:=fun k=>k) HO1.out.1 ⟨?_,fun k hk hr=>?_⟩ (fun x hx hr=>by simp [Value.ownBlock] at hx;omega)
  ·have:=hgrow2.size;simp at this ⊢;omega
  ·rw [Below.heap_setCell _ _ _ _ (fun e=>hr (Or.inl e)),hgrow2.block k (by simp;omega) (by simp [Value.ownBlock]),Below.heap_alloc wc _ k (by omega)]
 clear R1 B1 c1 f1 hown2 hgrow2 hat2 hgl;go_upto_region 4 with fail
 obtain ⟨W3,hW3⟩:∃ W3,W3=w2.setCell ⟨w.heap.size,1,none⟩ (.slice (some ⟨g2,0,none⟩) 1 p2):=⟨_,rfl⟩
 rw [← hW3] at T O1 O2 ⊢;clear hW3 k1 z1 hlt2;have T2:=vsv (HK.out.ok (W3.heap.size+1)) T.1 T.2 O1 O2 HO1.out.2 N2;clear T O1 O2 N2 HO1 hp1 hp2;go_wp2_with (first | (go_at_call 33;refine (xxy W3).mono ?_;rintro e w' ⟨rfl,rfl⟩))
 have HT:Hid (((∃ ρ s,LI w.heap.size w.heap.size (Y (W3.heap.size+1)) [ownL] [hiB] 0 ρ s (W3.alloc (.cells vuj 79))∧ρ W3.heap.size=9)∧Below w.heap.size w (W3.alloc (.cells vuj 79)))∧(W3.alloc (.cells vuj 79)).heap[W3.heap.size]?=some (.cells vuj 79 (0,0))):=⟨T2,heap_alloc_new W3 _⟩
 obtain ⟨gh,hgh⟩:∃ gh,gh=W3.heap.size:=⟨_,rfl⟩
 obtain ⟨W4,hW4⟩:∃ W4,W4=W3.alloc (.cells vuj 79):=⟨_,rfl⟩
 rw [← hW4] at HT ⊢;rw [← hgh] at HT ⊢;clear T2 hgh hW4 hj hy0 hy1 hy2 j0;go_loopw [13] (fun i wr=>∃ (k:Nat) (ρ:Nat->Nat) (s:kuu),k<=18∧i= .int .i64 k∧Hid (LI w.heap.size w.heap.size (Y (gh+1)) [ownL] [hiB] k ρ s wr∧ρ gh=9∧wr.heap[gh]?=some (.cells vuj 79 (0,0))∧Below w.heap.size w wr)) (fun i _=>18 - (intOf i).toNat)
 case atStart=>
  obtain ⟨⟨⟨ρ,s,h1,h2⟩,h3⟩,h4⟩:=HT.out;exact ⟨0,ρ,s,Nat.zero_le _,rfl,h1,h2,h4,h3⟩
 case round=>
  obtain ⟨k,ρ,s,hk,rfl,HL⟩:=hrel;clear HT;have hh:wr.heap[gh]?=some (.cells vuj 79 (0,0)):=HL.out.2.2.1;by_cases hlt:k<18
  ·obtain ⟨kd,a,b,c,t,e0,e1,e2,e3,e4,e5,ht⟩:=ydi k hlt;have d0:wr.cell? ⟨gh,k*6,none⟩=some (.int .i64 kd):=by rw [cell_of_row _ _ (k*6) _ _ _ hh];exact e0
   have d1:wr.cell? ⟨gh,k*6+1,none⟩=some (.int .i64 a):=by rw [cell_of_row _ _ (k*6+1) _ _ _ hh];exact e1
   have d2:wr.cell? ⟨gh,k*6+2,none⟩=some (.int .i64 b):=by rw [cell_of_row _ _ (k*6+2) _ _ _ hh];exact e2
   have d3:wr.cell? ⟨gh,k*6+3,none⟩=some (.int .i64 c):=by rw [cell_of_row _ _ (k*6+3) _ _ _ hh];exact e3
   have d4:wr.cell? ⟨gh,k*6+4,none⟩=some (.string t):=by rw [cell_of_row _ _ (k*6+4) _ _ _ hh];exact e4
   have d5:wr.cell? ⟨gh,k*6+5,none⟩=some (.slice none 0 0):=by rw [cell_of_row _ _ (k*6+5) _ _ _ hh];exact e5
   have HP:Hid (OpI w 1048576 kd a b c t none 0 0):=ji6 w hlt e0 e1 e2 e3 e4;have hgl:gh<wr.heap.size:=(Array.getElem?_eq_some_iff.1 hh).1;clear e0 e1 e2 e3 e4 e5 hh ht;by_cases hkd:kd<3∨(lo<=kd∧kd<=up)
   ·have t0:(decide (kd<3)=true)∨(decide (kd<3)=false∧decide (lo<=kd)=true∧decide (kd<=up)=true):=by simp;omega
    rcases t0 with t1 | ⟨t1,t2,t3⟩
    all_goals
     go_wp2_with fail
     refine (HK.out.step_any kd a b c t none 0 0 z9o hkd (by omega) HL.out.1 HL.out.2.2.2 HP.out).mono ?_;rintro e w' ⟨rfl,hb',ρ',s',hI',hH'⟩;have HL':Hid (LI w.heap.size w.heap.size (Y (gh+1)) [ownL] [hiB] (k+1) ρ' s' w'∧ρ' gh=9∧w'.heap[gh]?=some (.cells vuj 79 (0,0))∧Below w.heap.size w w'):=by
      obtain ⟨q1,q2⟩:=hH' gh (by omega) hgl HL.out.2.1;exact ⟨hI',q2,q1.trans HL.out.2.2.1,HL.out.2.2.2.trans hb'⟩
     clear hb' hI' hH';go_wp2_with fail
     go_roundw
     case rel=>exact ⟨k+1,ρ',s',by omega,by go_num,HL'.out⟩
     case measure=>simp [intOf];omega
   ·have t1:decide (kd<3)=false:=by simp;omega
    have t0:(decide (lo<=kd)=false)∨(decide (lo<=kd)=true∧decide (kd<=up)=false):=by simp;omega
    rcases t0 with t2 | ⟨t2,t3⟩
    all_goals
     go_wp2_with fail
     go_roundw
     case rel=>exact ⟨k+1,ρ,s,by omega,by go_num,HL.out.1.mono (by omega),HL.out.2⟩
     case measure=>simp [intOf];omega
  ·obtain rfl:k=18:=by omega
   have HL0:Hid (LI w.heap.size w.heap.size (Y (gh+1)) [ownL] [hiB] 18 ρ s wr∧Below w.heap.size w wr):=⟨HL.out.1,HL.out.2.2.2⟩
   clear HL hh hk hlt;obtain ⟨q1,r1,hvc,_,_⟩:=World.ownsRow.form HL0.out.1.cs.1 (by decide);obtain ⟨q2,r2,hvs,_,_⟩:=World.ownsRow.form HL0.out.1.ss.1 (by decide);simp only [List.length_cons,List.length_nil] at hvc hvs;have c0:wr.cell? ⟨w.heap.size,0,none⟩=some (.slice (some ⟨q1,0,none⟩) 1 r1):=by rw [HL0.out.1.inv.row.cell (i:=0) (by omega),show fld s 0=s.vcs from rfl,hvc]
   have f0:=HL0.out.1.inv.row.frozen 0;have hgl:w.heap.size<wr.heap.size:=HL0.out.1.inv.row.lt;have HVC:Hid (s.vcs= .slice (some ⟨q1,0,none⟩) 1 r1):=hvc;have hr1:1<=r1:=by have h:=HL0.out.1.cs.1;rw [hvc] at h;exact zgo h
   have hr2:1<=r2:=by have h:=HL0.out.1.ss.1;rw [hvs] at h;exact zgo h
   clear hvc hvs;obtain ⟨i0,hi,hz0,hz1,hz2⟩:=info_parts ymd;rw [show ((18:Nat):Int)=18 from rfl];go_upto_region 12 with fail
   go_cut [11] (fun s11 wx=>s11= .pointer (some ⟨w.heap.size,0,none⟩)∧∃ (ρ:Nat->Nat) (s:kuu),Hid (LI w.heap.size w.heap.size (Y (gh+1)) (ownL :: C) [hiB] 18 ρ s wx∧Below w.heap.size w wx))
   case first=>
    by_cases hm:ncs=0
    ·obtain rfl:C=[]:=List.eq_nil_of_length_eq_zero (HCS.out.1.len.trans hm);subst hm;have T0:=HL0.out.1.same (HK.out.ok _) 0;rw [show fld s 0=s.vcs from rfl,HVC.out] at T0;have HT0:Hid (LI w.heap.size w.heap.size (Y (gh+1)) [ownL] [hiB] 18 ρ s (wr.setCell ⟨w.heap.size,0,none⟩ (.slice (some ⟨q1,0,none⟩) 1 r1))∧Below w.heap.size w (wr.setCell ⟨w.heap.size,0,none⟩ (.slice (some ⟨q1,0,none⟩) 1 r1))):=⟨T0.1,HL0.out.2.trans T0.2⟩
     clear T0;have hcase:acs=none∧ccs=0∨∃ x,acs=some x:=by
      cases e:acs with
      | none=>exact Or.inl ⟨rfl,(HCS.out.1.nil e).2⟩
      | some x=>exact Or.inr ⟨x,rfl⟩
     rcases hcase with ⟨rfl,rfl⟩ | ⟨x,rfl⟩
     all_goals
      go_wp2_with fail
      go_meet
      exact ⟨rfl,ρ,s,HT0.out⟩
    ·obtain ⟨x,rfl⟩:∃ x,acs=some x:=by
      cases e:acs with
      | none=>exact absurd (HCS.out.1.nil e).1 hm
      | some x=>exact ⟨x,rfl⟩
     have hnews:∀ j u,(C.flatMap k2f)[j]?=some u->wr.cell? (x.add j)=some u:=fun j u hu=>by
      obtain ⟨h1,h2⟩:=HCS.out.1.at_ x rfl j u hu;exact (HL0.out.2.cell (p:=x.add j) (by rw [ysv];exact h1)).trans h2
     have hown:wr.ownsRow w.heap.size 42 7 (.slice (some ⟨q1,0,none⟩) 1 r1) 1 ([ownL].flatMap k2f):=by have h:=HL0.out.1.cs.1;rw [HVC.out] at h;exact h
     have hlen:(C.flatMap k2f).length=ncs*7:=by rw [xgt (fun c hc=>(HCS.out.1.each c hc).1),HCS.out.1.len]
     have hone:=ku4 (l:=C);have hsm:=HCS.out.1.small;have hB0:=HL0.out.1.inv.hB;have hq1:q1≠w.heap.size:=fun e=>by have h1:=HL0.out.1.cs.2 q1 (by rw [HVC.out];rfl);rw [e,HL0.out.1.inv.rW] at h1;omega
     go_upto_region 13 with (first | (at_builtin;refine wpList_append_lies _ rfl (.tmp 86) (.tmp 87) 39 rfl w.heap.size 42 i0 _ 7 56 Tryz.underlying39 hi hz0 hz1 hz2 rfl (by decide) (.slice (some ⟨q1,0,none⟩) 1 r1) 1 ([ownL].flatMap k2f) rfl hown x ncs ccs (C.flatMap k2f) rfl hlen hnews hone (by omega) (by unfold maxLen;omega) (by omega) hB0 wr.heap.size rfl ?_))
     intro g9 p9 w9 hown9 hgrow9 hat9 hlt9;have c0':w9.cell? ⟨w.heap.size,0,none⟩=some (.slice (some ⟨q1,0,none⟩) 1 r1):=by rw [World.cell?_of_block (hgrow9.block w.heap.size hgl (by simp [Value.ownBlock];omega))];exact c0
     have f0':w9.frozen? ⟨w.heap.size,0,none⟩=false:=by rw [World.frozen?_of_block (hgrow9.block w.heap.size hgl (by simp [Value.ownBlock];omega))];exact f0
     have T0:=HL0.out.1.appCs (HK.out.ok _) (C':=C) (g:=g9) (cap:=p9) (w1:=w9) (by rw [HVC.out];exact hgrow9) (by rw [HCS.out.1.len];exact hown9) (by rw [HVC.out];exact hat9);rw [HCS.out.1.len] at T0;obtain ⟨⟨ρ9,s9,L9,_⟩,B9⟩:=T0;have HT0:Hid (LI w.heap.size w.heap.size (Y (gh+1)) (ownL :: C) [hiB] 18 ρ9 s9 (w9.setCell ⟨w.heap.size,0,none⟩ (.slice (some ⟨g9,0,none⟩) (1+ncs) p9))∧Below w.heap.size w (w9.setCell ⟨w.heap.size,0,none⟩ (.slice (some ⟨g9,0,none⟩) (1+ncs) p9))):=⟨L9,HL0.out.2.trans B9⟩
     clear L9 B9 hown9 hgrow9 hat9 hown hnews hlen hone;go_wp2_with fail
     go_meet
     exact ⟨rfl,ρ9,s9,HT0.out⟩
   case rest=>
   clear HL0 HVC c0 f0 hgl hr1 hr2 hi hz0 hz1 hz2;obtain ⟨rfl,ρ1,s1,HL1⟩:=hcut;obtain ⟨j0,hj,hy0,hy1,hy2⟩:=info_parts jjg;obtain ⟨q2,r2,hvs,_,_⟩:=World.ownsRow.form HL1.out.1.ss.1 (by decide);simp only [List.length_cons,List.length_nil] at hvs;have c1:wc.cell? ⟨w.heap.size,1,none⟩=some (.slice (some ⟨q2,0,none⟩) 1 r2):=by rw [HL1.out.1.inv.row.cell (i:=1) (by omega),show fld s1 1=s1.vss from rfl,hvs]
   have f1:=HL1.out.1.inv.row.frozen 1;have hgl:w.heap.size<wc.heap.size:=HL1.out.1.inv.row.lt;have HVS:Hid (s1.vss= .slice (some ⟨q2,0,none⟩) 1 r2):=hvs;have hr2:1<=r2:=by have h:=HL1.out.1.ss.1;rw [hvs] at h;exact zgo h
   clear hvs;go_upto_region 13 with fail
   go_cut [11] (fun s11 wx=>s11= .pointer (some ⟨w.heap.size,0,none⟩)∧∃ (ρ:Nat->Nat) (s:kuu),Hid (LI w.heap.size w.heap.size (Y (gh+1)) (ownL :: C) (hiB :: S) 18 ρ s wx∧Below w.heap.size w wx))
   case first=>
    by_cases hm:nss=0
    ·obtain rfl:S=[]:=List.eq_nil_of_length_eq_zero (HCS.out.2.len.trans hm);subst hm;have T0:=HL1.out.1.same (HK.out.ok _) 1;rw [show fld s1 1=s1.vss from rfl,HVS.out] at T0;have HT0:Hid (LI w.heap.size w.heap.size (Y (gh+1)) (ownL :: C) [hiB] 18 ρ1 s1 (wc.setCell ⟨w.heap.size,1,none⟩ (.slice (some ⟨q2,0,none⟩) 1 r2))∧Below w.heap.size w (wc.setCell ⟨w.heap.size,1,none⟩ (.slice (some ⟨q2,0,none⟩) 1 r2))):=⟨T0.1,HL1.out.2.trans T0.2⟩
     clear T0;have hcase:ass=none∧css=0∨∃ x,ass=some x:=by
      cases e:ass with
      | none=>exact Or.inl ⟨rfl,(HCS.out.2.nil e).2⟩
      | some x=>exact Or.inr ⟨x,rfl⟩
     rcases hcase with ⟨rfl,rfl⟩ | ⟨x,rfl⟩
     all_goals
      go_wp2_with fail
      go_meet
      exact ⟨rfl,ρ1,s1,HT0.out⟩
    ·obtain ⟨x,rfl⟩:∃ x,ass=some x:=by
      cases e:ass with
      | none=>exact absurd (HCS.out.2.nil e).1 hm
      | some x=>exact ⟨x,rfl⟩
     have hnews:∀ j u,(S.map Value.string)[j]?=some u->wc.cell? (x.add j)=some u:=fun j u hu=>by
      obtain ⟨h1,h2⟩:=x8g HCS.out.2 j u hu;exact (HL1.out.2.cell (p:=x.add j) (by rw [ysv];exact h1)).trans h2
     have hown:wc.ownsRow w.heap.size 9 1 (.slice (some ⟨q2,0,none⟩) 1 r2) 1 ([hiB].map Value.string):=by have h:=HL1.out.1.ss.1;rw [HVS.out] at h;exact h
     have hlen:(S.map Value.string).length=nss*1:=by rw [List.length_map,HCS.out.2.len,Nat.mul_one]
     have hone:∀ u∈S.map Value.string,u.oneCell'=true:=fun u hu=>by obtain ⟨z,_,rfl⟩:=List.mem_map.1 hu;rfl
     have hsm:=HCS.out.2.small.1;have hB0:=HL1.out.1.inv.hB;have hq2:q2≠w.heap.size:=fun e=>by have h1:=HL1.out.1.ss.2 q2 (by rw [HVS.out];rfl);rw [e,HL1.out.1.inv.rW] at h1;omega
     go_upto_region 14 with (first | (at_builtin;refine wpList_append_lies _ rfl (.tmp 95) (.tmp 96) 30 rfl w.heap.size 9 j0 _ 1 16 Tryz.underlying30 hj hy0 hy1 hy2 rfl (by decide) (.slice (some ⟨q2,0,none⟩) 1 r2) 1 ([hiB].map Value.string) rfl hown x nss css (S.map Value.string) rfl hlen hnews hone (by omega) (by unfold maxLen;omega) (by omega) hB0 wc.heap.size rfl ?_))
     intro g9 p9 w9 hown9 hgrow9 hat9 hlt9;have c1':w9.cell? ⟨w.heap.size,1,none⟩=some (.slice (some ⟨q2,0,none⟩) 1 r2):=by rw [World.cell?_of_block (hgrow9.block w.heap.size hgl (by simp [Value.ownBlock];omega))];exact c1
     have f1':w9.frozen? ⟨w.heap.size,1,none⟩=false:=by rw [World.frozen?_of_block (hgrow9.block w.heap.size hgl (by simp [Value.ownBlock];omega))];exact f1
     have T0:=HL1.out.1.appSs (HK.out.ok _) (S':=S) (g:=g9) (cap:=p9) (w1:=w9) (by rw [HVS.out];exact hgrow9) (by rw [HCS.out.2.len];exact hown9) (by rw [HVS.out];exact hat9);rw [HCS.out.2.len] at T0;obtain ⟨⟨ρ9,s9,L9⟩,B9⟩:=T0;have HT0:Hid (LI w.heap.size w.heap.size (Y (gh+1)) (ownL :: C) (hiB :: S) 18 ρ9 s9 (w9.setCell ⟨w.heap.size,1,none⟩ (.slice (some ⟨g9,0,none⟩) (1+nss) p9))∧Below w.heap.size w (w9.setCell ⟨w.heap.size,1,none⟩ (.slice (some ⟨g9,0,none⟩) (1+nss) p9))):=⟨L9,HL1.out.2.trans B9⟩
     clear L9 B9 hown9 hgrow9 hat9 hown hnews hlen hone;go_wp2_with fail
     go_meet
     exact ⟨rfl,ρ9,s9,HT0.out⟩
   case rest=>
   clear HL1 HVS c1 f1 hgl hr2 hj hy0 hy1 hy2;obtain ⟨rfl,ρ0,s0,HL0⟩:=hcut;have HLS:Hid (j2n (ownL :: C) (hiB :: S)):=by
    obtain ⟨h1,h2⟩:=HCS.out;refine ⟨?_,fun c hc=>?_,?_,fun t ht=>?_,⟨by simp,by simp⟩⟩
    ·have:=h1.small;have:=h1.len;simp only [List.length_cons];omega
    ·rcases List.mem_cons.1 hc with rfl | hc
     ·exact z9o.ce _ (List.mem_singleton.2 rfl)
     ·exact h1.each c hc
    ·have:=h2.small.1;have:=h2.len;simp only [List.length_cons];omega
    ·rcases List.mem_cons.1 ht with rfl | ht
     ·exact z9o.se _ (List.mem_singleton.2 rfl)
     ·exact Nat.le_trans (y5w ht) h2.small.2
   go_wp2_with fail
   go_loopw [15] (fun i wr=>∃ (k:Nat) (ρ:Nat->Nat) (s:kuu),k<=n∧i= .int .i64 k∧Hid (LI w.heap.size w.heap.size (Y (gh+1)) (ownL :: C) (hiB :: S) (18+k) ρ s wr∧Below w.heap.size w wr)) (fun i _=>n - (intOf i).toNat)
   case atStart=>exact ⟨0,ρ0,s0,Nat.zero_le _,rfl,HL0.out⟩
   case round=>
    clear HL0;obtain ⟨k,ρ,s,hk,rfl,HL⟩:=hrel;by_cases hlt:k<n
    ·obtain ⟨b0,o0,kd,a,b,c,t,ap,np,cp,rfl,hb0,e0,e1,e2,e3,e4,e5,hop⟩:=HSC.out k hlt;have HOP:Hid (OpI w 1048576 kd a b c t ap np cp):=hop;have m0:decide ((k:Int)<1152921504606846976)=true:=by simp;omega
     have d0:=(HL.out.2.cell (p:=⟨b0,o0+k*6,none⟩) hb0).trans e0;have d1:=(HL.out.2.cell (p:=⟨b0,o0+k*6+1,none⟩) hb0).trans e1;have d2:=(HL.out.2.cell (p:=⟨b0,o0+k*6+2,none⟩) hb0).trans e2;have d3:=(HL.out.2.cell (p:=⟨b0,o0+k*6+3,none⟩) hb0).trans e3;have d4:=(HL.out.2.cell (p:=⟨b0,o0+k*6+4,none⟩) hb0).trans e4;have d5:=(HL.out.2.cell (p:=⟨b0,o0+k*6+5,none⟩) hb0).trans e5;clear e0 e1 e2 e3 e4 e5 hop;have hal:Below wr.heap.size wr (wr.alloc (.cells #[.int .i64 kd, .int .i64 a, .int .i64 b, .int .i64 c, .string t, .slice ap np cp] 79)):=(Below.refl _ _).alloc (Nat.le_refl _) _;have HL6:Hid (LI w.heap.size w.heap.size (Y (gh+1)) (ownL :: C) (hiB :: S) (18+k) ρ s (wr.alloc (.cells #[.int .i64 kd, .int .i64 a, .int .i64 b, .int .i64 c, .string t, .slice ap np cp] 79))∧Below w.heap.size w (wr.alloc (.cells #[.int .i64 kd, .int .i64 a, .int .i64 b, .int .i64 c, .string t, .slice ap np cp] 79))):=⟨HL.out.1.below (HK.out.ok _) hal,HL.out.2.trans (hal.mono HL.out.2.size)⟩
     clear hal HL;by_cases hkd:kd<3∨(lo<=kd∧kd<=up)
     ·have t0:(decide (3<=kd)=false)∨(decide (3<=kd)=true∧decide (kd<lo)=false∧decide (up<kd)=false):=by simp;omega
      go_upto_region 18 with fail
      clear d0 d1 d2 d3 d4 d5;go_cut [16,128] (fun s16 s128 wx=>s16= .pointer (some ⟨wr.heap.size,0,none⟩)∧s128= .bool false∧wx=wr.alloc (.cells #[.int .i64 kd, .int .i64 a, .int .i64 b, .int .i64 c, .string t, .slice ap np cp] 79))
      case first=>
       rcases t0 with t1 | ⟨t1,t2,t3⟩
       all_goals
        go_wp2_with fail
        go_meet
        exact ⟨rfl,rfl,rfl⟩
      case rest=>
      obtain ⟨rfl,rfl,rfl⟩:=hcut;clear t0;go_wp2_with fail
      refine (HK.out.step_any kd a b c t ap np cp HLS.out hkd (by omega) HL6.out.1 HL6.out.2 HOP.out).mono ?_;rintro e w' ⟨rfl,hb',ρ',s',hI',_⟩;have HL':Hid (LI w.heap.size w.heap.size (Y (gh+1)) (ownL :: C) (hiB :: S) (18+(k+1)) ρ' s' w'∧Below w.heap.size w w'):=⟨hI',HL6.out.2.trans hb'⟩
      clear hb' hI' HL6 HOP hkd;go_upto_if 136 with fail
      go_cut [18] (fun s18 wx=>s18= .bool true∧∃ (ρ:Nat->Nat) (s:kuu),Hid (LI w.heap.size w.heap.size (Y (gh+1)) (ownL :: C) (hiB :: S) (18+(k+1)) ρ s wx∧Below w.heap.size w wx))
      case first=>
       cases hm1:((k:Int)%3==2)
       ·go_wp2_with fail
        go_meet
        exact ⟨rfl,ρ',s',HL'.out⟩
       ·go_wp2_with fail
        refine (ygw (HK.out.ok _) HL'.out.1 (by omega)).mono ?_;rintro e w'' ⟨rfl,hb2,ρ2,s2,hI2⟩;have HL2:Hid (LI w.heap.size w.heap.size (Y (gh+1)) (ownL :: C) (hiB :: S) (18+(k+1)) ρ2 s2 w''∧Below w.heap.size w w''):=⟨hI2,HL'.out.2.trans hb2⟩
        clear hI2 hb2;go_wp2_with fail
        go_meet
        exact ⟨rfl,ρ2,s2,HL2.out⟩
      case rest=>
      obtain ⟨rfl,ρ3,s3,HL3⟩:=hcut;clear HL';go_wp2_with fail
      refine (HK.out.looks (by omega) HL3.out.1).mono ?_;rintro e w4 ⟨rfl,hb4⟩;have HL4:Hid (LI w.heap.size w.heap.size (Y (gh+1)) (ownL :: C) (hiB :: S) (18+(k+1)) ρ3 s3 w4∧Below w.heap.size w w4):=⟨HL3.out.1.below (HK.out.ok _) hb4,HL3.out.2.trans (hb4.mono HL3.out.2.size)⟩
      clear hb4 HL3;go_wp2_with fail
      go_roundw
      case rel=>exact ⟨k+1,ρ3,s3,by omega,by go_num,HL4.out⟩
      case measure=>simp [intOf];omega
     ·have t1:decide (3<=kd)=true:=by simp;omega
      have t0:(decide (kd<lo)=true)∨(decide (kd<lo)=false∧decide (up<kd)=true):=by simp;omega
      rcases t0 with t2 | ⟨t2,t3⟩
      all_goals
       go_wp2_with fail
       go_roundw
       case rel=>exact ⟨k+1,ρ,s,by omega,by go_num,HL6.out.1.mono (by omega),HL6.out.2⟩
       case measure=>simp [intOf];omega
    ·obtain rfl:k=n:=by omega
     go_wp2_with fail
     refine (ygw (HK.out.ok _) HL.out.1 (by omega)).mono ?_;rintro e w'' ⟨rfl,hb2,ρ2,s2,hI2⟩;have HL2:Hid (LI w.heap.size w.heap.size (Y (gh+1)) (ownL :: C) (hiB :: S) (18+k) ρ2 s2 w''∧Below w.heap.size w w''):=⟨hI2,HL.out.2.trans hb2⟩
     clear hI2 hb2;go_wp2_with fail
     refine (HK.out.looks (by omega) HL2.out.1).mono ?_;rintro e w4 ⟨rfl,hb4⟩;have HB4:Hid (Below w.heap.size w w4):=HL2.out.2.trans (hb4.mono HL2.out.2.size);clear hb4;go_wp2_with fail
     go_ret
     exact ⟨rfl,HB4.out⟩
def xzn(c:Int)(n:Nat):Nat:=(if c<0 then -(c+1) else c).toNat%n
theorem kw7(c:Int)(n:Nat)(w:World)(hc:inI c)(hn:0<n)(hn2:n<=1000000000000) :
  Calls Tryz.prog 89 #[.int .i64 c, .int .i64 n] w fun e w'=>e= .returned (.int .i64 (xzn c n))∧w=w':=by
 obtain ⟨h1,h2⟩:=hc;have hn0:¬ (n:Int)=0:=by omega
 by_cases h0:c<0
 ·have hd:decide (c<0)=true:=by simpa using h0
  have hm:((-(c+1)).tmod n:Int)=(xzn c n:Nat):=by
   unfold xzn;rw [if_pos h0,Int.natCast_emod,Int.toNat_of_nonneg (by omega),Int.tmod_eq_emod_of_nonneg (by omega)]
  go_enter Tryz.func89,Tryz.ntmps89
  go_wp2_with fail
  go_ret
  exact ⟨rfl,rfl⟩
 ·have hd:decide (c<0)=false:=by simpa using h0
  have hm:(c.tmod n:Int)=(xzn c n:Nat):=by
   unfold xzn;rw [if_neg h0,Int.natCast_emod,Int.toNat_of_nonneg (by omega),Int.tmod_eq_emod_of_nonneg (by omega)]
  go_enter Tryz.func89,Tryz.ntmps89
  go_wp2_with fail
  go_ret
  exact ⟨rfl,rfl⟩
theorem SsI.at_{B:Nat}{ρ:Nat->Nat}{s:kuu}{w:World}{S:List ByteArray}(h:SsI B ρ s w S)(hS:0<S.length):∃ g cap,s.vss= .slice (some ⟨g,0,none⟩) S.length cap∧g<w.heap.size∧∀ k (hk:k<S.length),w.cell? ⟨g,k,none⟩=some (.string S[k]):=by
 obtain ⟨g,cap,hv,_,_⟩:=World.ownsRow.form h.1 hS;have h':=h.1;rw [hv] at h';refine ⟨g,cap,hv,xmo h' rfl,fun k hk=>?_⟩;have e:=World.ownsRow.cellAt h' k (by omega);rw [e];simp [hk]
theorem xjj{B gW:Nat}{Y:(Nat->Nat)->kuu->World->Prop}{C:List (List Int)}{S:List ByteArray}{k:Nat}{ρ:Nat->Nat}{s:kuu}{w:World}(h:LI B gW Y C S k ρ s w)(a b c:Int)(t:ByteArray)(ap:Option Addr)(np cp:Nat)(hL:j2n C S)(hS:0<S.length)(hb:inI b)(hO:Ords w) :
  Calls Tryz.prog 59 #[.pointer (some ⟨gW,0,none⟩), .agg (opV 6 a b c t (.slice ap np cp))] w fun e w'=>e= .returned (.bool true)∧Below w.heap.size w w':=by
 obtain ⟨g,cap,hv,hgl,hc⟩:=h.ss.at_ hS;have hgW:=h.inv.row.lt;have hpk:xzn b S.length<S.length:=Nat.mod_lt _ hS;have B0:Hid (Below w.heap.size w (w.alloc (.cells #[.int .i64 6, .int .i64 a, .int .i64 b, .int .i64 c, .string t, .slice ap np cp] 79))):=(Below.refl _ _).alloc (Nat.le_refl _) _;have c1:(w.alloc (.cells #[.int .i64 6, .int .i64 a, .int .i64 b, .int .i64 c, .string t, .slice ap np cp] 79)).cell? ⟨gW,1,none⟩=some (.slice (some ⟨g,0,none⟩) S.length cap):=by
  rw [B0.out.cell (p:=⟨gW,1,none⟩) hgW,h.inv.row.cell (i:=1) (by omega),show fld s 1=s.vss from rfl,hv]
 have c2:(w.alloc (.cells #[.int .i64 6, .int .i64 a, .int .i64 b, .int .i64 c, .string t, .slice ap np cp] 79)).cell? ⟨g,xzn b S.length,none⟩=some (.string (S[xzn b S.length]'hpk)):=by
  rw [B0.out.cell (p:=⟨g,xzn b S.length,none⟩) hgl];exact hc _ hpk
 have hsz:=hL.se _ (List.getElem_mem hpk);have hsl:=hL.sl;have HO:Hid (Ords w):=hO;generalize S[xzn b S.length]'hpk=u at c2 hsz;clear h hL hv hc hO;generalize S.length=n at *;generalize hpn:xzn b n=pn at *;have hn0:¬ (n:Int)=0:=by omega
 unfold opV;go_enter Tryz.func59,Tryz.ntmps59
 go_upto_region 29 with fail
 have hnew:(w.alloc (.cells #[.int .i64 6, .int .i64 a, .int .i64 b, .int .i64 c, .string t, .slice ap np cp] 79)).heap[w.heap.size]?=some (.cells #[.int .i64 6, .int .i64 a, .int .i64 b, .int .i64 c, .string t, .slice ap np cp] 79 (0,0)):=heap_alloc_new w _;have e1:(w.alloc (.cells #[.int .i64 6, .int .i64 a, .int .i64 b, .int .i64 c, .string t, .slice ap np cp] 79)).cell? ⟨w.heap.size,1,none⟩=some (.int .i64 a):=by rw [cell_of_row _ _ 1 _ _ _ hnew];rfl
 have e2:(w.alloc (.cells #[.int .i64 6, .int .i64 a, .int .i64 b, .int .i64 c, .string t, .slice ap np cp] 79)).cell? ⟨w.heap.size,2,none⟩=some (.int .i64 b):=by rw [cell_of_row _ _ 2 _ _ _ hnew];rfl
 have l1:w.heap.size<(w.alloc (.cells #[.int .i64 6, .int .i64 a, .int .i64 b, .int .i64 c, .string t, .slice ap np cp] 79)).heap.size:=by simp
 have l2:g<(w.alloc (.cells #[.int .i64 6, .int .i64 a, .int .i64 b, .int .i64 c, .string t, .slice ap np cp] 79)).heap.size:=by simp;omega
 have l3:gW<(w.alloc (.cells #[.int .i64 6, .int .i64 a, .int .i64 b, .int .i64 c, .string t, .slice ap np cp] 79)).heap.size:=by simp;omega
 clear hnew;generalize (w.alloc (.cells #[.int .i64 6, .int .i64 a, .int .i64 b, .int .i64 c, .string t, .slice ap np cp] 79))=W at *;obtain ⟨G,hG⟩:∃ G,G=w.heap.size:=⟨_,rfl⟩
 rw [← hG] at e1 e2 l1 ⊢;have HG:Hid (G=w.heap.size):=hG;rw [hG];rw [← HG.out];clear hG;go_region_held3 (fun wv=>wv.cell? ⟨G,1,none⟩=some (.int .i64 a)∧wv.cell? ⟨G,2,none⟩=some (.int .i64 b)∧wv.cell? ⟨gW,1,none⟩=some (.slice (some ⟨g,0,none⟩) n cap)∧wv.cell? ⟨g,pn,none⟩=some (.string u)) (first | exact ⟨e1,e2,c1,c2⟩ | exact ⟨f1,f2,f3,f4⟩)
  (first
   | (go_at_call 89;refine (kw7 b n _ hb (by omega) (by omega)).mono ?_;rintro e w' ⟨rfl,rfl⟩;rw [hpn])
   | (go_at_call 88;refine (v3b a u _ (by omega) (HO.out.below B0.out.drew).ref (HO.out.below B0.out.drew).prog).mono ?_;rintro e w1 ⟨rfl,hb1⟩;have HB1:Hid (Below w.heap.size w w1):=y6y B0.out.drew hb1;have f1:=(hb1.cell (p:=⟨G,1,none⟩) l1).trans e1;have f2:=(hb1.cell (p:=⟨G,2,none⟩) l1).trans e2;have f3:=(hb1.cell (p:=⟨gW,1,none⟩) l3).trans c1;have f4:=(hb1.cell (p:=⟨g,pn,none⟩) l2).trans c2;clear hb1))
 all_goals
  go_wp2_with fail
  go_ret
  exact ⟨rfl,HB1.out⟩
theorem x6o(gW:Nat)(kd a b c:Int)(t:ByteArray)(ap:Option Addr)(np cp:Nat)(w:World)(h5:5<=kd∧kd<=7)
  (H:∀ W,Below w.heap.size w W->Calls Tryz.prog 59 #[.pointer (some ⟨gW,0,none⟩), .agg (opV kd a b c t (.slice ap np cp))] W fun e w'=>e= .returned (.bool true)∧Below W.heap.size W w') :
  Calls Tryz.prog 34 #[.pointer (some ⟨gW,0,none⟩), .agg (opV kd a b c t (.slice ap np cp))] w fun e w'=>e= .returned (.bool true)∧Below w.heap.size w w':=by
 have B0:Hid (Below w.heap.size w (w.alloc (.cells #[.int .i64 kd, .int .i64 a, .int .i64 b, .int .i64 c, .string t, .slice ap np cp] 79))):=(Below.refl _ _).alloc (Nat.le_refl _) _;have HH:Hid (∀ W,Below w.heap.size w W->Calls Tryz.prog 59 #[.pointer (some ⟨gW,0,none⟩), .agg (opV kd a b c t (.slice ap np cp))] W fun e w'=>e= .returned (.bool true)∧Below W.heap.size W w'):=H;clear H;have t1:(kd==1)=false:=by simp;omega
 have t2:(kd==2)=false:=by simp;omega
 have t4:decide (3<=kd)=true:=by simp;omega
 have t5:decide (kd<=7)=true:=by simp;omega
 unfold opV;go_enter Tryz.func34,Tryz.ntmps34
 go_wp2_with fail
 refine (HH.out _ B0.out).mono ?_;rintro e w1 ⟨rfl,hb1⟩;have HB1:Hid (Below w.heap.size w w1):=y6y B0.out hb1;clear hb1;go_wp2_with fail
 go_ret
 exact ⟨rfl,HB1.out⟩
def YM(_:Nat)(_:Nat->Nat)(s:kuu)(_:World):Prop:=s.vrn= .slice none 0 0∧s.vtx= .slice none 0 0
theorem yrj(H:Nat):YOk (YM H):=⟨fun h _ _ e1 e2 _ _=>⟨e1.trans h.1,e2.trans h.2⟩,fun h _ _ _ e1 e2=>⟨e1.trans h.1,e2.trans h.2⟩,fun _ _ _ h1 h2=>⟨h1,h2⟩⟩
theorem kva(up:Int)(w:World)(hup:up<=7)(hO:Ords w):zgf 5 up w YM where
 ok:=yrj
 lo3:=by omega
 step:=fun {H C S k ρ s wr} kd a b c t ap np cp hL h1 h2 hk hI hb hOp=>by
  have hOr:Ords wr:=hO.below hb;refine (x6o w.heap.size kd a b c t ap np cp wr ⟨h1,by omega⟩ (fun W hW=>?_)).mono ?_
  ·have hOW:Ords W:=hOr.below hW;have ht:t.size<=1000000000:=by have:=hOp.t;omega
   have h3:kd=5∨kd=6∨kd=7:=by omega
   rcases h3 with rfl | rfl | rfl
   ·exact yul w.heap.size a b c t ap np cp W ht hOW
   ·exact xjj (hI.below (yrj H) hW) a b c t ap np cp hL hL.ne.2 hOp.b hOW
   ·exact knn w.heap.size a b c t ap np cp W ht hOW
  ·rintro e w' ⟨rfl,hb'⟩;exact ⟨rfl,hb'.mono hb.size,ρ,s,(hI.below (yrj H) hb').mono (by omega),fun i _ hi h9=>⟨hb'.block i hi,h9⟩⟩
 looks:=fun {H C S k ρ s wr} hk hI=>by
  have:=hI.fw.bk;exact z5m w.heap.size w.heap.size 0 ρ s wr hI.inv (by omega) hI.y.2
theorem xl0(w:World)(N:Nat):Cfgs w N none 0 0 []:=⟨rfl,fun c hc=>(by cases hc),fun _ e=>(by cases e),⟨Nat.le_refl _,by unfold maxLen;omega⟩,fun _=>⟨rfl,rfl⟩,Nat.zero_le _⟩
theorem zem(w:World)(N:Nat):Txts w N none 0 0 []:=⟨rfl,fun k hk=>by simp at hk,⟨Nat.le_refl _,by unfold maxLen;omega⟩,fun _=>⟨rfl,rfl⟩,fun _ e=>(by cases e),Nat.zero_le _,Nat.zero_le _⟩
theorem blocks_walk(ad:Option Addr)(n cap:Nat)(w:World)(hn:n<=1048576)(hsc:Scr 1048576 w ad n)(hO:Ords w) :
  Calls Tryz.prog 4 #[.slice ad n cap] w fun e w'=>e= .returned (.bool true)∧Below w.heap.size w w':=by
 have HSC:Hid (Scr 1048576 w ad n∧Ords w):=⟨hsc,hO⟩
 clear hsc hO;go_enter Tryz.func4,Tryz.ntmps4
 go_wp2_with fail
 refine (xqq 5 5 YM none 0 0 [] none 0 0 [] ad n cap w hn HSC.out.1 (xl0 _ _) (zem _ _) (kva 5 w (by omega) HSC.out.2)).mono ?_;rintro e w' ⟨rfl,hb⟩;go_wp2_with fail
 go_ret
 exact ⟨rfl,hb⟩
theorem means_walk(ass:Option Addr)(ns cs:Nat)(S:List ByteArray)(ad:Option Addr)(n cap:Nat)(w:World)(hn:n<=1048576)(hsc:Scr 1048576 w ad n)(hS:Txts w 1048576 ass ns cs S)(hO:Ords w) :
  Calls Tryz.prog 6 #[.slice ass ns cs, .slice ad n cap] w fun e w'=>e= .returned (.bool true)∧Below w.heap.size w w':=by
 have HSC:Hid (Scr 1048576 w ad n∧Ords w∧Txts w 1048576 ass ns cs S):=⟨hsc,hO,hS⟩
 clear hsc hO hS;go_enter Tryz.func6,Tryz.ntmps6
 go_wp2_with fail
 refine (xqq 5 7 YM none 0 0 [] ass ns cs S ad n cap w hn HSC.out.1 (xl0 _ _) HSC.out.2.2 (kva 7 w (by omega) HSC.out.2.1)).mono ?_;rintro e w' ⟨rfl,hb⟩;go_wp2_with fail
 go_ret
 exact ⟨rfl,hb⟩
end Go.Proofs.YtbcjmakpempkiaaGreatDoor
