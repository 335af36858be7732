/- The contract of step, at the steps that the law of Codes plays. -/
import Derived.Test.YtbcjmakpempkiaaGreatDoorLj
namespace Go.Proofs.YtbcjmakpempkiaaGreatDoor
open Go.RowKit
/-- how what a script has made grows by one step -/
structure Nxt (s s' : LawSt) : Prop where
  st : s'.still = s.still
  cs : s'.vcs = s.vcs
  ss : s'.vss = s.vss
  ln : s'.lens.length ≤ s.lens.length + 1
  mks : s'.mks ≤ s.mks + 1
  wt : s'.waits.length ≤ s.waits.length + 2
  bk : s'.books.length ≤ s.books.length + 1
theorem Nxt.refl (s : LawSt) : Nxt s s := ⟨rfl, rfl, rfl, by omega, by omega, by omega, by omega⟩
theorem fld_set_lens (s : LawSt) (v : Value) (l : List Int) (i : Nat) (hi : i < 9) : (if i = 2 then v else fld s i) = fld { s with vl := v, lens := l } i := by
  have : i = 0 ∨ i = 1 ∨ i = 2 ∨ i = 3 ∨ i = 4 ∨ i = 5 ∨ i = 6 ∨ i = 7 ∨ i = 8 := by omega
  rcases this with rfl | rfl | rfl | rfl | rfl | rfl | rfl | rfl | rfl <;> simp [fld]
/-- other lengths -/
theorem Inv.setLen {B gW d : Nat} {ρ ρ' : Nat → Nat} {s : LawSt} {w w' : World} {v : Value} {l : List Int} (h : Inv B gW d ρ s w) (hk : Kp (fun r => r = 1 ∨ r = 5) ρ w w') (hrow : w'.rowIs gW 75 9 (fld { s with vl := v, lens := l }))
    (hO : OI w' B v l) (hv : ∀ g, v.ownBlock = some g → ρ' g = 1) (hρ : ∀ k, k < w.heap.size → ρ' k = ρ k) (hl : l.length ≤ 100000000) (hn : v = .slice none 0 0 ∨ 0 < l.length) : Inv B gW d ρ' { s with vl := v, lens := l } w' := by
  have h' := h.turn (ρ' := ρ') (fun k hk _ => hρ k hk)
  have kk : Kp (fun r => r = 1 ∨ r = 5) ρ' w w' := hk.congr (fun k hk => by rw [hρ k hk]; exact fun x => x)
  exact {
    gB := h.gB
    hB := Nat.le_trans h.hB kk.size
    row := hrow
    len := hO
    wts := own_kp h'.wts kk (fun g hg hr => by have := h'.rwv g hg; omega)
    wrs := own_kp h'.wrs kk (fun g hg hr => by have := h'.rr g hg; omega)
    bks := own_kp h'.bks kk (fun g hg hr => by have := h'.rb g hg; omega)
    lenw := h.lenw
    wt := fun i hi hd => ⟨own_kp (h'.wt i hi hd).1 kk (fun g hg hr => by have := h'.rwt i hi hd g hg; omega), (h'.wt i hi hd).2⟩
    wr := fun i hi hi' => own_kp (h'.wr i hi hi') kk (fun g hg hr => by have := h'.rwr _ (List.getElem_mem hi) g hg; omega)
    bk := fun b hb => ⟨(h'.bk b hb).1, fun x hx => by
      obtain ⟨n, hn⟩ := (h'.bk b hb).2 x hx
      exact ⟨n, own_kp hn kk (fun g hg hr => by have := h'.rbk b hb x hx g hg; omega)⟩⟩
    rW := h'.rW
    rl := hv
    rwv := h'.rwv
    rr := h'.rr
    rb := h'.rb
    rwt := h'.rwt
    rwr := h'.rwr
    rbk := h'.rbk
    mkB := h.mkB
    lnB := hl
    lnN := hn
    wlB := h.wlB
    stl := fun x hx => stl_kp (h'.stl x hx) kk (fun hr => by have := h'.rst x hx; omega)
    rst := h'.rst }
theorem len_done {B gW d : Nat} {ρ : Nat → Nat} {s : LawSt} {w w1 : World} {o : Obj} {gg cap : Nat} {x : Int} (h : Inv B gW d ρ s w)
    (hgrow : (w.alloc o).drew.grownBy w1 s.vl.ownBlock) (hown : w1.ownsRow B 3 1 (.slice (some ⟨gg, 0, none⟩) (s.lens.length + 1) cap) (s.lens.length + 1) (ivals s.lens ++ [.int .i64 x]))
    (hat : s.vl.ownBlock = some gg ∨ gg = w.heap.size + 1) (hl : s.lens.length + 1 ≤ 100000000) :
    Below B w (w1.setCell ⟨gW, 2, none⟩ (.slice (some ⟨gg, 0, none⟩) (s.lens.length + 1) cap)) ∧
    Inv B gW d (setρ ρ gg 1) { s with vl := .slice (some ⟨gg, 0, none⟩) (s.lens.length + 1) cap, lens := s.lens ++ [x] } (w1.setCell ⟨gW, 2, none⟩ (.slice (some ⟨gg, 0, none⟩) (s.lens.length + 1) cap)) := by
  have k1 : Kp (fun r => r = 1) ρ w w1 := by
    have a : Kp (fun r => r = 1) ρ w (w.alloc o).drew := Kp.of_below (((Below.refl _ _).alloc (Nat.le_refl _) o).drew)
    exact a.trans (Kp.of_grown hgrow (fun g hg => h.rl g hg))
  have k2 : Kp (fun r => r = 1 ∨ r = 5) ρ w (w1.setCell ⟨gW, 2, none⟩ (.slice (some ⟨gg, 0, none⟩) (s.lens.length + 1) cap)) :=
    (k1.mono (fun _ x => Or.inl x)).trans (Kp.of_set w1 _ _ (Or.inr h.rW))
  have hgn : gg ≠ gW := by
    rcases hat with e | e
    · intro e'; have := h.rl gg e; rw [e', h.rW] at this; omega
    · have := h.row.lt; omega
  refine ⟨?_, h.setLen k2 (((row_kp h.row k1 (by rw [h.rW]; omega)).set 2 _).congr (fun i hi => fld_set_lens s _ _ i hi)) ?_ (fun g hg => by simp [Value.ownBlock] at hg; subst hg; exact setρ_at _ _ _) (fun k hk => ?_) (by simpa using hl) (Or.inr (by simp))⟩
  · have a : Below B w (w.alloc o).drew := ((Below.refl _ _).alloc h.hB o).drew
    exact (a.grown hgrow (by have := h.hB; simp; omega) (fun g hg => (h.len.lt g hg).1)).setCell h.gB _
  · have e : ivals (s.lens ++ [x]) = ivals s.lens ++ [.int .i64 x] := by simp [ivals]
    unfold OI
    rw [e]
    simp only [List.length_append, List.length_cons, List.length_nil, Nat.zero_add]
    exact own_kp (R := fun k => k = gW) (ρ := fun k => k) hown ⟨by simp [World.setCell], fun k _ hk => Below.heap_setCell _ _ _ _ hk⟩ (fun g hg => by simp [Value.ownBlock] at hg; omega)
  · by_cases e : k = gg
    · subst e
      rcases hat with e | e
      · rw [setρ_at, h.rl _ e]
      · omega
    · exact setρ_ne e
set_option maxRecDepth 100000 in
set_option maxHeartbeats 2000000 in
theorem step_bare (B gW : Nat) (ρ : Nat → Nat) (s : LawSt) (a b c : Int) (t : ByteArray) (ap : Option Addr) (np cp : Nat) (w : World) (h : Inv B gW 0 ρ s w) :
    Calls Tryz.prog 34 #[.pointer (some ⟨gW, 0, none⟩), .agg (opV 2 a b c t (.slice ap np cp))] w fun e w' => e = .returned (.bool true) ∧ Below B w w' ∧ ∃ (ρ' : Nat → Nat) (s' : LawSt), Inv B gW 0 ρ' s' w' ∧ Nxt s s' := by
  have HI : Hid (Inv B gW 0 ρ s w) := h
  have hgl : gW < w.heap.size := h.row.lt
  have B0 : Below w.heap.size w (w.alloc (.cells #[.int .i64 2, .int .i64 a, .int .i64 b, .int .i64 c, .string t, .slice ap np cp] 79)) := (Below.refl _ _).alloc (Nat.le_refl _) _
  have c2 : w.cell? ⟨gW, 2, none⟩ = some s.vl := h.row.cell (i := 2) (by omega)
  have f2 := h.row.frozen 2
  unfold opV
  clear h
  go_enter Tryz.func34, Tryz.ntmps34
  go_wp2_with fail
  go_ret
  have k1 : Kp (fun r => r = 1 ∨ r = 5) ρ w (w.setCell ⟨gW, 2, none⟩ (.slice none 0 0)) := Kp.of_set w _ _ (Or.inr HI.out.rW)
  have I1 := HI.out.setLen (ρ' := ρ) (v := .slice none 0 0) (l := []) k1 ((HI.out.row.set 2 _).congr (fun i hi => fld_set_lens s _ _ i hi)) (OI.nil _ _) (fun g hg => by simp [Value.ownBlock] at hg) (fun _ _ => rfl) (by simp) (Or.inl rfl)
  have B1 : Below B w (w.setCell ⟨gW, 2, none⟩ (.slice none 0 0)) := (Below.refl _ _).setCell HI.out.gB _
  exact ⟨rfl, B1.alloc (by have := HI.out.hB; simp [World.setCell]; omega) _, ρ, _, I1.below ((Below.refl _ _).alloc (Nat.le_refl _) _), ⟨rfl, rfl, rfl, by simp, by simp, by simp, by simp⟩⟩
set_option maxRecDepth 100000 in
set_option maxHeartbeats 2000000 in
theorem step_length (B gW : Nat) (ρ : Nat → Nat) (s : LawSt) (a b c : Int) (t : ByteArray) (ap : Option Addr) (np cp : Nat) (w : World) (h : Inv B gW 0 ρ s w) (hln : s.lens.length ≤ 90000000) :
    Calls Tryz.prog 34 #[.pointer (some ⟨gW, 0, none⟩), .agg (opV 1 a b c t (.slice ap np cp))] w fun e w' => e = .returned (.bool true) ∧ Below B w w' ∧ ∃ (ρ' : Nat → Nat) (s' : LawSt), Inv B gW 0 ρ' s' w' ∧ Nxt s s' := by
  obtain ⟨Wb, hWb⟩ : ∃ Wb, Wb = w.alloc (.cells #[.int .i64 1, .int .i64 a, .int .i64 b, .int .i64 c, .string t, .slice ap np cp] 79) := ⟨_, rfl⟩
  have B0 : Below w.heap.size w Wb := by rw [hWb]; exact (Below.refl _ _).alloc (Nat.le_refl _) _
  have hI := h.below B0
  have HI : Hid (Inv B gW 0 ρ s Wb) := hI
  have HB : Hid (Below B w Wb) := B0.mono h.hB
  have hgl : gW < Wb.heap.size := hI.row.lt
  have hBs := hI.hB
  have c2 : Wb.cell? ⟨gW, 2, none⟩ = some s.vl := hI.row.cell (i := 2) (by omega)
  have f2 := hI.row.frozen 2
  have hown : Wb.ownsRow B 3 1 s.vl s.lens.length (ivals s.lens) := hI.len
  have ag : s.vl.ownBlock ≠ some gW := fun e => by have h1 := hI.rl gW e; have h2 := hI.rW; omega
  have ca : Wb.cell? ⟨w.heap.size, 1, none⟩ = some (.int .i64 a) := by
    have h1 : Wb.heap[w.heap.size]? = some (.cells #[.int .i64 1, .int .i64 a, .int .i64 b, .int .i64 c, .string t, .slice ap np cp] 79 (0, 0)) := by rw [hWb]; exact heap_alloc_new w _
    rw [cell_of_row _ _ 1 _ _ _ h1]; rfl
  have hbw : w.heap.size < Wb.heap.size := by rw [hWb]; simp
  clear h hI B0
  unfold opV
  obtain ⟨i0, hi, hz0, hz1, hz2⟩ := info_parts info3
  go_enter Tryz.func34, Tryz.ntmps34
  go_upto_region 2 with fail
  rw [← hWb]
  clear hWb
  go_region_law
    ((refine step_append_lies _ (by rfl) _ _ _ (by rfl) B 3 i0 _ 1 8 Tryz.underlying69 hi hz0 hz1 hz2 rfl (by omega) s.vl s.lens.length (ivals s.lens) (by rfl) ((hown.alloc _).drew)
        ⟨Wb.heap.size, 0, none⟩ 1 1 [.int .i64 a] (by rfl) (by rfl) (cell_one_new Wb _ _) (by simp [Value.oneCell'])
        (by omega) (by unfold maxLen; omega) (by omega) (by simp; omega) (Wb.heap.size + 1) (by simp) ?_; intro gg cap w1 hown1 hgrow hat hlt; have k2 := k_far hgrow hgl ag c2; have z2 := z_far hgrow hgl ag f2))
  all_goals go_wp2_with fail
  all_goals go_ret
  all_goals
    have T := len_done HI.out hgrow hown1 hat (by omega)
    exact ⟨rfl, HB.out.trans T.1, _, _, T.2, ⟨rfl, rfl, rfl, by simp, by simp, by simp, by simp⟩⟩
theorem step_other (B gW : Nat) (ρ : Nat → Nat) (s : LawSt) (kd a b c : Int) (t : ByteArray) (ap : Option Addr) (np cp : Nat) (w : World) (h : Inv B gW 0 ρ s w) (hk : kd ≤ 0) :
    Calls Tryz.prog 34 #[.pointer (some ⟨gW, 0, none⟩), .agg (opV kd a b c t (.slice ap np cp))] w fun e w' => e = .returned (.bool true) ∧ Below B w w' ∧ ∃ (ρ' : Nat → Nat) (s' : LawSt), Inv B gW 0 ρ' s' w' ∧ Nxt s s' := by
  have HI : Hid (Inv B gW 0 ρ s w) := h
  have B0 : Hid (Below w.heap.size w (w.alloc (.cells #[.int .i64 kd, .int .i64 a, .int .i64 b, .int .i64 c, .string t, .slice ap np cp] 79))) := (Below.refl _ _).alloc (Nat.le_refl _) _
  unfold opV
  clear h
  have t1 : (kd == 1) = false := by simp; omega
  have t2 : (kd == 2) = false := by simp; omega
  have t3 : (kd == 8) = false := by simp; omega
  have t4 : decide (3 ≤ kd) = false := by simp; omega
  have t5 : decide (8 < kd) = false := by simp; omega
  go_enter Tryz.func34, Tryz.ntmps34
  go_wp2_with fail
  go_ret
  exact ⟨rfl, B0.out.mono HI.out.hB, ρ, s, HI.out.below B0.out, Nxt.refl s⟩
set_option maxRecDepth 100000 in
set_option maxHeartbeats 2000000 in
theorem step_sum (B gW : Nat) (ρ : Nat → Nat) (s : LawSt) (a b c : Int) (t : ByteArray) (ap : Option Addr) (np cp : Nat) (w : World) (h : Inv B gW 0 ρ s w) (ht : t.size ≤ maxLen) :
    Calls Tryz.prog 34 #[.pointer (some ⟨gW, 0, none⟩), .agg (opV 3 a b c t (.slice ap np cp))] w fun e w' => e = .returned (.bool true) ∧ Below B w w' ∧ ∃ (ρ' : Nat → Nat) (s' : LawSt), Inv B gW 0 ρ' s' w' ∧ Nxt s s' := by
  have HI : Hid (Inv B gW 0 ρ s w) := h
  have B0 : Hid (Below w.heap.size w (w.alloc (.cells #[.int .i64 3, .int .i64 a, .int .i64 b, .int .i64 c, .string t, .slice ap np cp] 79))) := (Below.refl _ _).alloc (Nat.le_refl _) _
  clear h
  unfold opV
  go_enter Tryz.func34, Tryz.ntmps34
  go_wp2_with fail
  refine (words_sum gW a b c t ap np cp _ ht).mono ?_
  rintro e w1 ⟨rfl, hb1⟩
  have HB1 : Hid (Below w.heap.size w w1) := grow2 B0.out hb1
  clear hb1
  go_wp2_with fail
  go_ret
  exact ⟨rfl, HB1.out.mono HI.out.hB, ρ, s, HI.out.below HB1.out, Nxt.refl s⟩
theorem words_codes (B gW : Nat) (ρ : Nat → Nat) (s : LawSt) (a b c : Int) (t : ByteArray) (ap : Option Addr) (np cp : Nat) (w : World) (h : Inv B gW 0 ρ s w) (hwl : s.waits.length ≤ 100000000) (hbl : s.books.length ≤ 900000000) (hmk : s.mks ≤ 900000000) :
    Calls Tryz.prog 59 #[.pointer (some ⟨gW, 0, none⟩), .agg (opV 4 a b c t (.slice ap np cp))] w fun e w' => e = .returned (.bool true) ∧ Below B w w' ∧ ∃ (ρ' : Nat → Nat) (s' : LawSt), Inv B gW 0 ρ' s' w' ∧ Nxt s s' := by
  have fin : ∀ (e : Ending) (w' : World), (e = .returned (.bool true) ∧ Below B w w' ∧ ∃ (ρ' : Nat → Nat) (s' : LawSt), Inv B gW 0 ρ' s' w' ∧ s'.still = s.still ∧ s'.vcs = s.vcs ∧ s'.vss = s.vss ∧ s'.vl = s.vl ∧ s'.lens = s.lens ∧ s'.mks ≤ s.mks + 1 ∧ s'.waits.length = s.waits.length + 2 ∧ s'.books.length ≤ s.books.length + 1) → (e = .returned (.bool true) ∧ Below B w w' ∧ ∃ (ρ' : Nat → Nat) (s' : LawSt), Inv B gW 0 ρ' s' w' ∧ Nxt s s') := by
    rintro e w' ⟨he, hb, ρ', s', hI, a0, a1, a2, _, a4, a5, a6, a7⟩
    exact ⟨he, hb, ρ', s', hI, ⟨a0, a1, a2, by rw [a4]; omega, a5, by omega, a7⟩⟩
  by_cases hn : 0 < s.lens.length
  · obtain ⟨gl, cl, hv, _, _⟩ := World.ownsRow.form h.len hn
    cases hacc : accepts s.lens
    · exact (words_codes_no B gW ρ s a b c t ap np cp gl cl w h hv hn hacc hwl hbl hmk).mono fin
    · exact (words_codes_yes B gW ρ s a b c t ap np cp gl cl w h hv hn hacc hwl hbl hmk).mono fin
  · have hv : s.vl = .slice none 0 0 := by
      rcases h.lnN with e | e
      · exact e
      · exact absurd e hn
    exact (words_codes_nil B gW ρ s a b c t ap np cp w h hv hwl).mono fin
set_option maxRecDepth 100000 in
set_option maxHeartbeats 2000000 in
theorem step_codes (B gW : Nat) (ρ : Nat → Nat) (s : LawSt) (a b c : Int) (t : ByteArray) (ap : Option Addr) (np cp : Nat) (w : World) (h : Inv B gW 0 ρ s w) (hwl : s.waits.length ≤ 100000000) (hbl : s.books.length ≤ 900000000) (hmk : s.mks ≤ 900000000) :
    Calls Tryz.prog 34 #[.pointer (some ⟨gW, 0, none⟩), .agg (opV 4 a b c t (.slice ap np cp))] w fun e w' => e = .returned (.bool true) ∧ Below B w w' ∧ ∃ (ρ' : Nat → Nat) (s' : LawSt), Inv B gW 0 ρ' s' w' ∧ Nxt s s' := by
  have HI : Hid (Inv B gW 0 ρ s w) := h
  have B0 : Hid (Below w.heap.size w (w.alloc (.cells #[.int .i64 4, .int .i64 a, .int .i64 b, .int .i64 c, .string t, .slice ap np cp] 79))) := (Below.refl _ _).alloc (Nat.le_refl _) _
  clear h
  unfold opV
  go_enter Tryz.func34, Tryz.ntmps34
  go_wp2_with fail
  refine (words_codes B gW ρ s a b c t ap np cp _ (HI.out.below B0.out) hwl hbl hmk).mono ?_
  rintro e w1 ⟨rfl, hb1, ρ1, s1, hI1, hx1⟩
  have HB1 : Hid (Below B w w1) := (B0.out.mono HI.out.hB).trans hb1
  have HI1 : Hid (Inv B gW 0 ρ1 s1 w1) := hI1
  have HX1 : Hid (Nxt s s1) := hx1
  clear hb1 hI1 hx1
  go_wp2_with fail
  go_ret
  exact ⟨rfl, HB1.out, ρ1, s1, HI1.out, HX1.out⟩
/-- whatever step the law of Codes plays -/
theorem step_any (B gW : Nat) (ρ : Nat → Nat) (s : LawSt) (kd a b c : Int) (t : ByteArray) (ap : Option Addr) (np cp : Nat) (w : World) (h : Inv B gW 0 ρ s w) (hk : kd ≤ 4) (ht : t.size ≤ maxLen) (hln : s.lens.length ≤ 90000000) (hwl : s.waits.length ≤ 100000000) (hbl : s.books.length ≤ 900000000) (hmk : s.mks ≤ 900000000) :
    Calls Tryz.prog 34 #[.pointer (some ⟨gW, 0, none⟩), .agg (opV kd a b c t (.slice ap np cp))] w fun e w' => e = .returned (.bool true) ∧ Below B w w' ∧ ∃ (ρ' : Nat → Nat) (s' : LawSt), Inv B gW 0 ρ' s' w' ∧ Nxt s s' := by
  have : kd ≤ 0 ∨ kd = 1 ∨ kd = 2 ∨ kd = 3 ∨ kd = 4 := by omega
  rcases this with h0 | rfl | rfl | rfl | rfl
  · exact step_other B gW ρ s kd a b c t ap np cp w h h0
  · exact step_length B gW ρ s a b c t ap np cp w h hln
  · exact step_bare B gW ρ s a b c t ap np cp w h
  · exact step_sum B gW ρ s a b c t ap np cp w h ht
  · exact step_codes B gW ρ s a b c t ap np cp w h hwl hbl hmk
end Go.Proofs.YtbcjmakpempkiaaGreatDoor
