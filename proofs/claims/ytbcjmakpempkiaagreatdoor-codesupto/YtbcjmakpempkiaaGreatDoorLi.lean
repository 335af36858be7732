/- The contract of words at a Codes of some lengths. -/
import Derived.Test.YtbcjmakpempkiaaGreatDoorLh
namespace Go.Proofs.YtbcjmakpempkiaaGreatDoor
open Go.RowKit
theorem row_lent {w : World} {g n : Nat} {l : List Int} (h : w.rowIs g 3 (l.length + n) (fun i => .int .i64 (lentAt l i))) : CellsO w (some ⟨g, 0, none⟩) l := fun k hk => by
  refine ⟨g, 0, rfl, h.lt, ?_⟩
  rw [Nat.zero_add, h.cell (by omega)]
  unfold lentAt
  rw [if_pos hk]
theorem row_marked {w : World} {g n : Nat} {m : Int} {k : Nat} (h : w.rowIs g 3 (n + k) (fun _ => .int .i64 m)) : CellsO w (some ⟨g, 0, none⟩) (List.replicate n m) := fun i hi => by
  have hi' : i < n := by simpa using hi
  refine ⟨g, 0, rfl, h.lt, ?_⟩
  rw [Nat.zero_add, h.cell (by omega)]
  simp [hi']
theorem cells_news {w : World} {g : Nat} {l : List Int} (h : CellsO w (some ⟨g, 0, none⟩) l) : ∀ (j : Nat) (u : Value), (ivals l)[j]? = some u → w.cell? ((⟨g, 0, none⟩ : Addr).add j) = some u := by
  intro j u hu
  have hj : j < l.length := by
    rcases Nat.lt_or_ge j l.length with h' | h'
    · exact h'
    · simp [ivals, h'] at hu
  obtain ⟨b, o, e, _, hc⟩ := h j hj
  simp only [Option.some.injEq, Addr.mk.injEq, and_true] at e
  rw [addr_add, e.1, e.2, hc]
  simpa [ivals, hj] using hu
theorem accepts_marked {n : Nat} {m : Int} (hn : 0 < n) (hm : m < 0) : accepts (List.replicate n m) = false := by
  have : inRange (List.replicate n m) = false := by
    rw [Bool.eq_false_iff]
    intro h
    have := List.all_eq_true.1 h m (by simp; omega)
    simp [okLen] at this
    omega
  simp [accepts, this]
theorem refCodes_no (ad : Option Addr) (cap : Nat) (l : List Int) (w : World) (hl : l.length ≤ 9223372036854775807) (hc : CellsO w ad l) (h : accepts l = false) :
    Calls Tryz.prog 84 #[.slice ad l.length cap] w fun e w' => e = .returned (.tuple #[.slice none 0 0, .int .i64 10]) ∧ Below w.heap.size w w' := by
  by_cases h1 : l.length ≤ 269
  · refine (refCodes_near ad cap l w h1 hc).mono ?_
    rintro e w' (⟨h', _⟩ | ⟨_, h'⟩)
    · rw [h] at h'; simp at h'
    · exact h'
  · exact (refCodes_far ad l.length cap w (by omega) hl).mono fun e w' ⟨he, hw⟩ => ⟨he, hw ▸ Below.refl _ _⟩
theorem codes_no' (ad : Option Addr) (cap : Nat) (l : List Int) (w : World) (hl : l.length ≤ 9223372036854775807) (hc : CellsO w ad l) (h : accepts l = false) :
    Calls Tryz.prog 83 #[.slice ad l.length cap] w fun e w' => e = .returned (.tuple #[.slice none 0 0, .int .i64 10]) ∧ Below w.heap.size w w' := by
  refine (codes_at ad cap l w hl hc).mono ?_
  rintro e w' (⟨h', _⟩ | ⟨_, h'⟩)
  · rw [h] at h'; simp at h'
  · exact h'
theorem codes_no_n (ad : Option Addr) (cap n : Nat) (l : List Int) (w : World) (hn : l.length = n) (hl : n ≤ 9223372036854775807) (hc : CellsO w ad l) (h : accepts l = false) :
    Calls Tryz.prog 83 #[.slice ad n cap] w fun e w' => e = .returned (.tuple #[.slice none 0 0, .int .i64 10]) ∧ Below w.heap.size w w' := by
  subst hn; exact codes_no' ad cap l w hl hc h
theorem refCodes_no_n (ad : Option Addr) (cap n : Nat) (l : List Int) (w : World) (hn : l.length = n) (hl : n ≤ 9223372036854775807) (hc : CellsO w ad l) (h : accepts l = false) :
    Calls Tryz.prog 84 #[.slice ad n cap] w fun e w' => e = .returned (.tuple #[.slice none 0 0, .int .i64 10]) ∧ Below w.heap.size w w' := by
  subst hn; exact refCodes_no ad cap l w hl hc h

set_option maxRecDepth 100000 in
set_option maxHeartbeats 4000000 in
theorem words_codes_no (B gW : Nat) (ρ : Nat → Nat) (s : LawSt) (a b c : Int) (t : ByteArray) (ap : Option Addr) (np cp gl cl : Nat) (w : World) (h : Inv B gW 0 ρ s w) (hv : s.vl = .slice (some ⟨gl, 0, none⟩) s.lens.length cl) (hn : 0 < s.lens.length) (hacc : accepts s.lens = false) (hwl : s.waits.length ≤ 100000000) (hbl : s.books.length ≤ 900000000) (hmk : s.mks ≤ 900000000) :
    Calls Tryz.prog 59 #[.pointer (some ⟨gW, 0, none⟩), .agg (opV 4 a b c t (.slice ap np cp))] w fun e w' => e = .returned (.bool true) ∧ Below B w w' ∧ ∃ (ρ' : Nat → Nat) (s' : LawSt), Inv B gW 0 ρ' s' w' ∧ s'.still = s.still ∧ s'.vcs = s.vcs ∧ s'.vss = s.vss ∧ s'.vl = s.vl ∧ s'.lens = s.lens ∧ s'.mks ≤ s.mks + 1 ∧ s'.waits.length = s.waits.length + 2 ∧ s'.books.length ≤ s.books.length + 1 := by
  have HI : Hid (Inv B gW 0 ρ s w) := h
  have hgl : gW < w.heap.size := h.row.lt
  have c2 : w.cell? ⟨gW, 2, none⟩ = some (.slice (some ⟨gl, 0, none⟩) s.lens.length cl) := by rw [h.row.cell (i := 2) (by omega)]; simp [fld, hv]
  have hln := h.lnB
  have HLW : Hid (s.weres.length = s.waits.length) := h.lenw
  have HV : Hid (s.vl = .slice (some ⟨gl, 0, none⟩) s.lens.length cl) := hv
  have hcl : CellsO w (some ⟨gl, 0, none⟩) s.lens := by
    obtain ⟨ad, cap, e, hc⟩ := h.len.cells
    have := hv.symm.trans e
    simp only [Value.slice.injEq] at this
    rw [this.1]; exact hc
  have HC : Hid (CellsO w (some ⟨gl, 0, none⟩) s.lens) := hcl
  have hBs := h.hB
  clear h hv hcl
  have hne := neNil
  unfold opV
  go_enter Tryz.func59, Tryz.ntmps59
  go_wp2_with fail
  have B0 : Below w.heap.size w (w.alloc (.cells #[.int .i64 4, .int .i64 a, .int .i64 b, .int .i64 c, .string t, .slice ap np cp] 79)) := (Below.refl _ _).alloc (Nat.le_refl _) _
  refine (lent_some gl 0 cl s.lens _ (by omega) (HC.out.below B0 (Nat.le_refl _))).mono ?_
  rintro e w1 ⟨rfl, hrow1, hb1⟩
  obtain ⟨g, hg⟩ : ∃ g, g = (w.alloc (.cells #[.int .i64 4, .int .i64 a, .int .i64 b, .int .i64 c, .string t, .slice ap np cp] 79)).heap.size := ⟨_, rfl⟩
  have hgw : w.heap.size < g := by rw [hg]; simp
  have B1 := grow2 B0 hb1
  rw [← hg] at hrow1 ⊢
  clear B0 hb1 hg
  go_wp2_with fail
  refine (codes_no' (some ⟨g, 0, none⟩) (s.lens.length + 8) s.lens _ (by omega) (row_lent hrow1) hacc).mono ?_
  rintro e w2 ⟨rfl, hb2⟩
  have B2 := grow2 B1 hb2
  have hrow2 := hrow1.of_block (hb2.block g hrow1.lt)
  clear B1 hb2 hrow1
  go_wp2_with fail
  refine (codes_no' (some ⟨g, 0, none⟩) (s.lens.length + 8) s.lens _ (by omega) (row_lent hrow2) hacc).mono ?_
  rintro e w3 ⟨rfl, hb3⟩
  have B3 := grow2 B2 hb3
  have hrow3 := hrow2.of_block (hb3.block g hrow2.lt)
  have c2' : w3.cell? ⟨gW, 2, none⟩ = some (.slice (some ⟨gl, 0, none⟩) s.lens.length cl) := (B3.cell (p := ⟨gW, 2, none⟩) hgl).trans c2
  clear B2 hb3 hrow2
  go_wp2_with fail
  refine (refCodes_no (some ⟨gl, 0, none⟩) cl s.lens _ (by omega) (HC.out.below B3 (Nat.le_refl _)) hacc).mono ?_
  rintro e w4 ⟨rfl, hb4⟩
  have B4 := grow2 B3 hb4
  have hrow4 := hrow3.of_block (hb4.block g hrow3.lt)
  have c2'' : w4.cell? ⟨gW, 2, none⟩ = some (.slice (some ⟨gl, 0, none⟩) s.lens.length cl) := (B4.cell (p := ⟨gW, 2, none⟩) hgl).trans c2
  clear B3 hb4 hrow3 c2'
  have hI4 : Inv B gW 0 (setρ ρ g 6) s w4 := (HI.out.fresh (x := 6) (Nat.le_of_lt hgw)).below B4
  have HB4 : Hid (Below B w w4) := B4.mono hBs
  clear B4
  go_wp2_with fail
  refine (whole_some B gW (setρ ρ g 6) s g gl cl _ hI4 HV.out hrow4 (setρ_at _ _ _) (by omega) (by omega) (by omega)).mono ?_
  rintro e w5 ⟨rfl, hb5, ρ5, vb5, hI5, _, hrow5, _⟩
  have HB5 : Hid (Below B w w5) := HB4.out.trans hb5
  have HI5 : Hid (Inv B gW 0 ρ5 (sWhole s g vb5) w5) := hI5
  clear hI4 hI5 hb5 hrow4 c2''
  go_wp2_with fail
  refine (same_nil _).mono ?_
  rintro e w' ⟨rfl, q, rfl⟩
  go_wp2_with fail
  refine (same_nil _).mono ?_
  rintro e w' ⟨rfl, q2, rfl⟩
  obtain ⟨m, hm⟩ : ∃ m, -((s.mks : Int) + 1) = m := ⟨_, rfl⟩
  have hm0 : m < 0 := by omega
  rw [hm] at hrow5
  clear hm
  have hrow6 : (w5.drewN (q + q2)).rowIs g 3 (s.lens.length + 8) (fun _ => .int .i64 m) := hrow5
  have hgs : g < (w5.drewN (q + q2)).heap.size := hrow6.lt
  obtain ⟨i0, hi, hz0, hz1, hz2⟩ := info_parts info3
  have hc6 := row_marked hrow6
  go_upto_region 16 with (first | (go_at_call 86; refine (num_any _ _).mono ?_; rintro e w' ⟨rfl, rfl⟩) | (at_builtin; refine wpList_append_grows _ rfl (.const (.slice none 0 0)) (.tmp 106) 69 rfl 3 i0 (.int .i64 0) 1 8 Tryz.underlying69 hi hz0 hz1 hz2 rfl (by decide) none 0 0 [] rfl (fun _ => ⟨rfl, rfl⟩) rfl (by intro _ e; simp at e) ⟨g, 0, none⟩ s.lens.length (s.lens.length + 8) (ivals (List.replicate s.lens.length m)) rfl (by simp [ivals]) (cells_news hc6) (lent4 _) (by omega) (by unfold maxLen; omega) (by omega) ?_; intro v7 w7 hown7 hgrow7))
  have hown7' : w7.ownsRow (w5.drewN (q + q2)).heap.size 3 1 v7 s.lens.length (ivals (List.replicate s.lens.length m)) := by simpa using hown7
  obtain ⟨g7, p7, rfl, _, _⟩ := hown7'.form (by omega)
  have hb7 : Below (w5.drewN (q + q2)).heap.size (w5.drewN (q + q2)) w7 := (Below.refl _ _).grown hgrow7 (Nat.le_refl _) (fun x hx => by simp at hx)
  have hc7 := hc6.below hb7 (Nat.le_refl _)
  have ht7 : CellsO w7 (some ⟨g7, 0, none⟩) (List.replicate s.lens.length m) := by
    obtain ⟨ad, cap, e, hc⟩ := OI.cells (w := w7) (B := (w5.drewN (q + q2)).heap.size) (v := .slice (some ⟨g7, 0, none⟩) s.lens.length p7) (l := List.replicate s.lens.length m) (by unfold OI; rw [List.length_replicate]; exact hown7')
    simp only [Value.slice.injEq] at e
    rw [e.1]; exact hc
  have HB7 : Hid (Below B w w7) := (below_drewN HB5.out (q + q2)).trans (hb7.mono (HI5.out.drewN (q + q2)).hB)
  have HI7 : Hid (Inv B gW 0 ρ5 (sWhole s g vb5) w7) := (HI5.out.drewN (q + q2)).below hb7
  have hacc7 := accepts_marked hn hm0
  clear hown7 hown7' hgrow7 hc6 hrow6 hrow5 hgs hb7
  go_wp2_with fail
  refine (codes_no_n (some ⟨g, 0, none⟩) (s.lens.length + 8) s.lens.length (List.replicate s.lens.length m) _ List.length_replicate (by omega) hc7 hacc7).mono ?_
  rintro e w8 ⟨rfl, hb8⟩
  have ht8 := ht7.below hb8 (Nat.le_refl _)
  have HB8 : Hid (Below B w w8) := HB7.out.trans (hb8.mono HI7.out.hB)
  have HI8 : Hid (Inv B gW 0 ρ5 (sWhole s g vb5) w8) := HI7.out.below hb8
  clear ht7 hc7 hb8
  go_wp2_with fail
  refine (refCodes_no_n (some ⟨g7, 0, none⟩) p7 s.lens.length (List.replicate s.lens.length m) _ List.length_replicate (by omega) ht8 hacc7).mono ?_
  rintro e w9 ⟨rfl, hb9⟩
  have HB9 : Hid (Below B w w9) := HB8.out.trans (hb9.mono HI8.out.hB)
  have HI9 : Hid (Inv B gW 0 ρ5 (sWhole s g vb5) w9) := HI8.out.below hb9
  clear ht8 hb9
  go_wp2_with fail
  refine (same_nil _).mono ?_
  rintro e w' ⟨rfl, q3, rfl⟩
  go_wp2_with (go_at_call 86; refine (num_any _ _).mono ?_; rintro e w' ⟨rfl, rfl⟩)
  refine (keep_nil B gW ρ5 (sWhole s g vb5) _ (HI9.out.drewN q3) (by have := HLW.out; simp [sWhole]; omega) (by simp [sWhole]; omega)).mono ?_
  rintro e w10 ⟨rfl, hb10, ρ10, vw10, vr10, u10, hI10, _, _⟩
  have HI10 : Hid _ := hI10
  have HB10 : Hid (Below B w w10) := (below_drewN HB9.out q3).trans hb10
  clear hI10 hb10
  go_wp2_with fail
  refine (keep_nil B gW ρ10 _ _ HI10.out (by have := HLW.out; simp [sWhole]; omega) (by simp [sWhole]; omega)).mono ?_
  rintro e w11 ⟨rfl, hb11, ρ11, vw11, vr11, u11, hI11, _, _⟩
  have HI11 : Hid _ := hI11
  have HB11 : Hid (Below B w w11) := HB10.out.trans hb11
  clear hI11 hb11
  go_wp2_with fail
  go_ret
  exact ⟨rfl, HB11.out, ρ11, _, HI11.out, rfl, rfl, rfl, rfl, rfl, by simp [sWhole], by simp [sWhole], by simp [sWhole]⟩
end Go.Proofs.YtbcjmakpempkiaaGreatDoor
