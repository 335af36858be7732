/- The contract of looks: every list that the caller has written into still reads so. -/
import Derived.Test.YtbcjmakpempkiaaGreatDoorLb2
namespace Go.Proofs.YtbcjmakpempkiaaGreatDoor
open Go.RowKit

theorem flat_at : ∀ (bs : List (Int × List Value)) (_ : ∀ b ∈ bs, b.2.length = 4) (i : Nat) (h : i < bs.length) (j : Nat), j < 5 → (bs.flatMap bookCells)[i * 5 + j]? = (bookCells bs[i])[j]?
  | b :: bs, hb, 0, _, j, hj => by
    have : (bookCells b).length = 5 := by simp [bookCells, hb b (by simp)]
    simp only [List.flatMap_cons, List.getElem_cons_zero, Nat.zero_mul, Nat.zero_add]
    rw [List.getElem?_append_left (by omega)]
  | b :: bs, hb, i + 1, h, j, hj => by
    have h5 : (bookCells b).length = 5 := by simp [bookCells, hb b (by simp)]
    have ih := flat_at bs (fun x hx => hb x (by simp [hx])) i (by simpa using h) j hj
    simp only [List.flatMap_cons, List.getElem_cons_succ]
    rw [List.getElem?_append_right (by omega), h5, show (i + 1) * 5 + j - 5 = i * 5 + j by omega]
    exact ih
theorem OI.le_max {w : World} {B : Nat} {v : Value} {l : List Int} (h : OI w B v l) : l.length ≤ maxLen := by
  rcases h.2 with ⟨_, h0⟩ | ⟨g, cap, cur, hv, hb, hg, hnc, hcm, _⟩
  · rw [h0]; exact Nat.zero_le _
  · exact Nat.le_trans hnc hcm
/-- the i-th book in memory -/
theorem Inv.book {B gW d : Nat} {ρ : Nat → Nat} {s : LawSt} {w : World} (h : Inv B gW d ρ s w) {i : Nat} (hi : i < s.books.length) :
    ∃ (g cap : Nat) (m : Int) (a1 a2 a3 a4 : Option Addr) (n1 n2 n3 n4 c1 c2 c3 c4 : Nat), s.vb = .slice (some ⟨g, 0, none⟩) s.books.length cap ∧ g < w.heap.size ∧
      w.cell? ⟨g, i * 5, none⟩ = some (.int .i64 m) ∧ w.cell? ⟨g, i * 5 + 1, none⟩ = some (.slice a1 n1 c1) ∧ w.cell? ⟨g, i * 5 + 2, none⟩ = some (.slice a2 n2 c2) ∧ w.cell? ⟨g, i * 5 + 3, none⟩ = some (.slice a3 n3 c3) ∧ w.cell? ⟨g, i * 5 + 4, none⟩ = some (.slice a4 n4 c4) ∧
      CellsO w a1 (List.replicate n1 m) ∧ CellsO w a2 (List.replicate n2 m) ∧ CellsO w a3 (List.replicate n3 m) ∧ CellsO w a4 (List.replicate n4 m) ∧ n1 ≤ maxLen ∧ n2 ≤ maxLen ∧ n3 ≤ maxLen ∧ n4 ≤ maxLen := by
  obtain ⟨g, cap, hv, hB, hlt⟩ := h.bks.form (by omega)
  have hb := h.bks
  rw [hv] at hb
  have h4 := fun b hb => (h.bk b hb).1
  have hc : ∀ j, j < 5 → w.cell? ⟨g, i * 5 + j, none⟩ = (bookCells s.books[i])[j]? := fun j hj => by
    rw [World.ownsRow.cellAt hb (i * 5 + j) (by omega), flat_at s.books h4 i hi j hj]
  have hm := List.getElem_mem hi
  rcases hbk : s.books[i] with ⟨m, vs⟩
  rw [hbk] at hm hc
  have hl := h4 _ hm
  have hvs := (h.bk _ hm).2
  match vs, hl with
  | [v1, v2, v3, v4], _ =>
    obtain ⟨n1, o1⟩ := hvs v1 (by simp)
    obtain ⟨n2, o2⟩ := hvs v2 (by simp)
    obtain ⟨n3, o3⟩ := hvs v3 (by simp)
    obtain ⟨n4, o4⟩ := hvs v4 (by simp)
    obtain ⟨a1, c1, e1, k1⟩ := o1.cells
    obtain ⟨a2, c2, e2, k2⟩ := o2.cells
    obtain ⟨a3, c3, e3, k3⟩ := o3.cells
    obtain ⟨a4, c4, e4, k4⟩ := o4.cells
    simp only [List.length_replicate] at e1 e2 e3 e4
    refine ⟨g, cap, m, a1, a2, a3, a4, n1, n2, n3, n4, c1, c2, c3, c4, hv, hlt, ?_, ?_, ?_, ?_, ?_, k1, k2, k3, k4, by simpa using o1.le_max, by simpa using o2.le_max, by simpa using o3.le_max, by simpa using o4.le_max⟩
    · have := hc 0 (by omega); simpa [bookCells] using this
    · have := hc 1 (by omega); simpa [bookCells, e1] using this
    · have := hc 2 (by omega); simpa [bookCells, e2] using this
    · have := hc 3 (by omega); simpa [bookCells, e3] using this
    · have := hc 4 (by omega); simpa [bookCells, e4] using this

set_option maxRecDepth 100000 in
set_option maxHeartbeats 1000000 in
theorem looks_true (B gW d : Nat) (ρ : Nat → Nat) (s : LawSt) (w : World) (h : Inv B gW d ρ s w) (hbl : s.books.length ≤ 1000000000) :
    Calls Tryz.prog 36 #[.pointer (some ⟨gW, 0, none⟩)] w fun e w' => e = .returned (.bool true) ∧ Below w.heap.size w w' := by
  have HI : Hid (Inv B gW d ρ s w) := h
  obtain ⟨ab, cb, hvb⟩ : ∃ ab cb, s.vb = .slice ab s.books.length cb := by
    rcases h.bks.2 with ⟨hv, h0⟩ | ⟨g, cap, cur, hv, _⟩
    · exact ⟨none, 0, by rw [hv, h0]⟩
    · exact ⟨_, _, hv⟩
  have c7 : w.cell? ⟨gW, 7, none⟩ = some (.slice ab s.books.length cb) := by rw [h.row.cell (i := 7) (by omega)]; simp [fld, hvb]
  have c8 : w.cell? ⟨gW, 8, none⟩ = some (.slice none 0 0) := h.row.cell (i := 8) (by omega)
  have hgl : gW < w.heap.size := h.row.lt
  have HV : Hid (s.vb = .slice ab s.books.length cb) := hvb
  clear h hvb
  go_enter Tryz.func36, Tryz.ntmps36
  go_wp2_with fail
  go_loopw [3] (fun i wr => ∃ k : Nat, k ≤ s.books.length ∧ i = .int .i64 k ∧ Below w.heap.size w wr) (fun i _ => s.books.length - (intOf i).toNat)
  case atStart => exact ⟨0, Nat.zero_le _, rfl, Below.refl _ _⟩
  case round =>
    obtain ⟨k, hk, rfl, hbel⟩ := hrel
    have c7' : wr.cell? ⟨gW, 7, none⟩ = some (.slice ab s.books.length cb) := (hbel.cell (p := ⟨gW, 7, none⟩) hgl).trans c7
    have c8' : wr.cell? ⟨gW, 8, none⟩ = some (.slice none 0 0) := (hbel.cell (p := ⟨gW, 8, none⟩) hgl).trans c8
    clear c7 c8
    by_cases hlt : k < s.books.length
    · obtain ⟨g, cap, m, a1, a2, a3, a4, n1, n2, n3, n4, e1, e2, e3, e4, hv, hg, d0, d1, d2, d3, d4, k1, k2, k3, k4, x1, x2, x3, x4⟩ := HI.out.book hlt
      unfold maxLen at x1 x2 x3 x4
      obtain ⟨rfl, rfl⟩ : ab = some ⟨g, 0, none⟩ ∧ cb = cap := by have := HV.out.symm.trans hv; simpa using this
      have d0' := (hbel.cell (p := ⟨g, k * 5, none⟩) hg).trans d0
      have d1' := (hbel.cell (p := ⟨g, k * 5 + 1, none⟩) hg).trans d1
      have d2' := (hbel.cell (p := ⟨g, k * 5 + 2, none⟩) hg).trans d2
      have d3' := (hbel.cell (p := ⟨g, k * 5 + 3, none⟩) hg).trans d3
      have d4' := (hbel.cell (p := ⟨g, k * 5 + 4, none⟩) hg).trans d4
      clear d0 d1 d2 d3 d4
      go_wp2_with fail
      have hb2 : Below w.heap.size w (wr.alloc (.cells #[.int .i64 m, .slice a1 n1 e1, .slice a2 n2 e2, .slice a3 n3 e3, .slice a4 n4 e4] 143)) := hbel.alloc hbel.size _
      refine (all_true a1 e1 n1 m _ x1 (k1.below hb2 (Nat.le_refl _))).mono ?_
      rintro e w1 ⟨rfl, rfl⟩
      go_wp2_with fail
      refine (all_true a2 e2 n2 m _ x2 (k2.below hb2 (Nat.le_refl _))).mono ?_
      rintro e w1 ⟨rfl, rfl⟩
      go_wp2_with fail
      refine (all_true a3 e3 n3 m _ x3 (k3.below hb2 (Nat.le_refl _))).mono ?_
      rintro e w1 ⟨rfl, rfl⟩
      go_wp2_with fail
      refine (all_true a4 e4 n4 m _ x4 (k4.below hb2 (Nat.le_refl _))).mono ?_
      rintro e w1 ⟨rfl, rfl⟩
      go_wp2_with fail
      go_roundw
      case rel => exact ⟨k + 1, by omega, by go_num, hb2⟩
      case measure => simp [intOf]; omega
    · go_wp2_with fail
      refine wp_loop_rounds 1 ?_
      rw [rounds_succ]
      go_wp2_with fail
      go_ret
      exact ⟨rfl, hbel⟩
end Go.Proofs.YtbcjmakpempkiaaGreatDoor
