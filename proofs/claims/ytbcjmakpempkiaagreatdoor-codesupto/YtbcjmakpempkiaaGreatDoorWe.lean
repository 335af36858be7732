/- The contract of Codes. -/
import Derived.Test.YtbcjmakpempkiaaGreatDoorWd
import Derived.Deep.WholeRow
namespace Go.Proofs.YtbcjmakpempkiaaGreatDoor
open Go.RowKit
/-- complete, or a single code of length 1 -/
def okSet (l : List Int) : Bool := shr (cn l) 12 == 2048 || isOne (cn l)

set_option maxHeartbeats 400000 in
theorem codes_far (ad : Option Addr) (n cap : Nat) (w : World) (hn : 269 < n) (hm : n ≤ 9223372036854775807) :
    Calls Tryz.prog 83 #[.slice ad n cap] w fun e w' => e = .returned (.tuple #[.slice none 0 0, .int .i64 10]) ∧ w' = w := by
  go_enter Tryz.func83, Tryz.ntmps83
  go_wp2_with fail
  go_ret2
  exact ⟨rfl, rfl⟩
set_option maxHeartbeats 400000 in
theorem codes_range (ad : Option Addr) (cap : Nat) (l : List Int) (w : World) (hl : l.length ≤ 269) (hc : CellsO w ad l) (hr : inRange l = false) :
    Calls Tryz.prog 83 #[.slice ad l.length cap] w fun e w' => e = .returned (.tuple #[.slice none 0 0, .int .i64 10]) ∧ w' = w := by
  go_enter Tryz.func83, Tryz.ntmps83
  go_wp2_with (go_at_call 113; refine (inRange_any ad cap l _ (by omega) hc).mono ?_; rw [hr]; rintro e w' ⟨rfl, rfl⟩)
  go_ret2
  exact ⟨rfl, rfl⟩
theorem cells12 {w : World} {g : Nat} {f : Nat → Int} (h : w.heap[g]? = some (.cells (arr f) 199 (0, 0))) :
    w.cell? ⟨g, 0, none⟩ = some (.int .i64 (f 0)) ∧ w.cell? ⟨g, 1, none⟩ = some (.int .i64 (f 1)) ∧ w.cell? ⟨g, 2, none⟩ = some (.int .i64 (f 2)) ∧ w.cell? ⟨g, 3, none⟩ = some (.int .i64 (f 3)) ∧ w.cell? ⟨g, 4, none⟩ = some (.int .i64 (f 4)) ∧ w.cell? ⟨g, 5, none⟩ = some (.int .i64 (f 5)) ∧ w.cell? ⟨g, 6, none⟩ = some (.int .i64 (f 6)) ∧ w.cell? ⟨g, 7, none⟩ = some (.int .i64 (f 7)) ∧ w.cell? ⟨g, 8, none⟩ = some (.int .i64 (f 8)) ∧ w.cell? ⟨g, 9, none⟩ = some (.int .i64 (f 9)) ∧ w.cell? ⟨g, 10, none⟩ = some (.int .i64 (f 10)) ∧ w.cell? ⟨g, 11, none⟩ = some (.int .i64 (f 11)) := by
  have k := fun j => cell_of_row w g j _ _ _ h
  exact ⟨k 0, k 1, k 2, k 3, k 4, k 5, k 6, k 7, k 8, k 9, k 10, k 11⟩
theorem grow1 {w0 w1 w2 : World} {o : Obj} (h1 : Below w0.heap.size w0 w1) (h2 : Below (w1.alloc o).heap.size (w1.alloc o) w2) : Below w0.heap.size w0 w2 :=
  (h1.alloc h1.size o).trans (h2.mono (by have := h1.size; simp; omega))

set_option maxHeartbeats 400000 in
theorem codes_yes (ad : Option Addr) (cap : Nat) (l : List Int) (w : World) (hl : l.length ≤ 269) (hc : CellsO w ad l) (hr : inRange l = true) (hok : okSet l = true) :
    Calls Tryz.prog 83 #[.slice ad l.length cap] w fun e w' => ∃ g, e = .returned (.tuple #[.slice (some ⟨g, 0, none⟩) l.length l.length, .int .i64 0]) ∧ w.heap.size ≤ g ∧ w'.rowIs g 3 l.length (fun i => .int .i64 (cdv (fc (cn l)) l i)) ∧ Below w.heap.size w w' := by
  have HB : Hid (∀ j, j < 12 → 0 ≤ cn l j ∧ cn l j ≤ 1000000) := cn_bound hl
  have HC : Hid (CellsO w ad l) := hc
  cases hS : (shr (cn l) 12 == 2048)
  · have hO : isOne (cn l) = true := by simpa [okSet, hS] using hok
    clear hok
    go_enter Tryz.func83, Tryz.ntmps83
    go_wp2_with (go_at_call 113; refine (inRange_any ad cap l _ (by omega) hc).mono ?_; rw [hr]; rintro e w' ⟨rfl, rfl⟩)
    refine (setOf_any ad cap l _ (by omega) hc hr).mono ?_
    rintro e w1 ⟨rfl, hb1⟩
    go_wp2_with (first | (refine wpList_store_row rfl 199 _ _ rfl _ _ rfl rfl 199 _ (heap_alloc_new _ _) (info34 _) rfl (arr_one _) ?_; rw [World.setRow_alloc_new]) | refine wpList_load_row rfl 199 _ rfl _ rfl 199 _ _ _ (heap_alloc_new _ _) Tryz.underlying199 rfl (info34 _) ?_)
    refine (isComplete_any (cn l) _ HB.out).mono ?_
    rw [hS]
    rintro e w2 ⟨rfl, hb2⟩
    have hg2 : w2.heap[w1.heap.size]? = some (.cells (arr (cn l)) 199 (0, 0)) := (hb2.block _ (by simp)).trans (heap_alloc_new _ _)
    obtain ⟨c0, c1, c2, c3, c4, c5, c6, c7, c8, c9, c10, c11⟩ := cells12 hg2
    go_wp2_with fail
    refine (isSingle_any (cn l) _).mono ?_
    rw [hO]
    rintro e w3 ⟨rfl, hb3⟩
    clear c0 c1 c2 c3 c4 c5 c6 c7 c8 c9 c10 c11
    have hb3' := grow2 (grow1 hb1 hb2) hb3
    go_wp2_with fail
    refine (assign_any ad cap l _ hl (HC.out.below hb3' (Nat.le_refl _)) hr).mono ?_
    rintro e w5 ⟨g, rfl, hg, hrow, hb5⟩
    have hb5' := grow2 hb3' hb5
    go_wp2_with fail
    go_ret2
    exact ⟨_, rfl, Nat.le_trans hb3'.size hg, hrow, hb5'⟩
  · clear hok
    go_enter Tryz.func83, Tryz.ntmps83
    go_wp2_with (go_at_call 113; refine (inRange_any ad cap l _ (by omega) hc).mono ?_; rw [hr]; rintro e w' ⟨rfl, rfl⟩)
    refine (setOf_any ad cap l _ (by omega) hc hr).mono ?_
    rintro e w1 ⟨rfl, hb1⟩
    go_wp2_with (first | (refine wpList_store_row rfl 199 _ _ rfl _ _ rfl rfl 199 _ (heap_alloc_new _ _) (info34 _) rfl (arr_one _) ?_; rw [World.setRow_alloc_new]) | refine wpList_load_row rfl 199 _ rfl _ rfl 199 _ _ _ (heap_alloc_new _ _) Tryz.underlying199 rfl (info34 _) ?_)
    refine (isComplete_any (cn l) _ HB.out).mono ?_
    rw [hS]
    rintro e w2 ⟨rfl, hb2⟩
    have hb3' := grow1 hb1 hb2
    go_wp2_with fail
    refine (assign_any ad cap l _ hl (HC.out.below hb3' (Nat.le_refl _)) hr).mono ?_
    rintro e w5 ⟨g, rfl, hg, hrow, hb5⟩
    have hb5' := grow2 hb3' hb5
    go_wp2_with fail
    go_ret2
    exact ⟨_, rfl, Nat.le_trans hb3'.size hg, hrow, hb5'⟩

set_option maxHeartbeats 400000 in
theorem codes_set (ad : Option Addr) (cap : Nat) (l : List Int) (w : World) (hl : l.length ≤ 269) (hc : CellsO w ad l) (hr : inRange l = true) (hok : okSet l = false) :
    Calls Tryz.prog 83 #[.slice ad l.length cap] w fun e w' => e = .returned (.tuple #[.slice none 0 0, .int .i64 10]) ∧ Below w.heap.size w w' := by
  have HB : Hid (∀ j, j < 12 → 0 ≤ cn l j ∧ cn l j ≤ 1000000) := cn_bound hl
  have hS : (shr (cn l) 12 == 2048) = false := by cases h : (shr (cn l) 12 == 2048) <;> simp [okSet, h] at hok ⊢
  have hO : isOne (cn l) = false := by cases h : isOne (cn l) <;> simp [okSet, h] at hok ⊢
  clear hok
  go_enter Tryz.func83, Tryz.ntmps83
  go_wp2_with (go_at_call 113; refine (inRange_any ad cap l _ (by omega) hc).mono ?_; rw [hr]; rintro e w' ⟨rfl, rfl⟩)
  refine (setOf_any ad cap l _ (by omega) hc hr).mono ?_
  rintro e w1 ⟨rfl, hb1⟩
  go_wp2_with (first | (refine wpList_store_row rfl 199 _ _ rfl _ _ rfl rfl 199 _ (heap_alloc_new _ _) (info34 _) rfl (arr_one _) ?_; rw [World.setRow_alloc_new]) | refine wpList_load_row rfl 199 _ rfl _ rfl 199 _ _ _ (heap_alloc_new _ _) Tryz.underlying199 rfl (info34 _) ?_)
  refine (isComplete_any (cn l) _ HB.out).mono ?_
  rw [hS]
  rintro e w2 ⟨rfl, hb2⟩
  have hg2 : w2.heap[w1.heap.size]? = some (.cells (arr (cn l)) 199 (0, 0)) := (hb2.block _ (by simp)).trans (heap_alloc_new _ _)
  obtain ⟨c0, c1, c2, c3, c4, c5, c6, c7, c8, c9, c10, c11⟩ := cells12 hg2
  go_wp2_with fail
  refine (isSingle_any (cn l) _).mono ?_
  rw [hO]
  rintro e w3 ⟨rfl, hb3⟩
  clear c0 c1 c2 c3 c4 c5 c6 c7 c8 c9 c10 c11
  have hb3' := grow2 (grow1 hb1 hb2) hb3
  go_wp2_with fail
  go_ret2
  exact ⟨rfl, hb3'⟩

/-- what Codes accepts -/
def accepts (l : List Int) : Bool := decide (l.length ≤ 269) && inRange l && okSet l
/-- what Codes comes to -/
theorem codes_at (ad : Option Addr) (cap : Nat) (l : List Int) (w : World) (hl : l.length ≤ 9223372036854775807) (hc : CellsO w ad l) :
    Calls Tryz.prog 83 #[.slice ad l.length cap] w fun e w' =>
      (accepts l = true ∧ ∃ g, e = .returned (.tuple #[.slice (some ⟨g, 0, none⟩) l.length l.length, .int .i64 0]) ∧ w.heap.size ≤ g ∧ w'.rowIs g 3 l.length (fun i => .int .i64 (cdv (fc (cn l)) l i)) ∧ Below w.heap.size w w') ∨
      (accepts l = false ∧ e = .returned (.tuple #[.slice none 0 0, .int .i64 10]) ∧ Below w.heap.size w w') := by
  by_cases h1 : l.length ≤ 269
  · cases hr : inRange l
    · exact (codes_range ad cap l w h1 hc hr).mono fun e w' ⟨he, hw⟩ => Or.inr ⟨by simp [accepts, hr], he, hw ▸ Below.refl _ _⟩
    · cases ho : okSet l
      · exact (codes_set ad cap l w h1 hc hr ho).mono fun e w' h => Or.inr ⟨by simp [accepts, ho], h⟩
      · exact (codes_yes ad cap l w h1 hc hr ho).mono fun e w' h => Or.inl ⟨by simp [accepts, h1, hr, ho], h⟩
  · exact (codes_far ad _ cap w (by omega) hl).mono fun e w' ⟨he, hw⟩ => Or.inr ⟨by simp [accepts, h1], he, hw ▸ Below.refl _ _⟩
theorem accepts_empty : accepts [] = false := by decide
theorem codes_empty (ad : Option Addr) (cap : Nat) (w : World) :
    Calls Tryz.prog 83 #[.slice ad 0 cap] w fun e w' => e = .returned (.tuple #[.slice none 0 0, .int .i64 10]) ∧ Below w.heap.size w w' :=
  (codes_at ad cap [] w (by simp) (fun k hk => by simp at hk)).mono fun e w' h => by
    rcases h with ⟨h, _⟩ | ⟨_, h⟩
    · rw [accepts_empty] at h; cases h
    · exact h
theorem codes_no (b o cap : Nat) (l : List Int) (w : World) (hl : l.length ≤ 9223372036854775807) (hc : Cells w b o l) (hb : b < w.heap.size) (h : accepts l = false) :
    Calls Tryz.prog 83 #[.slice (some ⟨b, o, none⟩) l.length cap] w fun e w' => e = .returned (.tuple #[.slice none 0 0, .int .i64 10]) ∧ Below w.heap.size w w' :=
  (codes_at _ cap l w hl (hc.toO hb)).mono fun e w' h' => by
    rcases h' with ⟨h2, _⟩ | ⟨_, h2⟩
    · rw [h] at h2; cases h2
    · exact h2
theorem codes_ok (b o cap : Nat) (l : List Int) (w : World) (hc : Cells w b o l) (hb : b < w.heap.size) (h : accepts l = true) :
    Calls Tryz.prog 83 #[.slice (some ⟨b, o, none⟩) l.length cap] w fun e w' => ∃ g, e = .returned (.tuple #[.slice (some ⟨g, 0, none⟩) l.length l.length, .int .i64 0]) ∧ w.heap.size ≤ g ∧ w'.rowIs g 3 l.length (fun i => .int .i64 (cdv (fc (cn l)) l i)) ∧ Below w.heap.size w w' := by
  have hl : l.length ≤ 269 := by simp [accepts] at h; exact h.1.1
  exact (codes_at _ cap l w (by omega) (hc.toO hb)).mono fun e w' h' => by
    rcases h' with ⟨_, h2⟩ | ⟨h2, _⟩
    · exact h2
    · rw [h] at h2; cases h2
end Go.Proofs.YtbcjmakpempkiaaGreatDoor
