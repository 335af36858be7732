/- The contract of Codes. -/
import Derived.Test.YteknanddcgjpbaaDoorWd
import Derived.Deep.WholeRow
namespace Go.Proofs.YteknanddcgjpbaaDoor
open Go.RowKit
/-- complete, or a single code of length 1 -/
def okSet (l : List Int) : Bool := shr (cn l) 12 == 2048 || isOne (cn l)
theorem cn_bound {l : List Int} (hl : l.length ≤ 269) : ∀ j, j < 12 → 0 ≤ cn l j ∧ cn l j ≤ 1000000 := fun j _ => ⟨cn_nonneg l j, by have := cn_le l j; omega⟩

set_option maxHeartbeats 400000 in
theorem codes_far (ad : Option Addr) (n cap : Nat) (w : World) (hn : 269 < n) (hm : n ≤ 9223372036854775807) :
    Calls Tryd.prog 18 #[.slice ad n cap] w fun e w' => e = .returned (.tuple #[.slice none 0 0, .int .i64 10]) ∧ w' = w := by
  go_enter Tryd.func18, Tryd.ntmps18
  go_wp2_with fail
  go_ret2
  exact ⟨rfl, rfl⟩
set_option maxHeartbeats 400000 in
theorem codes_range (b o cap : Nat) (l : List Int) (w : World) (hl : l.length ≤ 269) (hc : Cells w b o l) (hr : inRange l = false) :
    Calls Tryd.prog 18 #[.slice (some ⟨b, o, none⟩) l.length cap] w fun e w' => e = .returned (.tuple #[.slice none 0 0, .int .i64 10]) ∧ w' = w := by
  go_enter Tryd.func18, Tryd.ntmps18
  go_wp2_with (go_at_call 35; refine (allInRange_any b o cap l _ (by omega) hc).mono ?_; rw [hr]; rintro e w' ⟨rfl, rfl⟩)
  go_ret2
  exact ⟨rfl, rfl⟩
theorem cells12 {w : World} {g : Nat} {f : Nat → Int} (h : w.heap[g]? = some (.cells (arr f) 85 (0, 0))) :
    w.cell? ⟨g, 0, none⟩ = some (.int .i64 (f 0)) ∧ w.cell? ⟨g, 1, none⟩ = some (.int .i64 (f 1)) ∧ w.cell? ⟨g, 2, none⟩ = some (.int .i64 (f 2)) ∧ w.cell? ⟨g, 3, none⟩ = some (.int .i64 (f 3)) ∧ w.cell? ⟨g, 4, none⟩ = some (.int .i64 (f 4)) ∧ w.cell? ⟨g, 5, none⟩ = some (.int .i64 (f 5)) ∧ w.cell? ⟨g, 6, none⟩ = some (.int .i64 (f 6)) ∧ w.cell? ⟨g, 7, none⟩ = some (.int .i64 (f 7)) ∧ w.cell? ⟨g, 8, none⟩ = some (.int .i64 (f 8)) ∧ w.cell? ⟨g, 9, none⟩ = some (.int .i64 (f 9)) ∧ w.cell? ⟨g, 10, none⟩ = some (.int .i64 (f 10)) ∧ w.cell? ⟨g, 11, none⟩ = some (.int .i64 (f 11)) := by
  have k := fun j => cell_of_row w g j _ _ _ h
  exact ⟨k 0, k 1, k 2, k 3, k 4, k 5, k 6, k 7, k 8, k 9, k 10, k 11⟩
theorem grow1 {w0 w1 w2 : World} {o : Obj} (h1 : Below w0.heap.size w0 w1) (h2 : Below (w1.alloc o).heap.size (w1.alloc o) w2) : Below w0.heap.size w0 w2 :=
  (h1.alloc h1.size o).trans (h2.mono (by have := h1.size; simp; omega))
theorem grow2 {w0 w1 w2 : World} (h1 : Below w0.heap.size w0 w1) (h2 : Below w1.heap.size w1 w2) : Below w0.heap.size w0 w2 := h1.trans (h2.mono h1.size)

set_option maxHeartbeats 400000 in
theorem codes_yes (b o cap : Nat) (l : List Int) (w : World) (hl : l.length ≤ 269) (hc : Cells w b o l) (hb : b < w.heap.size) (hr : inRange l = true) (hok : okSet l = true) :
    Calls Tryd.prog 18 #[.slice (some ⟨b, o, none⟩) l.length cap] w fun e w' => ∃ g, e = .returned (.tuple #[.slice (some ⟨g, 0, none⟩) l.length l.length, .int .i64 0]) ∧ w.heap.size ≤ g ∧ w'.rowIs g 3 l.length (fun i => .int .i64 (cdv (fc (cn l)) l i)) ∧ Below w.heap.size w w' := by
  have HB : Hid (∀ j, j < 12 → 0 ≤ cn l j ∧ cn l j ≤ 1000000) := cn_bound hl
  have HC : Hid (Cells w b o l) := hc
  cases hS : (shr (cn l) 12 == 2048)
  · have hO : isOne (cn l) = true := by simpa [okSet, hS] using hok
    clear hok
    go_enter Tryd.func18, Tryd.ntmps18
    go_wp2_with (go_at_call 35; refine (allInRange_any b o cap l _ (by omega) hc).mono ?_; rw [hr]; rintro e w' ⟨rfl, rfl⟩)
    refine (countCodes_any b o cap l _ (by omega) hc hb hr).mono ?_
    rintro e w1 ⟨rfl, hb1⟩
    go_wp2_with (first | (refine wpList_store_row rfl 85 _ _ rfl _ _ rfl rfl 85 _ (heap_alloc_new _ _) (info32 _) rfl (arr_one _) ?_; rw [World.setRow_alloc_new]) | refine wpList_load_row rfl 85 _ rfl _ rfl 85 _ _ _ (heap_alloc_new _ _) Tryd.underlying85 rfl (info32 _) ?_)
    refine (isComplete_any (cn l) _ HB.out).mono ?_
    rw [hS]
    rintro e w2 ⟨rfl, hb2⟩
    have hg2 : w2.heap[w1.heap.size]? = some (.cells (arr (cn l)) 85 (0, 0)) := (hb2.block _ (by simp)).trans (heap_alloc_new _ _)
    obtain ⟨c0, c1, c2, c3, c4, c5, c6, c7, c8, c9, c10, c11⟩ := cells12 hg2
    go_wp2_with fail
    refine (isSingle_any (cn l) _).mono ?_
    rw [hO]
    rintro e w3 ⟨rfl, hb3⟩
    clear c0 c1 c2 c3 c4 c5 c6 c7 c8 c9 c10 c11
    have hg3 : w3.heap[w1.heap.size]? = some (.cells (arr (cn l)) 85 (0, 0)) := (hb3.block _ (by have := hb2.size; simp at this; omega)).trans hg2
    have hb3' := grow2 (grow1 hb1 hb2) hb3
    go_wp2_with (refine wpList_load_row rfl 85 _ rfl _ rfl 85 _ _ _ hg3 Tryd.underlying85 rfl (info32 _) ?_)
    refine (firstCodes_any (cn l) _ HB.out).mono ?_
    rintro e w4 ⟨rfl, hb4⟩
    have hb4' := grow2 hb3' hb4
    go_wp2_with fail
    refine (assignCodes_any b o cap l (fc (cn l)) _ (by omega) (HC.out.below hb4' hb) (Nat.lt_of_lt_of_le hb hb4'.size) hr (fc_le' _ HB.out · <| Nat.le_of_lt ·)).mono ?_
    rintro e w5 ⟨rfl, hrow, hb5⟩
    have hb5' := grow2 hb4' hb5
    go_wp2_with fail
    go_ret2
    exact ⟨_, rfl, by have := hb4'.size; omega, hrow, hb5'⟩
  · clear hok
    go_enter Tryd.func18, Tryd.ntmps18
    go_wp2_with (go_at_call 35; refine (allInRange_any b o cap l _ (by omega) hc).mono ?_; rw [hr]; rintro e w' ⟨rfl, rfl⟩)
    refine (countCodes_any b o cap l _ (by omega) hc hb hr).mono ?_
    rintro e w1 ⟨rfl, hb1⟩
    go_wp2_with (first | (refine wpList_store_row rfl 85 _ _ rfl _ _ rfl rfl 85 _ (heap_alloc_new _ _) (info32 _) rfl (arr_one _) ?_; rw [World.setRow_alloc_new]) | refine wpList_load_row rfl 85 _ rfl _ rfl 85 _ _ _ (heap_alloc_new _ _) Tryd.underlying85 rfl (info32 _) ?_)
    refine (isComplete_any (cn l) _ HB.out).mono ?_
    rw [hS]
    rintro e w2 ⟨rfl, hb2⟩
    have hg2 : w2.heap[w1.heap.size]? = some (.cells (arr (cn l)) 85 (0, 0)) := (hb2.block _ (by simp)).trans (heap_alloc_new _ _)
    have hb3' := grow1 hb1 hb2
    go_wp2_with (refine wpList_load_row rfl 85 _ rfl _ rfl 85 _ _ _ hg2 Tryd.underlying85 rfl (info32 _) ?_)
    refine (firstCodes_any (cn l) _ HB.out).mono ?_
    rintro e w4 ⟨rfl, hb4⟩
    have hb4' := grow2 hb3' hb4
    go_wp2_with fail
    refine (assignCodes_any b o cap l (fc (cn l)) _ (by omega) (HC.out.below hb4' hb) (Nat.lt_of_lt_of_le hb hb4'.size) hr (fc_le' _ HB.out · <| Nat.le_of_lt ·)).mono ?_
    rintro e w5 ⟨rfl, hrow, hb5⟩
    have hb5' := grow2 hb4' hb5
    go_wp2_with fail
    go_ret2
    exact ⟨_, rfl, by have := hb4'.size; omega, hrow, hb5'⟩

set_option maxHeartbeats 400000 in
theorem codes_set (b o cap : Nat) (l : List Int) (w : World) (hl : l.length ≤ 269) (hc : Cells w b o l) (hb : b < w.heap.size) (hr : inRange l = true) (hok : okSet l = false) :
    Calls Tryd.prog 18 #[.slice (some ⟨b, o, none⟩) l.length cap] w fun e w' => e = .returned (.tuple #[.slice none 0 0, .int .i64 10]) ∧ Below w.heap.size w w' := by
  have HB : Hid (∀ j, j < 12 → 0 ≤ cn l j ∧ cn l j ≤ 1000000) := cn_bound hl
  have hS : (shr (cn l) 12 == 2048) = false := by cases h : (shr (cn l) 12 == 2048) <;> simp [okSet, h] at hok ⊢
  have hO : isOne (cn l) = false := by cases h : isOne (cn l) <;> simp [okSet, h] at hok ⊢
  clear hok
  go_enter Tryd.func18, Tryd.ntmps18
  go_wp2_with (go_at_call 35; refine (allInRange_any b o cap l _ (by omega) hc).mono ?_; rw [hr]; rintro e w' ⟨rfl, rfl⟩)
  refine (countCodes_any b o cap l _ (by omega) hc hb hr).mono ?_
  rintro e w1 ⟨rfl, hb1⟩
  go_wp2_with (first | (refine wpList_store_row rfl 85 _ _ rfl _ _ rfl rfl 85 _ (heap_alloc_new _ _) (info32 _) rfl (arr_one _) ?_; rw [World.setRow_alloc_new]) | refine wpList_load_row rfl 85 _ rfl _ rfl 85 _ _ _ (heap_alloc_new _ _) Tryd.underlying85 rfl (info32 _) ?_)
  refine (isComplete_any (cn l) _ HB.out).mono ?_
  rw [hS]
  rintro e w2 ⟨rfl, hb2⟩
  have hg2 : w2.heap[w1.heap.size]? = some (.cells (arr (cn l)) 85 (0, 0)) := (hb2.block _ (by simp)).trans (heap_alloc_new _ _)
  obtain ⟨c0, c1, c2, c3, c4, c5, c6, c7, c8, c9, c10, c11⟩ := cells12 hg2
  go_wp2_with fail
  refine (isSingle_any (cn l) _).mono ?_
  rw [hO]
  rintro e w3 ⟨rfl, hb3⟩
  clear c0 c1 c2 c3 c4 c5 c6 c7 c8 c9 c10 c11
  have hb3' := grow2 (grow1 hb1 hb2) hb3
  go_wp2_with fail
  go_ret2
  exact ⟨rfl, hb3'⟩

/-- what Codes accepts -/
def accepts (l : List Int) : Bool := decide (l.length ≤ 269) && inRange l && okSet l
theorem codes_no (b o cap : Nat) (l : List Int) (w : World) (hl : l.length ≤ 9223372036854775807) (hc : Cells w b o l) (hb : b < w.heap.size) (h : accepts l = false) :
    Calls Tryd.prog 18 #[.slice (some ⟨b, o, none⟩) l.length cap] w fun e w' => e = .returned (.tuple #[.slice none 0 0, .int .i64 10]) ∧ Below w.heap.size w w' := by
  by_cases h1 : l.length ≤ 269
  · cases hr : inRange l
    · exact (codes_range b o cap l w h1 hc hr).mono fun e w' ⟨he, hw⟩ => ⟨he, hw ▸ Below.refl _ _⟩
    · exact codes_set b o cap l w h1 hc hb hr (by simpa [accepts, h1, hr] using h)
  · exact (codes_far _ _ cap w (by omega) hl).mono fun e w' ⟨he, hw⟩ => ⟨he, hw ▸ Below.refl _ _⟩
theorem codes_ok (b o cap : Nat) (l : List Int) (w : World) (hc : Cells w b o l) (hb : b < w.heap.size) (h : accepts l = true) :
    Calls Tryd.prog 18 #[.slice (some ⟨b, o, none⟩) l.length cap] w fun e w' => ∃ g, e = .returned (.tuple #[.slice (some ⟨g, 0, none⟩) l.length l.length, .int .i64 0]) ∧ w.heap.size ≤ g ∧ w'.rowIs g 3 l.length (fun i => .int .i64 (cdv (fc (cn l)) l i)) ∧ Below w.heap.size w w' := by
  simp [accepts] at h
  exact codes_yes b o cap l w h.1.1 hc hb h.1.2 h.2
end Go.Proofs.YteknanddcgjpbaaDoor
