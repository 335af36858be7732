/- The program's Codes at any slice. -/
import Derived.Test.YteknanddcgjpbaaDoorRc
namespace Go.Proofs.YteknanddcgjpbaaDoor
open Go.RowKit
theorem allInRange_empty (ad : Option Addr) (cap : Nat) (w : World) :
    Calls Tryd.prog 35 #[.slice ad 0 cap] w fun e w' => e = .returned (.bool true) ∧ w = w' := by
  go_enter Tryd.func35, Tryd.ntmps35
  go_wp2
  go_loop [7] (fun i => i = .int .i64 0) (fun _ => 0)
  case atStart => rfl
  case round =>
    obtain rfl := hrel
    go_wp2
    go_ret
    exact ⟨rfl, rfl⟩
set_option maxHeartbeats 400000 in
theorem countCodes_empty (ad : Option Addr) (cap : Nat) (w : World) :
    Calls Tryd.prog 36 #[.slice ad 0 cap] w fun e w' => e = .returned (.agg (arr (cn []))) ∧ Below w.heap.size w w' := by
  go_enter Tryd.func36, Tryd.ntmps36
  go_wp2
  go_loopw [8] (fun i wr => i = .int .i64 0 ∧ wr.rowIs (w.heap.size + 1) 85 12 (fun j => .int .i64 (cn [] j)) ∧ wr.rowIs w.heap.size 85 12 (fun _ => .int .i64 0) ∧ Below w.heap.size w wr) (fun _ _ => 0)
  case atStart =>
    refine ⟨rfl, ?_, ?_, ((Below.refl _ _).alloc (Nat.le_refl _) _).alloc (by simp) _⟩
    · have := arr_alloc (w.alloc (.cells (arr (fun _ => 0)) 85)) (fun _ => 0)
      simpa [cn_nil, arr] using this
    · have := (arr_alloc w (fun _ => 0)).alloc (.cells (arr (fun _ => 0)) 85)
      simpa [arr] using this
  case round =>
    obtain ⟨rfl, hrow, hres, hbel⟩ := hrel
    have h1 := arr_of hrow
    have h2 := arr_of (f := fun _ => 0) hres
    go_wp2_with (first | refine wpList_load_row rfl 85 _ rfl _ rfl 85 _ _ _ h1 Tryd.underlying85 rfl (info32 _) ?_ | refine wpList_store_row rfl 85 _ _ rfl _ _ rfl rfl 85 _ h2 (info32 _) rfl (arr_one _) ?_)
    refine bodyPost_ret (v := .agg (arr (cn []))) ?_ ?_ ?_
    · exact results_cell_row Tryd.results36 _ _ _ 85 _ _ _ rfl (setRow_heap _ _ _ _ 85 _ h2) Tryd.underlying85 rfl (info32 _)
    · rfl
    · exact ⟨rfl, below_setRow hbel (Nat.le_refl _) _⟩
theorem shr_empty : (shr (cn []) 12 == 2048) = false := by decide
theorem isOne_empty : isOne (cn []) = false := by decide
theorem accepts_empty : accepts [] = false := by decide
set_option maxHeartbeats 400000 in
theorem codes_empty (ad : Option Addr) (cap : Nat) (w : World) :
    Calls Tryd.prog 18 #[.slice ad 0 cap] w fun e w' => e = .returned (.tuple #[.slice none 0 0, .int .i64 10]) ∧ Below w.heap.size w w' := by
  have HB : Hid (∀ j, j < 12 → 0 ≤ cn [] j ∧ cn [] j ≤ 1000000) := cn_bound (l := []) (by simp)
  have hS := shr_empty
  have hO := isOne_empty
  go_enter Tryd.func18, Tryd.ntmps18
  go_wp2_with (go_at_call 35; refine (allInRange_empty ad cap _).mono ?_; rintro e w' ⟨rfl, rfl⟩)
  refine (countCodes_empty ad cap _).mono ?_
  rintro e w1 ⟨rfl, hb1⟩
  go_wp2_with (first | (refine wpList_store_row rfl 85 _ _ rfl _ _ rfl rfl 85 _ (heap_alloc_new _ _) (info32 _) rfl (arr_one _) ?_; rw [World.setRow_alloc_new]) | refine wpList_load_row rfl 85 _ rfl _ rfl 85 _ _ _ (heap_alloc_new _ _) Tryd.underlying85 rfl (info32 _) ?_)
  refine (isComplete_any (cn []) _ HB.out).mono ?_
  rw [hS]
  rintro e w2 ⟨rfl, hb2⟩
  have hg2 : w2.heap[w1.heap.size]? = some (.cells (arr (cn [])) 85 (0, 0)) := (hb2.block _ (by simp)).trans (heap_alloc_new _ _)
  obtain ⟨c0, c1, c2, c3, c4, c5, c6, c7, c8, c9, c10, c11⟩ := cells12 hg2
  go_wp2_with fail
  refine (isSingle_any (cn []) _).mono ?_
  rw [hO]
  rintro e w3 ⟨rfl, hb3⟩
  clear c0 c1 c2 c3 c4 c5 c6 c7 c8 c9 c10 c11
  have hb3' := grow2 (grow1 hb1 hb2) hb3
  go_wp2_with fail
  go_ret2
  exact ⟨rfl, hb3'⟩

/-- what Codes comes to -/
theorem codes_at (ad : Option Addr) (cap : Nat) (l : List Int) (w : World) (hl : l.length ≤ 9223372036854775807) (hc : CellsO w ad l) :
    Calls Tryd.prog 18 #[.slice ad l.length cap] w fun e w' =>
      (accepts l = true ∧ ∃ g, e = .returned (.tuple #[.slice (some ⟨g, 0, none⟩) l.length l.length, .int .i64 0]) ∧ w.heap.size ≤ g ∧ w'.rowIs g 3 l.length (fun i => .int .i64 (cdv (fc (cn l)) l i)) ∧ Below w.heap.size w w') ∨
      (accepts l = false ∧ e = .returned (.tuple #[.slice none 0 0, .int .i64 10]) ∧ Below w.heap.size w w') := by
  by_cases h0 : 0 < l.length
  · obtain ⟨b, o, rfl, hb, _⟩ := hc 0 h0
    have hc' : Cells w b o l := fun i hi => by
      obtain ⟨b', o', e, _, h⟩ := hc i hi
      simp only [Option.some.injEq, Addr.mk.injEq, and_true] at e
      rw [e.1, e.2]; exact h
    cases h : accepts l
    · exact (codes_no b o cap l w hl hc' hb h).mono fun e w' h' => Or.inr ⟨rfl, h'⟩
    · exact (codes_ok b o cap l w hc' hb h).mono fun e w' h' => Or.inl ⟨rfl, h'⟩
  · have : l = [] := List.length_eq_zero_iff.1 (by omega)
    subst this
    exact (codes_empty ad cap w).mono fun e w' h' => Or.inr ⟨accepts_empty, h'⟩
end Go.Proofs.YteknanddcgjpbaaDoor
