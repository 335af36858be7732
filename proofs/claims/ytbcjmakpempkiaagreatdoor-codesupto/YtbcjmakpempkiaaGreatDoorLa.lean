/- Contracts of the law's small helpers: sameInts, all, lentInts, num. -/
import Derived.Test.YtbcjmakpempkiaaGreatDoorRd
import Derived.Laws.CopyOwn
import Derived.ArgAppend
namespace Go.Proofs.YtbcjmakpempkiaaGreatDoor
open Go.RowKit

theorem num_any (n : Int) (w : World) : Calls Tryz.prog 86 #[.int .i64 n] w fun e w' => e = .returned (.int .i64 n) ∧ w = w' := by
  go_enter Tryz.func86, Tryz.ntmps86
  go_wp2
  go_ret
  exact ⟨rfl, rfl⟩
set_option maxHeartbeats 400000 in
theorem same_true (ad bd : Option Addr) (cap cap' : Nat) (l : List Int) (w : World) (hl : l.length ≤ 9223372036854775807) (hc : CellsO w ad l) (hd : CellsO w bd l) :
    Calls Tryz.prog 62 #[.slice ad l.length cap, .slice bd l.length cap'] w fun e w' => e = .returned (.bool true) ∧ ∃ q, w' = w.drewN q := by
  go_enter Tryz.func62, Tryz.ntmps62
  go_wp2
  go_loopw [5] (fun i wr => ∃ k q : Nat, k ≤ l.length ∧ i = .int .i64 k ∧ wr = w.drewN q) (fun i _ => l.length - (intOf i).toNat)
  case atStart => exact ⟨0, 0, Nat.zero_le _, rfl, rfl⟩
  case round =>
    obtain ⟨k, q, hk, rfl, rfl⟩ := hrel
    by_cases hlt : k < l.length
    · obtain ⟨b, o, x, rfl, g1, hx⟩ := hc.at hlt
      obtain ⟨b', o', y, rfl, g2, hy⟩ := hd.at hlt
      obtain rfl : x = y := by rw [← hx.out, ← hy.out]
      go_wp2
      go_quiet (fail)
      go_wp2
      go_roundw
      case rel => exact ⟨k + 1, _, by omega, by go_num, rfl⟩
      case measure => simp [intOf]; omega
    · go_wp2
      go_ret
      exact ⟨rfl, q, rfl⟩
set_option maxHeartbeats 400000 in
theorem all_true (ad : Option Addr) (cap n : Nat) (m : Int) (w : World) (hn : n ≤ 9223372036854775807) (hc : CellsO w ad (List.replicate n m)) :
    Calls Tryz.prog 63 #[.slice ad n cap, .int .i64 m] w fun e w' => e = .returned (.bool true) ∧ w = w' := by
  have HC : Hid (∀ k, k < n → ∃ b o, ad = some ⟨b, o, none⟩ ∧ w.cell? ⟨b, o + k, none⟩ = some (.int .i64 m)) := by
    intro k hk
    obtain ⟨b, o, e, _, h⟩ := hc k (by simpa using hk)
    refine ⟨b, o, e, ?_⟩
    rw [h]; simp [hk]
  clear hc
  go_enter Tryz.func63, Tryz.ntmps63
  go_wp2
  go_loop [5] (fun i => ∃ k : Nat, k ≤ n ∧ i = .int .i64 k) (fun i => n - (intOf i).toNat)
  case atStart => exact ⟨0, Nat.zero_le _, rfl⟩
  case round =>
    obtain ⟨k, hk, rfl⟩ := hrel
    by_cases hlt : k < n
    · obtain ⟨b, o, rfl, g⟩ := HC.out k hlt
      go_wp2
      go_round
      case rel => exact ⟨k + 1, by omega, by go_num⟩
      case measure => simp [intOf]; omega
    · go_wp2
      go_ret
      exact ⟨rfl, rfl⟩
theorem eqNilOf (ad : Option Addr) (n c : Nat) (w : World) : (binOp .eql 69 (.slice ad n c) (.slice none 0 0)).run Tryz.prog w = .ok (.bool ad.isNone) w := by
  rw [Lib.run_eql_slice_nil w 69 3 ad n c 0 0 Tryz.underlying69]
theorem lent_nil (w : World) :
    Calls Tryz.prog 82 #[.slice none 0 0] w fun e w' => e = .returned (.slice none 0 0) ∧ w = w' := by
  have h := eqNilOf none 0 0
  simp only [Option.isNone_none] at h
  go_enter Tryz.func82, Tryz.ntmps82
  go_wp2
  go_ret
  exact ⟨rfl, rfl⟩
/-- a list that is lent, as it lies: the numbers, then eight times 77 -/
def lentAt (l : List Int) (i : Nat) : Int := if i < l.length then l.getD i 0 else 77
/-- .. as far as it is laid -/
def lentTo (l : List Int) (k i : Nat) : Int := if i < l.length then l.getD i 0 else if i < l.length + k then 77 else 0
theorem lent1 (l : List Int) : (ivals l).length = l.length.min (l.length + 8) := by simp [ivals]
theorem lent2 {w : World} {b o : Nat} {l : List Int} (hc : CellsO w (some ⟨b, o, none⟩) l) (ob : Obj) : ∀ (j : Nat) (v : Value), (ivals l)[j]? = some v → (w.alloc ob).cell? ((⟨b, o, none⟩ : Addr).add j) = some v := by
  intro j v hv
  have hj : j < l.length := by
    rcases Nat.lt_or_ge j l.length with h' | h'
    · exact h'
    · simp [ivals, h'] at hv
  obtain ⟨b', o', e, hlt, h⟩ := hc j hj
  simp only [Option.some.injEq, Addr.mk.injEq, and_true] at e
  rw [← e.1, ← e.2] at h
  rw [← e.1] at hlt
  have hadd : (⟨b, o, none⟩ : Addr).add j = ⟨b, o + j, none⟩ := by unfold Addr.add; split <;> simp_all
  rw [hadd]
  have : (w.alloc ob).cell? ⟨b, o + j, none⟩ = w.cell? ⟨b, o + j, none⟩ := World.cell?_of_block (Below.heap_alloc w ob b hlt)
  rw [this, h]
  simpa [ivals, hj] using hv
theorem lent3 (l : List Int) : 0 + (ivals l).length ≤ (madeCells #[Value.int .i64 0] (l.length + 8)).size := by rw [size_madeCells]; simp [ivals]
theorem lent4 (l : List Int) : ∀ v ∈ ivals l, v.oneCell' = true := by
  intro u hu
  obtain ⟨x, _, rfl⟩ := List.mem_map.1 hu
  rfl
theorem lent5 (l : List Int) (w : World) : (w.alloc (.cells (ivals l ++ (madeCells #[Value.int .i64 0] (l.length + 8)).toList.drop (ivals l).length).toArray 3)).rowIs w.heap.size 3 (l.length + 8) (fun i => .int .i64 (lentTo l 0 i)) := by
  have e : (madeCells #[Value.int .i64 0] (l.length + 8)).toList.drop (ivals l).length = List.replicate 8 (Value.int .i64 0) := by
    rw [toList_madeCells_one, List.drop_replicate]; simp [ivals]
  rw [e]
  refine ⟨_, heap_alloc_new _ _, by simp [ivals], fun i hi => ?_⟩
  rw [List.getElem?_toArray, List.getElem?_append]
  unfold lentTo
  dsimp only
  by_cases h : i < l.length
  · rw [if_pos (by simpa [ivals] using h), if_pos h]
    simp [ivals, h]
  · rw [if_neg (by simpa [ivals] using h), if_neg h, if_neg (by omega), List.getElem?_replicate, if_pos (by simp [ivals]; omega)]
theorem lent6 {l : List Int} {wr : World} {g k : Nat} (h : wr.rowIs g 3 (l.length + 8) (fun i => .int .i64 (lentTo l k i))) : (wr.setCell ⟨g, l.length + k, none⟩ (.int .i64 77)).rowIs g 3 (l.length + 8) (fun i => .int .i64 (lentTo l (k + 1) i)) := by
  refine (h.set (l.length + k) _).congr fun i _ => ?_
  unfold lentTo
  by_cases e : i = l.length + k
  · rw [if_pos e, if_neg (by omega), if_pos (by omega)]
  · rw [if_neg e]
    by_cases e1 : i < l.length
    · rw [if_pos e1, if_pos e1]
    · rw [if_neg e1, if_neg e1]
      by_cases e2 : i < l.length + k
      · rw [if_pos e2, if_pos (by omega)]
      · rw [if_neg e2, if_neg (by omega)]
set_option maxRecDepth 100000 in
set_option maxHeartbeats 1000000 in
theorem lent_some (b o cap : Nat) (l : List Int) (w : World) (hl : l.length ≤ 1000000000) (hc : CellsO w (some ⟨b, o, none⟩) l) :
    Calls Tryz.prog 82 #[.slice (some ⟨b, o, none⟩) l.length cap] w fun e w' => e = .returned (.slice (some ⟨w.heap.size, 0, none⟩) l.length (l.length + 8)) ∧ w'.rowIs w.heap.size 3 (l.length + 8) (fun i => .int .i64 (lentAt l i)) ∧ Below w.heap.size w w' := by
  have h := eqNilOf (some ⟨b, o, none⟩) l.length cap
  simp only [Option.isNone_some] at h
  have hmk := run_make_row' (P := Tryz.prog) 69 3 (.int .i64 0) 8 Tryz.underlying69 info3 rfl .i64 .i64 (l.length + 8) (by omega) (by omega)
  have ec : ((l.length + 8 : Nat) : Int) = (l.length : Int) + 8 := by omega
  rw [ec] at hmk
  clear ec
  go_enter Tryz.func82, Tryz.ntmps82
  go_upto_region 5 with fail
  go_wp2_with (first | (refine wpList_copy_own rfl (.tmp 13) (.tmp 14) 69 69 rfl 3 Tryz.underlying69 (by kernel_rfl) w.heap.size 0 (l.length + 8) (l.length + 8) ⟨b, o, none⟩ l.length cap rfl rfl (madeCells #[.int .i64 0] (l.length + 8)) 3 (heap_alloc_new _ _) (ivals l) (lent1 l) (lent2 hc _) (lent3 l) (lent4 l) ?_; rw [World.setRow_alloc_new]))
  go_loopw [5] (fun i wr => ∃ k : Nat, k ≤ 8 ∧ i = .int .i64 (l.length + k) ∧ wr.rowIs w.heap.size 3 (l.length + 8) (fun i => .int .i64 (lentTo l k i)) ∧ Below w.heap.size w wr) (fun i _ => l.length + 8 - (intOf i).toNat)
  case atStart => exact ⟨0, by omega, by simp, lent5 l w, (Below.refl _ _).alloc (Nat.le_refl _) _⟩
  case round =>
    obtain ⟨k, hk, rfl, hrow, hbel⟩ := hrel
    by_cases hlt : k < 8
    · have g1 := hrow.cell (i := l.length + k) (by omega)
      have g2 := hrow.frozen (l.length + k)
      have R := lent6 hrow
      have R2 := hbel.setCell (p := ⟨w.heap.size, l.length + k, none⟩) (by simp) (.int .i64 77)
      clear hmk
      go_wp2_with fail
      go_roundw
      case rel => exact ⟨k + 1, by omega, by go_num, R, R2⟩
      case measure => simp [intOf]; omega
    · obtain rfl : k = 8 := by omega
      have R := hrow.congr (g := fun i => .int .i64 (lentAt l i)) (fun i hi => by unfold lentTo lentAt; split <;> simp_all)
      clear hmk hrow
      go_wp2_with fail
      go_ret
      exact ⟨rfl, R, hbel⟩
end Go.Proofs.YtbcjmakpempkiaaGreatDoor
