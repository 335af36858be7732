/- Contracts of the small functions that Codes calls: IsComplete, IsSingle, firstCodes. -/
import Derived.Test.YtbcjmakpempkiaaGreatDoorWb
import Derived.ChangeKeysEq
import Derived.Laws.StructEq
namespace Go.Proofs.YtbcjmakpempkiaaGreatDoor
open Go.RowKit
theorem idx (f : Nat → Int) (k : Nat) (hk : k < 12) (w : World) : (Instr.index 197 (.agg (arr f)) (.int .i64 k)).run Tryz.prog w = .ok (.int .i64 (f k)) w := by
  have := arr_get f k hk
  simp [Instr.index, go_sem, this, hk]

def shr (f : Nat → Int) : Nat → Int
  | 0 => 0
  | k + 1 => shr f k + f k * 2 ^ (11 - k)
theorem pow_le (k : Nat) : (0 : Int) < 2 ^ (11 - k) ∧ (2 : Int) ^ (11 - k) ≤ 2048 := by
  have h : 11 - k ≤ 11 := by omega
  generalize 11 - k = m at *
  have : m = 0 ∨ m = 1 ∨ m = 2 ∨ m = 3 ∨ m = 4 ∨ m = 5 ∨ m = 6 ∨ m = 7 ∨ m = 8 ∨ m = 9 ∨ m = 10 ∨ m = 11 := by omega
  rcases this with rfl | rfl | rfl | rfl | rfl | rfl | rfl | rfl | rfl | rfl | rfl | rfl <;> decide
theorem term_le {x : Int} (h0 : 0 ≤ x) (h1 : x ≤ 1000000) (k : Nat) : 0 ≤ x * 2 ^ (11 - k) ∧ x * 2 ^ (11 - k) ≤ 2048000000 := by
  have ⟨a, b⟩ := pow_le k
  exact ⟨Int.mul_nonneg h0 (by omega), Int.le_trans (Int.mul_le_mul h1 b (by omega) (by omega)) (by decide)⟩
theorem shr_le (f : Nat → Int) (hf : ∀ j, j < 12 → 0 ≤ f j ∧ f j ≤ 1000000) (k : Nat) (hk : k ≤ 12) : 0 ≤ shr f k ∧ shr f k ≤ 2048000000 * k := by
  induction k with
  | zero => exact ⟨by simp [shr], by simp [shr]⟩
  | succ k ih =>
    have ⟨a, b⟩ := ih (by omega)
    have ⟨c, d⟩ := hf k (by omega)
    have ⟨e, g⟩ := term_le c d k
    simp only [shr]
    omega
theorem shr_step (f : Nat → Int) (hf : ∀ j, j < 12 → 0 ≤ f j ∧ f j ≤ 1000000) (k : Nat) (hk : k < 12) : wrap64 (shr f k + wrap64 (f k * 2 ^ (11 - k))) = shr f (k + 1) := by
  have ⟨a, b⟩ := shr_le f hf k (by omega)
  have ⟨c, d⟩ := hf k hk
  have ⟨e, g⟩ := term_le c d k
  rw [IntWalk.wrap64_in (f k * 2 ^ (11 - k)) ⟨by omega, by omega⟩, IntWalk.wrap64_in _ ⟨by omega, by omega⟩]
  rfl
set_option maxHeartbeats 400000 in
theorem isComplete_any (f : Nat → Int) (w : World) (hf : ∀ j, j < 12 → 0 ≤ f j ∧ f j ≤ 1000000) :
    Calls Tryz.prog 115 #[.agg (arr f)] w fun e w' => e = .returned (.bool (shr f 12 == 2048)) ∧ Below w.heap.size w w' := by
  go_enter Tryz.func115, Tryz.ntmps115
  go_wp2_with (refine wpList_load_row rfl 197 _ rfl _ rfl 199 (arr f) (0, 0) _ (heap_alloc_new _ _) Tryz.underlying197 rfl (info32 _) ?_)
  go_loop [3, 8] (fun s i => ∃ k : Nat, k ≤ 12 ∧ i = .int .i64 k ∧ s = .int .i64 (shr f k)) (fun _ i => 12 - (intOf i).toNat)
  case atStart => exact ⟨0, Nat.zero_le _, rfl, rfl⟩
  case round =>
    obtain ⟨k, hk, rfl, rfl⟩ := hrel
    by_cases hlt : k < 12
    · have hi := idx f k hlt
      have HS : Hid (wrap64 (shr f k + wrap64 (f k * 2 ^ (11 - k))) = shr f (k + 1)) := shr_step f hf k hlt
      go_wp2
      go_round
      case rel => exact ⟨k + 1, by omega, by go_num, by rw [HS.out]⟩
      case measure => simp [intOf]; omega
    · obtain rfl : k = 12 := by omega
      go_wp2
      go_ret
      exact ⟨rfl, (Below.refl _ _).alloc (Nat.le_refl _) _⟩
def one (j : Nat) : Int := if j = 1 then 1 else 0
def isOne (f : Nat → Int) : Bool := (List.range 12).all fun i => f i == one i
theorem part3 (f : Nat → Int) (i : Nat) (hi : i < 12) (w : World) : (part 3 (arr f) (i * Tryz.prog.cellsOf 3)).run Tryz.prog w = .ok (.int .i64 (f i)) w := by
  have hc : Tryz.prog.cellsOf 3 = 1 := by kernel_rfl
  have := arr_get f i hi
  simp [part, hc, go_sem, this]
theorem eqItems_arr (d : Nat) (f g : Nat → Int) (w : World) : ∀ is : List Nat, (∀ i ∈ is, i < 12) → (Op.eqItems (d + 1) 3 (Tryz.prog.cellsOf 3) (arr f) (arr g) is).run Tryz.prog w = .ok (is.all fun i => f i == g i) w
  | [], _ => by simp [Op.eqItems]
  | i :: is, h => by
    have hi := h i (by simp)
    have ih := eqItems_arr d f g w is (fun j hj => h j (by simp [hj]))
    simp only [Op.eqItems, Sem.run_bind, part3 f i hi, part3 g i hi, Result.andThen_ok, run_equalIn_int w d 3 .i64 .i64 (f i) (g i) Tryz.underlying3]
    by_cases e : f i = g i
    · simp [e, ih]
    · simp [e]
theorem eqOne (f : Nat → Int) (w : World) : (Op.equalIn 10000 197 (.agg (arr f)) (.agg #[.int .i64 0, .int .i64 1, .int .i64 0, .int .i64 0, .int .i64 0, .int .i64 0, .int .i64 0, .int .i64 0, .int .i64 0, .int .i64 0, .int .i64 0, .int .i64 0])).run Tryz.prog w = .ok (isOne f) w := by
  have hz := Tryz.sizeOf3
  obtain ⟨i, hi⟩ : ∃ i, Tryz.prog.info? 3 = some i := by
    cases h : Tryz.prog.info? 3 with
    | none => have : (Tryz.prog.info? 3).isSome = true := by kernel_rfl
              simp [h] at this
    | some i => exact ⟨i, rfl⟩
  have e : (#[.int .i64 0, .int .i64 1, .int .i64 0, .int .i64 0, .int .i64 0, .int .i64 0, .int .i64 0, .int .i64 0, .int .i64 0, .int .i64 0, .int .i64 0, .int .i64 0] : Array Value) = arr one := rfl
  rw [e, show (10000 : Nat) = 9999 + 1 from rfl, run_equalIn_array w 9999 _ _ Tryz.underlying197 hi]
  exact eqItems_arr 9998 f one w (List.range 12) (fun i hi => by simpa using hi)
set_option maxHeartbeats 400000 in
theorem isSingle_any (f : Nat → Int) (w : World) :
    Calls Tryz.prog 116 #[.agg (arr f)] w fun e w' => e = .returned (.bool (isOne f)) ∧ Below w.heap.size w w' := by
  have he := eqOne f
  go_enter Tryz.func116, Tryz.ntmps116
  go_wp2_with (refine wpList_load_row rfl 197 _ rfl _ rfl 199 (arr f) (0, 0) _ (heap_alloc_new _ _) Tryz.underlying197 rfl (info32 _) ?_)
  go_ret
  exact ⟨rfl, (Below.refl _ _).alloc (Nat.le_refl _) _⟩

/-- the first code of each length -/
def fc (f : Nat → Int) : Nat → Int
  | 0 => 0
  | k + 1 => (fc f k + f k) * 2
theorem fc_le (f : Nat → Int) (hf : ∀ j, j < 12 → 0 ≤ f j ∧ f j ≤ 1000000) (k : Nat) (hk : k ≤ 12) : 0 ≤ fc f k ∧ fc f k ≤ 2000000 * (2 ^ k - 1) := by
  induction k with
  | zero => exact ⟨by simp [fc], by simp [fc]⟩
  | succ k ih =>
    have ⟨a, b⟩ := ih (by omega)
    have ⟨c, d⟩ := hf k (by omega)
    simp only [fc]
    rw [Int.pow_succ]
    omega
theorem pow12 (k : Nat) (hk : k ≤ 12) : (2 : Int) ^ k ≤ 4096 := by
  have : k = 0 ∨ k = 1 ∨ k = 2 ∨ k = 3 ∨ k = 4 ∨ k = 5 ∨ k = 6 ∨ k = 7 ∨ k = 8 ∨ k = 9 ∨ k = 10 ∨ k = 11 ∨ k = 12 := by omega
  rcases this with rfl | rfl | rfl | rfl | rfl | rfl | rfl | rfl | rfl | rfl | rfl | rfl | rfl <;> decide
theorem fc_le' (f : Nat → Int) (hf : ∀ j, j < 12 → 0 ≤ f j ∧ f j ≤ 1000000) (k : Nat) (hk : k ≤ 12) : 0 ≤ fc f k ∧ fc f k ≤ 8192000000 := by
  have ⟨a, b⟩ := fc_le f hf k hk
  have := pow12 k hk
  omega
/-- the first codes, as far as they are known -/
def fcTo (f : Nat → Int) (k j : Nat) : Int := if j ≤ k then fc f j else 0
theorem fcTo_step {wr : World} {g : Nat} {f : Nat → Int} {k : Nat} (h : wr.rowIs g 197 12 (fun j => .int .i64 (fcTo f k j))) :
    (wr.setCell ⟨g, k + 1, none⟩ (.int .i64 (fc f (k + 1)))).rowIs g 197 12 (fun j => .int .i64 (fcTo f (k + 1) j)) := by
  refine (h.set (k + 1) _).congr fun i _ => ?_
  unfold fcTo
  by_cases e : i = k + 1
  · subst e; rw [if_pos rfl, if_pos (Nat.le_refl _)]
  · rw [if_neg e]
    by_cases e2 : i ≤ k
    · rw [if_pos e2, if_pos (by omega)]
    · rw [if_neg e2, if_neg (by omega)]
theorem fcTo_all {wr : World} {g : Nat} {f : Nat → Int} (h : wr.rowIs g 197 12 (fun j => .int .i64 (fcTo f 11 j))) : wr.rowIs g 197 12 (fun j => .int .i64 (fc f j)) :=
  h.congr fun i hi => by rw [fcTo, if_pos (by omega)]
set_option maxHeartbeats 400000 in
theorem firstCodes_any (f : Nat → Int) (w : World) (hf : ∀ j, j < 12 → 0 ≤ f j ∧ f j ≤ 1000000) :
    Calls Tryz.prog 151 #[.agg (arr f)] w fun e w' => e = .returned (.agg (arr (fc f))) ∧ Below w.heap.size w w' := by
  go_enter Tryz.func151, Tryz.ntmps151
  go_wp2
  go_loopw [4] (fun i wr => ∃ k : Nat, k ≤ 11 ∧ i = .int .i64 (k + 1) ∧ wr.rowIs (w.heap.size + 1 + 1) 197 12 (fun j => .int .i64 (fcTo f k j)) ∧ wr.rowIs w.heap.size 199 12 (fun j => .int .i64 (f j)) ∧ wr.rowIs (w.heap.size + 1) 197 12 (fun _ => .int .i64 0) ∧ Below w.heap.size w wr) (fun i _ => 12 - (intOf i).toNat)
  case atStart =>
    refine ⟨0, Nat.zero_le _, rfl, ?_, ?_, ?_, (((Below.refl _ _).alloc (Nat.le_refl _) _).alloc (by simp) _).alloc (by simp; omega) _⟩
    · have := arr_alloc 197 ((w.alloc (.cells (arr f) 199)).alloc (.cells (arr (fun _ => 0)) 197)) (fun _ => 0)
      have h2 := this.congr (g := fun j => .int .i64 (fcTo f 0 j)) (fun i _ => by unfold fcTo; split <;> simp_all [fc])
      simpa [arr] using h2
    · have := ((arr_alloc 199 w f).alloc (.cells (arr (fun _ => 0)) 197)).alloc (.cells (arr (fun _ => 0)) 197)
      simpa [arr] using this
    · have := (arr_alloc 197 (w.alloc (.cells (arr f) 199)) (fun _ => 0)).alloc (.cells (arr (fun _ => 0)) 197)
      simpa [arr] using this
  case round =>
    obtain ⟨k, hk, rfl, hrow, hf1, hres, hbel⟩ := hrel
    by_cases hlt : k < 11
    · have g1 := hrow.cell (i := k) (by omega)
      have g2 := hf1.cell (i := k) (by omega)
      have g3 := hrow.cell (i := k + 1) (by omega)
      have g4 := hrow.frozen (k + 1)
      have e1 : fcTo f k k = fc f k := if_pos (Nat.le_refl _)
      rw [e1] at g1
      have ⟨b1, b2⟩ := fc_le' f hf k (by omega)
      have ⟨b3, b4⟩ := hf k (by omega)
      clear e1
      have R : (wr.setCell ⟨w.heap.size + 1 + 1, k + 1, none⟩ (.int .i64 ((fc f k + f k) * 2))).drew.rowIs (w.heap.size + 1 + 1) 197 12 (fun j => .int .i64 (fcTo f (k + 1) j)) := (fcTo_step hrow).drew
      have R1 := (hf1.setOther (a := ⟨w.heap.size + 1 + 1, k + 1, none⟩) (by simp; omega) (.int .i64 ((fc f k + f k) * 2))).drew
      have R2 := (hres.setOther (a := ⟨w.heap.size + 1 + 1, k + 1, none⟩) (by simp) (.int .i64 ((fc f k + f k) * 2))).drew
      have R3 := (hbel.setCell (p := ⟨w.heap.size + 1 + 1, k + 1, none⟩) (by simp; omega) (.int .i64 ((fc f k + f k) * 2))).drew
      go_wp2
      go_region
      go_wp2
      go_roundw
      case rel => exact ⟨k + 1, by omega, by go_num, R, R1, R2, R3⟩
      case measure => simp [intOf]; omega
    · obtain rfl : k = 11 := by omega
      have h1 := arr_of (fcTo_all hrow)
      have h2 := arr_of (f := fun _ => 0) hres
      go_wp2_with (first | refine wpList_load_row rfl 197 _ rfl _ rfl 197 _ _ _ h1 Tryz.underlying197 rfl (info32 _) ?_ | refine wpList_store_row rfl 197 _ _ rfl _ _ rfl rfl 197 _ h2 (info32 _) rfl (arr_one _) ?_)
      refine bodyPost_ret (v := .agg (arr (fc f))) ?_ ?_ ?_
      · exact results_cell_row Tryz.results151 _ _ _ 197 _ _ _ rfl (setRow_heap _ _ _ _ 197 _ h2) Tryz.underlying197 rfl (info32 _)
      · rfl
      · exact ⟨rfl, below_setRow hbel (by omega) _⟩
end Go.Proofs.YtbcjmakpempkiaaGreatDoor
