/- Contracts of the small functions that Codes calls: Assign. -/
import Derived.Test.YtbcjmakpempkiaaGreatDoorWc
import Derived.Deep.WholeRow
namespace Go.Proofs.YtbcjmakpempkiaaGreatDoor
open Go.RowKit
theorem info3 : (Tryz.prog.info? 3).map (fun i => (i.zero, i.size, i.bytes)) = some (some (.int .i64 0), 1, 8) := by kernel_rfl

/-- the code of symbol i, where the first codes are nx -/
def cdv (nx : Nat → Int) (l : List Int) (i : Nat) : Int := if l.getD i 0 = 0 then -1 else nx (l.getD i 0).toNat + cn (l.take i) (l.getD i 0).toNat
def cdTo (nx : Nat → Int) (l : List Int) (k i : Nat) : Int := if i < k then cdv nx l i else 0
theorem cdv_zero {nx : Nat → Int} {l : List Int} {k : Nat} (hk : k < l.length) (h : l[k] = 0) : cdv nx l k = -1 := by
  rw [cdv, if_pos (by simp [hk, h])]
theorem cdv_pos {nx : Nat → Int} {l : List Int} {k n : Nat} (hk : k < l.length) (h : l[k] = (n : Int)) (hn : 0 < n) : cdv nx l k = nx n + cn (l.take k) n := by
  have e : l.getD k 0 = n := by simp [hk, h]
  rw [cdv, e, if_neg (by omega)]; simp
theorem cd_step {nx : Nat → Int} {l : List Int} {wr : World} {g m k : Nat} (v : Int) (hv : cdv nx l k = v) (h : wr.rowIs g 3 m (fun i => .int .i64 (cdTo nx l k i))) :
    (wr.setCell ⟨g, k, none⟩ (.int .i64 v)).rowIs g 3 m (fun i => .int .i64 (cdTo nx l (k + 1) i)) := by
  refine (h.set k _).congr fun i _ => ?_
  unfold cdTo
  by_cases e : i = k
  · subst e; rw [if_pos rfl, if_pos (by omega), hv]
  · rw [if_neg e]
    by_cases e2 : i < k
    · rw [if_pos e2, if_pos (by omega)]
    · rw [if_neg e2, if_neg (by omega)]
theorem nx_step {nx : Nat → Int} {l : List Int} {wr : World} {g k n : Nat} (hk : k < l.length) (hx : l[k] = (n : Int)) (hn : 0 < n) (h : wr.rowIs g 197 12 (fun j => .int .i64 (nx j + cn (l.take k) j))) :
    (wr.setCell ⟨g, n, none⟩ (.int .i64 (nx n + cn (l.take k) n + 1))).rowIs g 197 12 (fun j => .int .i64 (nx j + cn (l.take (k + 1)) j)) := by
  refine (h.set n _).congr fun i _ => ?_
  rw [cn_take_succ hk, hx]
  by_cases e : i = n
  · subst e; rw [if_pos rfl, if_pos ⟨by omega, rfl⟩]; congr 1; omega
  · rw [if_neg e, if_neg (by omega)]; simp
theorem nx_skip {nx : Nat → Int} {l : List Int} {wr : World} {g k : Nat} (hk : k < l.length) (hx : l[k] = 0) (h : wr.rowIs g 197 12 (fun j => .int .i64 (nx j + cn (l.take k) j))) :
    wr.rowIs g 197 12 (fun j => .int .i64 (nx j + cn (l.take (k + 1)) j)) := by
  refine h.congr fun i _ => ?_
  rw [cn_take_succ hk, hx]; simp

theorem grow2 {w0 w1 w2 : World} (h1 : Below w0.heap.size w0 w1) (h2 : Below w1.heap.size w1 w2) : Below w0.heap.size w0 w2 := h1.trans (h2.mono h1.size)
theorem cn_bound {l : List Int} (hl : l.length ≤ 269) : ∀ j, j < 12 → 0 ≤ cn l j ∧ cn l j ≤ 1000000 := fun j _ => ⟨cn_nonneg l j, by have := cn_le l j; omega⟩
set_option maxHeartbeats 400000 in
theorem assign_any (ad : Option Addr) (cap : Nat) (l : List Int) (w : World) (hl : l.length ≤ 269) (hc : CellsO w ad l) (hr : inRange l = true) :
    Calls Tryz.prog 117 #[.slice ad l.length cap] w fun e w' => ∃ g, e = .returned (.slice (some ⟨g, 0, none⟩) l.length l.length) ∧ w.heap.size ≤ g ∧ w'.rowIs g 3 l.length (fun i => .int .i64 (cdv (fc (cn l)) l i)) ∧ Below w.heap.size w w' := by
  have hmk := run_make_row' (P := Tryz.prog) 69 3 (.int .i64 0) 8 Tryz.underlying69 info3 rfl .i64 .i64 l.length (by omega) (by omega)
  have HB : Hid (∀ j, j < 12 → 0 ≤ cn l j ∧ cn l j ≤ 1000000) := cn_bound hl
  go_enter Tryz.func117, Tryz.ntmps117
  go_wp2_with fail
  refine (setOf_any ad cap l _ (by omega) hc hr).mono ?_
  rintro e w1 ⟨rfl, hb1⟩
  go_wp2_with fail
  refine (firstCodes_any (cn l) _ HB.out).mono ?_
  rintro e w2 ⟨rfl, hb2⟩
  have hc2 : CellsO w2 ad l := hc.below (grow2 hb1 hb2) (Nat.le_refl _)
  have HG : Hid (Below w.heap.size w w2) := grow2 hb1 hb2
  have hnx := fun j (hj : j < 12) => fc_le' _ HB.out j (Nat.le_of_lt hj)
  clear hb1 hb2 hc
  go_wp2_with (first | (refine wpList_store_row rfl 197 _ _ rfl _ _ rfl rfl 197 _ (heap_alloc_new _ _) (info32 _) rfl (arr_one _) ?_; rw [World.setRow_alloc_new]))
  go_loopw [15] (fun i wr => ∃ k : Nat, k ≤ l.length ∧ i = .int .i64 k ∧ wr.rowIs (w2.heap.size + 1) 3 l.length (fun i => .int .i64 (cdTo (fc (cn l)) l k i)) ∧ wr.rowIs w2.heap.size 197 12 (fun j => .int .i64 ((fc (cn l)) j + cn (l.take k) j)) ∧ Below w2.heap.size w2 wr) (fun i _ => l.length - (intOf i).toNat)
  case atStart =>
    refine ⟨0, Nat.zero_le _, rfl, ?_, ?_, ((Below.refl _ _).alloc (Nat.le_refl _) _).alloc (by simp) _⟩
    · have := World.rowIs_made (w2.alloc (.cells (arr (fc (cn l))) 197)) (.int .i64 0) l.length 3
      have h2 := this.congr (g := fun i => .int .i64 (cdTo (fc (cn l)) l 0 i)) (fun i _ => by rw [cdTo, if_neg (by omega)])
      simpa using h2
    · have := ((arr_alloc 197 w2 (fc (cn l))).alloc (.cells (madeCells #[.int .i64 0] l.length) 3)).congr (g := fun j => .int .i64 ((fc (cn l)) j + cn (l.take 0) j)) (fun i _ => by simp [cn_nil])
      exact this
  case round =>
    obtain ⟨k, hk, rfl, hrow, hnx1, hbel⟩ := hrel
    by_cases hlt : k < l.length
    · obtain ⟨b, o, n, rfl, g, hn, hx⟩ := (hc2.below hbel (Nat.le_refl _)).atNat hr hlt
      have ⟨b0, b1⟩ := hnx n (by omega)
      have hcn0 := cn_nonneg (l.take k) n
      have hcn1 : cn (l.take k) n ≤ 1000000 := by
        have := cn_le (l.take k) n
        have := List.length_take_le k l
        omega
      have g1 := hrow.cell hlt
      have g2 := hrow.frozen k
      have g3 := hnx1.cell (i := n) (by omega)
      have g4 := hnx1.frozen n
      by_cases hpos : 0 < n
      · have R := cd_step _ (cdv_pos (nx := (fc (cn l))) hlt hx.out hpos) hrow
        have R1 := R.setOther (a := ⟨w2.heap.size, n, none⟩) (by simp) (.int .i64 ((fc (cn l)) n + cn (l.take k) n + 1))
        have R2 := nx_step hlt hx.out hpos (hnx1.setOther (a := ⟨w2.heap.size + 1, k, none⟩) (by simp) (.int .i64 ((fc (cn l)) n + cn (l.take k) n)))
        have R3 := (hbel.setCell (p := ⟨w2.heap.size + 1, k, none⟩) (by simp) (.int .i64 ((fc (cn l)) n + cn (l.take k) n))).setCell (p := ⟨w2.heap.size, n, none⟩) (by simp) (.int .i64 ((fc (cn l)) n + cn (l.take k) n + 1))
        clear R
        go_wp2
        go_roundw
        case rel => exact ⟨k + 1, by omega, by go_num, R1, R2, R3⟩
        case measure => simp [intOf]; omega
      · obtain rfl : n = 0 := by omega
        have R := cd_step _ (cdv_zero (nx := (fc (cn l))) hlt hx.out) hrow
        have R2 := nx_skip hlt hx.out (hnx1.setOther (a := ⟨w2.heap.size + 1, k, none⟩) (by simp) (.int .i64 (-1)))
        have R3 := hbel.setCell (p := ⟨w2.heap.size + 1, k, none⟩) (by simp) (.int .i64 (-1))
        have g0 : wr.cell? ⟨b, o + k, none⟩ = some (.int .i64 0) := g
        clear g
        go_wp2
        go_roundw
        case rel => exact ⟨k + 1, by omega, by go_num, R, R2, R3⟩
        case measure => simp [intOf]; omega
    · obtain rfl : k = l.length := by omega
      go_wp2
      go_ret
      exact ⟨_, rfl, by have := HG.out.size; omega, hrow.congr fun i hi => by rw [cdTo, if_pos hi], grow2 HG.out hbel⟩
end Go.Proofs.YtbcjmakpempkiaaGreatDoor
