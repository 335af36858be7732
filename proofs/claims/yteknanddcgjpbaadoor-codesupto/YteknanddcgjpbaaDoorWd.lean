/- Contracts of the small functions that Codes calls: assignCodes. -/
import Derived.Test.YteknanddcgjpbaaDoorWc
namespace Go.Proofs.YteknanddcgjpbaaDoor
open Go.RowKit
theorem info3 : (Tryd.prog.info? 3).map (fun i => (i.zero, i.size, i.bytes)) = some (some (.int .i64 0), 1, 8) := by kernel_rfl

/-- the code of symbol i, where the first codes are nx -/
def cdv (nx : Nat → Int) (l : List Int) (i : Nat) : Int := if l.getD i 0 = 0 then -1 else nx (l.getD i 0).toNat + cn (l.take i) (l.getD i 0).toNat
def cdTo (nx : Nat → Int) (l : List Int) (k i : Nat) : Int := if i < k then cdv nx l i else 0
theorem cdv_zero {nx : Nat → Int} {l : List Int} {k : Nat} (hk : k < l.length) (h : l[k] = 0) : cdv nx l k = -1 := by
  rw [cdv, if_pos (by simp [hk, h])]
theorem cdv_pos {nx : Nat → Int} {l : List Int} {k n : Nat} (hk : k < l.length) (h : l[k] = (n : Int)) (hn : 0 < n) : cdv nx l k = nx n + cn (l.take k) n := by
  have e : l.getD k 0 = n := by simp [hk, h]
  rw [cdv, e, if_neg (by omega)]; simp
theorem cd_step {nx : Nat → Int} {l : List Int} {wr : World} {g m k : Nat} (v : Int) (hv : cdv nx l k = v) (h : wr.rowIs g 3 m (fun i => .int .i64 (cdTo nx l k i))) :
    (wr.setCell ⟨g, k, none⟩ (.int .i64 v)).rowIs g 3 m (fun i => .int .i64 (cdTo nx l (k + 1) i)) := by
  refine (h.set k _).congr fun i _ => ?_
  unfold cdTo
  by_cases e : i = k
  · subst e; rw [if_pos rfl, if_pos (by omega), hv]
  · rw [if_neg e]
    by_cases e2 : i < k
    · rw [if_pos e2, if_pos (by omega)]
    · rw [if_neg e2, if_neg (by omega)]
theorem nx_step {nx : Nat → Int} {l : List Int} {wr : World} {g k n : Nat} (hk : k < l.length) (hx : l[k] = (n : Int)) (hn : 0 < n) (h : wr.rowIs g 85 12 (fun j => .int .i64 (nx j + cn (l.take k) j))) :
    (wr.setCell ⟨g, n, none⟩ (.int .i64 (nx n + cn (l.take k) n + 1))).rowIs g 85 12 (fun j => .int .i64 (nx j + cn (l.take (k + 1)) j)) := by
  refine (h.set n _).congr fun i _ => ?_
  rw [cn_take_succ hk, hx]
  by_cases e : i = n
  · subst e; rw [if_pos rfl, if_pos ⟨by omega, rfl⟩]; congr 1; omega
  · rw [if_neg e, if_neg (by omega)]; simp
theorem nx_skip {nx : Nat → Int} {l : List Int} {wr : World} {g k : Nat} (hk : k < l.length) (hx : l[k] = 0) (h : wr.rowIs g 85 12 (fun j => .int .i64 (nx j + cn (l.take k) j))) :
    wr.rowIs g 85 12 (fun j => .int .i64 (nx j + cn (l.take (k + 1)) j)) := by
  refine h.congr fun i _ => ?_
  rw [cn_take_succ hk, hx]; simp

set_option maxHeartbeats 400000 in
theorem assignCodes_any (b o cap : Nat) (l : List Int) (nx : Nat → Int) (w : World) (hl : l.length ≤ 1000000) (hc : Cells w b o l) (hb : b < w.heap.size) (hr : inRange l = true) (hnx : ∀ j, j < 12 → 0 ≤ nx j ∧ nx j ≤ 8192000000) :
    Calls Tryd.prog 39 #[.slice (some ⟨b, o, none⟩) l.length cap, .agg (arr nx)] w fun e w' => e = .returned (.slice (some ⟨w.heap.size + 1, 0, none⟩) l.length l.length) ∧ w'.rowIs (w.heap.size + 1) 3 l.length (fun i => .int .i64 (cdv nx l i)) ∧ Below w.heap.size w w' := by
  have hmk := run_make_row' (P := Tryd.prog) 28 3 (.int .i64 0) 8 Tryd.underlying28 info3 rfl .i64 .i64 l.length (by omega) (by omega)
  go_enter Tryd.func39, Tryd.ntmps39
  go_wp2
  go_loopw [13] (fun i wr => ∃ k : Nat, k ≤ l.length ∧ i = .int .i64 k ∧ wr.rowIs (w.heap.size + 1) 3 l.length (fun i => .int .i64 (cdTo nx l k i)) ∧ wr.rowIs w.heap.size 85 12 (fun j => .int .i64 (nx j + cn (l.take k) j)) ∧ Below w.heap.size w wr) (fun i _ => l.length - (intOf i).toNat)
  case atStart =>
    refine ⟨0, Nat.zero_le _, rfl, ?_, ?_, ((Below.refl _ _).alloc (Nat.le_refl _) _).alloc (by simp) _⟩
    · have := World.rowIs_made (w.alloc (.cells (arr nx) 85)) (.int .i64 0) l.length 3
      have h2 := this.congr (g := fun i => .int .i64 (cdTo nx l 0 i)) (fun i _ => by rw [cdTo, if_neg (by omega)])
      simpa using h2
    · have := ((arr_alloc w nx).alloc (.cells (madeCells #[.int .i64 0] l.length) 3)).congr (g := fun j => .int .i64 (nx j + cn (l.take 0) j)) (fun i _ => by simp [cn_nil])
      exact this
  case round =>
    obtain ⟨k, hk, rfl, hrow, hnx1, hbel⟩ := hrel
    by_cases hlt : k < l.length
    · obtain ⟨n, g, hn, hx⟩ := (hc.below hbel hb).atNat hr hlt
      have ⟨b0, b1⟩ := hnx n (by omega)
      have hcn0 := cn_nonneg (l.take k) n
      have hcn1 : cn (l.take k) n ≤ 1000000 := by
        have := cn_le (l.take k) n
        have := List.length_take_le k l
        omega
      have g1 := hrow.cell hlt
      have g2 := hrow.frozen k
      have g3 := hnx1.cell (i := n) (by omega)
      have g4 := hnx1.frozen n
      by_cases hpos : 0 < n
      · have R := cd_step _ (cdv_pos (nx := nx) hlt hx.out hpos) hrow
        have R1 := R.setOther (a := ⟨w.heap.size, n, none⟩) (by simp) (.int .i64 (nx n + cn (l.take k) n + 1))
        have R2 := nx_step hlt hx.out hpos (hnx1.setOther (a := ⟨w.heap.size + 1, k, none⟩) (by simp) (.int .i64 (nx n + cn (l.take k) n)))
        have R3 := (hbel.setCell (p := ⟨w.heap.size + 1, k, none⟩) (by simp) (.int .i64 (nx n + cn (l.take k) n))).setCell (p := ⟨w.heap.size, n, none⟩) (by simp) (.int .i64 (nx n + cn (l.take k) n + 1))
        clear R
        go_wp2
        go_roundw
        case rel => exact ⟨k + 1, by omega, by go_num, R1, R2, R3⟩
        case measure => simp [intOf]; omega
      · obtain rfl : n = 0 := by omega
        have R := cd_step _ (cdv_zero (nx := nx) hlt hx.out) hrow
        have R2 := nx_skip hlt hx.out (hnx1.setOther (a := ⟨w.heap.size + 1, k, none⟩) (by simp) (.int .i64 (-1)))
        have R3 := hbel.setCell (p := ⟨w.heap.size + 1, k, none⟩) (by simp) (.int .i64 (-1))
        have g0 : wr.cell? ⟨b, o + k, none⟩ = some (.int .i64 0) := g
        clear g
        go_wp2
        go_roundw
        case rel => exact ⟨k + 1, by omega, by go_num, R, R2, R3⟩
        case measure => simp [intOf]; omega
    · obtain rfl : k = l.length := by omega
      go_wp2
      go_ret
      exact ⟨rfl, hrow.congr fun i hi => by rw [cdTo, if_pos hi], hbel⟩
end Go.Proofs.YteknanddcgjpbaaDoor
