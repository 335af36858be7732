/- Contracts of the small functions that Codes calls: SetOf. -/
import Derived.Test.YtbcjmakpempkiaaWa
import Derived.Laws.Rows
import Derived.Laws.ResultCell
import Derived.Deep.OwnRows
import Derived.Laws.CopyOwn
namespace Go.Proofs.Ytbcjmakpempkiaa
open Go.RowKit

def arr (f : Nat → Int) : Array Value := #[.int .i64 (f 0), .int .i64 (f 1), .int .i64 (f 2), .int .i64 (f 3), .int .i64 (f 4), .int .i64 (f 5), .int .i64 (f 6), .int .i64 (f 7), .int .i64 (f 8), .int .i64 (f 9), .int .i64 (f 10), .int .i64 (f 11)]
theorem arr_size (f : Nat → Int) : (arr f).size = 12 := rfl
theorem arr_get (f : Nat → Int) (i : Nat) (h : i < 12) : (arr f)[i]? = some (.int .i64 (f i)) := by
  have : i = 0 ∨ i = 1 ∨ i = 2 ∨ i = 3 ∨ i = 4 ∨ i = 5 ∨ i = 6 ∨ i = 7 ∨ i = 8 ∨ i = 9 ∨ i = 10 ∨ i = 11 := by omega
  rcases this with rfl | rfl | rfl | rfl | rfl | rfl | rfl | rfl | rfl | rfl | rfl | rfl <;> rfl
theorem arr_of {w : World} {b T : Nat} {f : Nat → Int} (h : w.rowIs b T 12 (fun j => .int .i64 (f j))) : w.heap[b]? = some (.cells (arr f) T (0, 0)) := by
  obtain ⟨c, hb, hn, hc⟩ := h
  have : c = arr f := by
    apply Array.ext_getElem?
    intro i
    by_cases hi : i < 12
    · rw [hc i hi, arr_get f i hi]
    · rw [Array.getElem?_eq_none (by omega), Array.getElem?_eq_none (by rw [arr_size]; omega)]
  rw [hb, this]
theorem arr_alloc (T : Nat) (w : World) (f : Nat → Int) : (w.alloc (.cells (arr f) T)).rowIs w.heap.size T 12 (fun j => .int .i64 (f j)) :=
  World.rowIs_alloc w (arr f) T _ (fun i hi => arr_get f i (by simpa [arr_size] using hi))

theorem arr_one (f : Nat → Int) : (arr f).all (·.oneCell') = true := by simp [arr, Value.oneCell']
theorem info32 (f : Nat → Int) : (Try.prog.info? 32).map (·.size) = some (arr f).size := by kernel_rfl
theorem info34 (f : Nat → Int) : (Try.prog.info? 34).map (·.size) = some (arr f).size := by kernel_rfl

/-- how many codes have this length -/
def cn (l : List Int) (j : Nat) : Int := ((l.filter (fun x => decide (0 < x) && x == (j : Int))).length : Int)
theorem cn_nil (j : Nat) : cn [] j = 0 := rfl
theorem cn_nonneg (l : List Int) (j : Nat) : 0 ≤ cn l j := by unfold cn; omega
theorem cn_le (l : List Int) (j : Nat) : cn l j ≤ l.length := by
  unfold cn
  have := List.length_filter_le (fun x => decide (0 < x) && x == (j : Int)) l
  omega
theorem cn_snoc (l : List Int) (x : Int) (j : Nat) : cn (l ++ [x]) j = cn l j + if 0 < x ∧ x = j then 1 else 0 := by
  unfold cn
  rw [List.filter_append]
  by_cases h : 0 < x ∧ x = (j : Int)
  · have : (decide (0 < x) && x == (j : Int)) = true := by simp [h.2]; omega
    rw [if_pos h, List.filter_cons, this]; simp
  · have : (decide (0 < x) && x == (j : Int)) = false := by
      rw [Bool.eq_false_iff]; intro h'; simp at h'; exact h ⟨h'.1, h'.2⟩
    rw [if_neg h, List.filter_cons, this]; simp
theorem cn_take_succ {l : List Int} {k : Nat} (hk : k < l.length) (j : Nat) : cn (l.take (k + 1)) j = cn (l.take k) j + if 0 < l[k] ∧ l[k] = j then 1 else 0 := by
  rw [List.take_succ_eq_append_getElem hk, cn_snoc]

theorem below_rowIs {B : Nat} {w w' : World} {b t n : Nat} {f : Nat → Value} (h : w.rowIs b t n f) (hb : Below B w w') (hlt : b < B) : w'.rowIs b t n f := h.of_block (hb.block b hlt)
theorem Cells.below {B : Nat} {w w' : World} {b o : Nat} {l : List Int} (h : Cells w b o l) (hb : Below B w w') (hlt : b < B) : Cells w' b o l := fun i hi => by rw [hb.cell hlt, h i hi]

theorem nat_of_range {l : List Int} (hr : inRange l = true) {k : Nat} (hk : k < l.length) : ∃ n : Nat, n ≤ 11 ∧ l[k] = (n : Int) := by
  have := List.all_eq_true.1 hr l[k] (List.getElem_mem hk)
  simp [okLen] at this
  exact ⟨l[k].toNat, by omega, by omega⟩
theorem Cells.atNat {w : World} {b o : Nat} {l : List Int} (h : Cells w b o l) (hr : inRange l = true) {k : Nat} (hk : k < l.length) : ∃ n : Nat, w.cell? ⟨b, o + k, none⟩ = some (.int .i64 n) ∧ n ≤ 11 ∧ Hid (l[k] = (n : Int)) := by
  obtain ⟨n, hn, e⟩ := nat_of_range hr hk
  refine ⟨n, ?_, hn, e⟩
  rw [h k hk]
  simp [hk, e]
theorem CellsO.atNat {w : World} {ad : Option Addr} {l : List Int} (h : CellsO w ad l) (hr : inRange l = true) {k : Nat} (hk : k < l.length) : ∃ (b o n : Nat), ad = some ⟨b, o, none⟩ ∧ w.cell? ⟨b, o + k, none⟩ = some (.int .i64 n) ∧ n ≤ 11 ∧ Hid (l[k] = (n : Int)) := by
  obtain ⟨n, hn, e⟩ := nat_of_range hr hk
  obtain ⟨b, o, e2, _, hc⟩ := h k hk
  exact ⟨b, o, n, e2, by rw [hc]; simp [hk, e], hn, e⟩
theorem CellsO.below {B : Nat} {w w' : World} {ad : Option Addr} {l : List Int} (h : CellsO w ad l) (hb : Below B w w') (hB : w.heap.size ≤ B) : CellsO w' ad l := fun k hk => by
  obtain ⟨b, o, e, hlt, hc⟩ := h k hk
  exact ⟨b, o, e, Nat.lt_of_lt_of_le hlt hb.size, by rw [hb.cell (by show b < B; omega), hc]⟩
theorem CellsO.same {w w' : World} {ad : Option Addr} {l : List Int} (h : CellsO w ad l) (hb : w'.heap = w.heap) : CellsO w' ad l := fun k hk => by
  obtain ⟨b, o, e, hlt, hc⟩ := h k hk
  exact ⟨b, o, e, by rw [hb]; exact hlt, by rw [World.cell?_of_block (w := w) (by rw [hb]), hc]⟩

theorem count_step {wr : World} {g T : Nat} {l : List Int} {k n : Nat} (hlt : k < l.length) (hx : l[k] = (n : Int)) (hn : 0 < n) (h : wr.rowIs g T 12 (fun j => .int .i64 (cn (l.take k) j))) :
    (wr.setCell ⟨g, n, none⟩ (.int .i64 (cn (l.take k) n + 1))).rowIs g T 12 (fun j => .int .i64 (cn (l.take (k + 1)) j)) := by
  refine (h.set n _).congr fun i _ => ?_
  rw [cn_take_succ hlt, hx]
  by_cases e : i = n
  · subst e; rw [if_pos rfl, if_pos ⟨by omega, rfl⟩]
  · rw [if_neg e, if_neg (by omega)]; simp
theorem count_skip {wr : World} {g T : Nat} {l : List Int} {k : Nat} (hlt : k < l.length) (hx : l[k] = 0) (h : wr.rowIs g T 12 (fun j => .int .i64 (cn (l.take k) j))) :
    wr.rowIs g T 12 (fun j => .int .i64 (cn (l.take (k + 1)) j)) := by
  refine h.congr fun i _ => ?_
  rw [cn_take_succ hlt, hx]; simp

set_option maxHeartbeats 400000 in
theorem setOf_any (ad : Option Addr) (cap : Nat) (l : List Int) (w : World) (hl : l.length ≤ 1000000) (hc : CellsO w ad l) (hr : inRange l = true) :
    Calls Try.prog 8 #[.slice ad l.length cap] w fun e w' => e = .returned (.agg (arr (cn l))) ∧ Below w.heap.size w w' := by
  go_enter Try.func8, Try.ntmps8
  go_wp2
  go_loopw [8] (fun i wr => ∃ k : Nat, k ≤ l.length ∧ i = .int .i64 k ∧ wr.rowIs (w.heap.size + 1) 34 12 (fun j => .int .i64 (cn (l.take k) j)) ∧ wr.rowIs w.heap.size 34 12 (fun _ => .int .i64 0) ∧ Below w.heap.size w wr) (fun i _ => l.length - (intOf i).toNat)
  case atStart =>
    refine ⟨0, Nat.zero_le _, rfl, ?_, ?_, ((Below.refl _ _).alloc (Nat.le_refl _) _).alloc (by simp) _⟩
    · have := arr_alloc 34 (w.alloc (.cells (arr (fun _ => 0)) 34)) (fun _ => 0)
      simpa [cn_nil, arr] using this
    · have := (arr_alloc 34 w (fun _ => 0)).alloc (.cells (arr (fun _ => 0)) 34)
      simpa [arr] using this
  case round =>
    obtain ⟨k, hk, rfl, hrow, hres, hbel⟩ := hrel
    by_cases hlt : k < l.length
    · obtain ⟨b, o, n, rfl, g, hn, hx⟩ := (hc.below hbel (Nat.le_refl _)).atNat hr hlt
      have hcn0 := cn_nonneg (l.take k) n
      have hcn1 : cn (l.take k) n ≤ 1000000 := by
        have := cn_le (l.take k) n
        have := List.length_take_le k l
        omega
      have g1 := hrow.cell (i := n) (by omega)
      have g2 := hrow.frozen n
      by_cases hpos : 0 < n
      · have R := count_step hlt hx.out hpos hrow
        have R2 := hres.setOther (a := ⟨w.heap.size + 1, n, none⟩) (by simp) (.int .i64 (cn (l.take k) n + 1))
        have R3 := hbel.setCell (p := ⟨w.heap.size + 1, n, none⟩) (by simp) (.int .i64 (cn (l.take k) n + 1))
        go_wp2
        go_roundw
        case rel => exact ⟨k + 1, by omega, by go_num, R, R2, R3⟩
        case measure => simp [intOf]; omega
      · obtain rfl : n = 0 := by omega
        have R := count_skip hlt hx.out hrow
        go_wp2
        go_roundw
        case rel => exact ⟨k + 1, by omega, by go_num, R, hres, hbel⟩
        case measure => simp [intOf]; omega
    · rw [List.take_of_length_le (by omega)] at hrow
      have h1 := arr_of hrow
      have h2 := arr_of (f := fun _ => 0) hres
      go_wp2_with (first | refine wpList_load_row rfl 34 _ rfl _ rfl 34 _ _ _ h1 Try.underlying34 rfl (info34 _) ?_ | refine wpList_store_row rfl 34 _ _ rfl _ _ rfl rfl 34 _ h2 (info34 _) rfl (arr_one _) ?_)
      refine bodyPost_ret (v := .agg (arr (cn l))) ?_ ?_ ?_
      · exact results_cell_row Try.results8 _ _ _ 34 _ _ _ rfl (setRow_heap _ _ _ _ 34 _ h2) Try.underlying34 rfl (info34 _)
      · rfl
      · exact ⟨rfl, below_setRow hbel (Nat.le_refl _) _⟩
end Go.Proofs.Ytbcjmakpempkiaa
