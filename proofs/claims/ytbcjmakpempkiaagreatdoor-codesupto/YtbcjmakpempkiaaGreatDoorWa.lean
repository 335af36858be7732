/- Contracts of the small functions that Codes calls: InRange. -/
import Derived.Test.YtbcjmakpempkiaaGreatDoorRows
import Derived.WalkKit
import Derived.Outline
namespace Go.Proofs.YtbcjmakpempkiaaGreatDoor
open Go.RowKit

/-- the cells of a row hold these numbers -/
def Cells (w : World) (b o : Nat) (l : List Int) : Prop := ∀ i, i < l.length → w.cell? ⟨b, o + i, none⟩ = some (.int .i64 (l.getD i 0))

theorem Cells.at {w : World} {b o : Nat} {l : List Int} (h : Cells w b o l) {k : Nat} (hk : k < l.length) : ∃ x, w.cell? ⟨b, o + k, none⟩ = some (.int .i64 x) ∧ Hid (l[k] = x) := by
  refine ⟨l[k], ?_, show l[k] = l[k] from rfl⟩
  rw [h k hk]
  simp [hk]

def okLen (x : Int) : Bool := decide (0 ≤ x ∧ x ≤ 11)
def inRange (l : List Int) : Bool := l.all okLen

theorem inRange_take_succ {l : List Int} {k : Nat} (hk : k < l.length) (h : inRange (l.take k) = true) (h1 : okLen l[k] = true) : inRange (l.take (k + 1)) = true := by
  unfold inRange at *
  rw [List.take_succ_eq_append_getElem hk, List.all_append, h]
  simp [h1]
theorem inRange_not {l : List Int} {k : Nat} (hk : k < l.length) (h : okLen l[k] = false) : inRange l = false := by
  rw [inRange, List.all_eq_false]
  exact ⟨l[k], List.getElem_mem hk, by simp [h]⟩

/-- the cells of a slice hold these numbers (a slice of nothing may lie nowhere) -/
def CellsO (w : World) (ad : Option Addr) (l : List Int) : Prop := ∀ k, k < l.length → ∃ b o, ad = some ⟨b, o, none⟩ ∧ b < w.heap.size ∧ w.cell? ⟨b, o + k, none⟩ = some (.int .i64 (l.getD k 0))
theorem CellsO.at {w : World} {ad : Option Addr} {l : List Int} (h : CellsO w ad l) {k : Nat} (hk : k < l.length) : ∃ b o x, ad = some ⟨b, o, none⟩ ∧ w.cell? ⟨b, o + k, none⟩ = some (.int .i64 x) ∧ Hid (l[k] = x) := by
  obtain ⟨b, o, e, _, hc⟩ := h k hk
  exact ⟨b, o, l[k], e, by rw [hc]; simp [hk], show l[k] = l[k] from rfl⟩
theorem Cells.toO {w : World} {b o : Nat} {l : List Int} (h : Cells w b o l) (hb : b < w.heap.size) : CellsO w (some ⟨b, o, none⟩) l := fun k hk => ⟨b, o, rfl, hb, h k hk⟩
set_option maxHeartbeats 400000 in
theorem inRange_any (ad : Option Addr) (cap : Nat) (l : List Int) (w : World) (hl : l.length ≤ 1000000) (hc : CellsO w ad l) :
    Calls Tryz.prog 113 #[.slice ad l.length cap] w fun e w' => e = .returned (.bool (inRange l)) ∧ w' = w := by
  go_enter Tryz.func113, Tryz.ntmps113
  go_wp2
  go_loop [7] (fun i => ∃ k : Nat, k ≤ l.length ∧ i = .int .i64 k ∧ inRange (l.take k) = true) (fun i => l.length - (intOf i).toNat)
  case atStart => exact ⟨0, Nat.zero_le _, rfl, by simp [inRange]⟩
  case round =>
    obtain ⟨k, hk, rfl, hr⟩ := hrel
    have HR : Hid (inRange (l.take k) = true) := hr
    clear hr
    by_cases hlt : k < l.length
    · obtain ⟨b, o, x, rfl, g, hx⟩ := hc.at hlt
      by_cases h0 : 0 ≤ x
      · by_cases h1 : x ≤ 11
        · go_wp2
          go_round
          case rel => exact ⟨k + 1, by omega, by go_num, inRange_take_succ hlt HR.out (by rw [hx.out]; simp [okLen]; omega)⟩
          case measure => simp [intOf]; omega
        · go_wp2
          go_ret
          exact ⟨by rw [inRange_not hlt (by rw [hx.out]; simp [okLen]; omega)]; rfl, rfl⟩
      · go_wp2
        go_ret
        exact ⟨by rw [inRange_not hlt (by rw [hx.out]; simp [okLen]; omega)]; rfl, rfl⟩
    · go_wp2
      go_ret
      have h := HR.out
      rw [List.take_of_length_le (by omega)] at h
      exact ⟨by rw [h]; rfl, rfl⟩
end Go.Proofs.YtbcjmakpempkiaaGreatDoor
