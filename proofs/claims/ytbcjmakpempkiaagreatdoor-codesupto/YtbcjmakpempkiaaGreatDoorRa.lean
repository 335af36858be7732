/- Contracts of the document's own helpers: parts, share, count, Complete, Single. -/
import Derived.Test.YtbcjmakpempkiaaGreatDoorMc
import Derived.BigQuiet
import Derived.Deep.QuietTactic
namespace Go.Proofs.YtbcjmakpempkiaaGreatDoor
open Go.RowKit

theorem pow2_le (m : Nat) (h : m ≤ 11) : 0 < 2 ^ m ∧ 2 ^ m ≤ 2048 := ⟨Nat.pow_pos (by decide), Nat.pow_le_pow_right (n := 2) (by decide) h⟩
def gw (j : Nat) : Int := ((2 ^ (11 - j) : Nat) : Int)
theorem gw_eq : (fun j => (2 : Int) ^ (11 - j)) = gw := by funext j; simp [gw]
theorem gw_le (j : Nat) : 0 ≤ gw j ∧ gw j ≤ 2048 := by
  have := pow2_le (11 - j) (by omega)
  unfold gw; omega

set_option maxHeartbeats 400000 in
theorem parts_any (n : Nat) (w : World) (hn : n ≤ 11) :
    Calls Tryz.prog 178 #[.int .i64 n] w fun e w' => e = .returned (.int .i64 (gw n)) ∧ w = w' := by
  go_enter Tryz.func178, Tryz.ntmps178
  go_wp2
  go_loop [3, 4] (fun s i => ∃ m x : Nat, n + m ≤ 11 ∧ x ≤ 2048 ∧ i = .int .i64 (n + m) ∧ s = .int .i64 x ∧ x = 2 ^ m) (fun _ i => 11 - (intOf i).toNat)
  case atStart => exact ⟨0, 1, by omega, by omega, by simp, rfl, rfl⟩
  case round =>
    obtain ⟨m, x, hm, hx, rfl, rfl, hxe⟩ := hrel
    have HX : Hid (x = 2 ^ m) := hxe
    clear hxe
    by_cases h11 : n + m < 11
    · go_wp2
      go_round
      case rel =>
        refine ⟨m + 1, 2 * x, by omega, ?_, by go_num, by go_num, ?_⟩
        · rw [HX.out]; have := (pow2_le (m + 1) (by omega)).2; rw [Nat.pow_succ] at this; omega
        · rw [HX.out, Nat.pow_succ]; omega
      case measure => simp [intOf]; omega
    · have e : m = 11 - n := by omega
      have HE : Hid ((x : Int) = gw n) := by show (x : Int) = _; rw [HX.out, e]; rfl
      go_wp2
      go_ret
      exact ⟨by rw [← HE.out]; rfl, rfl⟩

theorem sumOf_take_succ (g : Nat → Int) {l : List Int} {k : Nat} (hk : k < l.length) : sumOf g (l.take (k + 1)) = sumOf g (l.take k) + if 0 < l[k] then g l[k].toNat else 0 := by
  rw [List.take_succ_eq_append_getElem hk, sumOf_append]; simp [sumOf]
theorem sumOf_le (g : Nat → Int) (M : Int) (hg : ∀ j, 0 ≤ g j ∧ g j ≤ M) (hM : 0 ≤ M) (l : List Int) : 0 ≤ sumOf g l ∧ sumOf g l ≤ M * l.length := by
  induction l with
  | nil => simp [sumOf]
  | cons x l ih =>
    have := hg x.toNat
    simp only [sumOf, List.map_cons, List.sum_cons, List.length_cons] at *
    rw [Int.natCast_add, Int.mul_add]
    split <;> simp <;> omega
set_option maxHeartbeats 400000 in
theorem share_any (ad : Option Addr) (cap : Nat) (l : List Int) (w : World) (hl : l.length ≤ 269) (hc : CellsO w ad l) (hr : inRange l = true) :
    Calls Tryz.prog 152 #[.slice ad l.length cap] w fun e w' => e = .returned (.int .i64 (sumOf gw l)) ∧ w = w' := by
  go_enter Tryz.func152, Tryz.ntmps152
  go_wp2_with fail
  go_loop [3, 4] (fun s i => ∃ k : Nat, k ≤ l.length ∧ i = .int .i64 k ∧ s = .int .i64 (sumOf gw (l.take k))) (fun _ i => l.length - (intOf i).toNat)
  case atStart => exact ⟨0, Nat.zero_le _, rfl, rfl⟩
  case round =>
    obtain ⟨k, hk, rfl, rfl⟩ := hrel
    by_cases hlt : k < l.length
    · obtain ⟨b, o, n, rfl, g, hn, hx⟩ := hc.atNat hr hlt
      have hs := sumOf_le gw 2048 gw_le (by decide) (l.take k)
      have hle := List.length_take_le k l
      have HS := sumOf_take_succ gw hlt
      rw [hx.out] at HS
      by_cases hpos : 0 < n
      · have HS' : Hid (sumOf gw (l.take (k + 1)) = sumOf gw (l.take k) + gw n) := by
          show _ = _
          rw [HS, if_pos (by omega)]; rfl
        have hp := gw_le n
        clear HS
        go_wp2_with (go_at_call 178; refine (parts_any n _ hn).mono ?_; rintro e w' ⟨rfl, rfl⟩)
        go_round
        case rel => exact ⟨k + 1, by omega, by go_num, by rw [HS'.out]⟩
        case measure => simp [intOf]; omega
      · obtain rfl : n = 0 := by omega
        have g0 : w.cell? ⟨b, o + k, none⟩ = some (.int .i64 0) := g
        have HS' : Hid (sumOf gw (l.take (k + 1)) = sumOf gw (l.take k)) := by
          show _ = _
          rw [HS, if_neg (by omega)]; simp
        clear HS g
        go_wp2_with fail
        go_round
        case rel => exact ⟨k + 1, by omega, by go_num, by rw [HS'.out]⟩
        case measure => simp [intOf]; omega
    · go_wp2_with fail
      go_ret
      exact ⟨by rw [List.take_of_length_le (by omega)]; rfl, rfl⟩
set_option maxHeartbeats 400000 in
theorem count_any (ad : Option Addr) (cap : Nat) (l : List Int) (w : World) (hl : l.length ≤ 269) (hc : CellsO w ad l) :
    Calls Tryz.prog 153 #[.slice ad l.length cap] w fun e w' => e = .returned (.int .i64 (sumOf (fun _ => 1) l)) ∧ w = w' := by
  go_enter Tryz.func153, Tryz.ntmps153
  go_wp2_with fail
  go_loop [3, 4] (fun s i => ∃ k : Nat, k ≤ l.length ∧ i = .int .i64 k ∧ s = .int .i64 (sumOf (fun _ => 1) (l.take k))) (fun _ i => l.length - (intOf i).toNat)
  case atStart => exact ⟨0, Nat.zero_le _, rfl, rfl⟩
  case round =>
    obtain ⟨k, hk, rfl, rfl⟩ := hrel
    by_cases hlt : k < l.length
    · obtain ⟨b, o, x, rfl, g, hx⟩ := hc.at hlt
      have hs := sumOf_le (fun _ => 1) 1 (fun _ => by decide) (by decide) (l.take k)
      have hle := List.length_take_le k l
      have HS := sumOf_take_succ (fun _ => 1) hlt
      rw [hx.out] at HS
      by_cases hpos : 0 < x
      · have HS' : Hid (sumOf (fun _ => 1) (l.take (k + 1)) = sumOf (fun _ => 1) (l.take k) + 1) := by
          show _ = _
          rw [HS, if_pos hpos]
        clear HS
        go_wp2_with fail
        go_round
        case rel => exact ⟨k + 1, by omega, by go_num, by rw [HS'.out]⟩
        case measure => simp [intOf]; omega
      · have HS' : Hid (sumOf (fun _ => 1) (l.take (k + 1)) = sumOf (fun _ => 1) (l.take k)) := by
          show _ = _
          rw [HS, if_neg hpos]; simp
        clear HS
        go_wp2_with fail
        go_round
        case rel => exact ⟨k + 1, by omega, by go_num, by rw [HS'.out]⟩
        case measure => simp [intOf]; omega
    · go_wp2_with fail
      go_ret
      exact ⟨by rw [List.take_of_length_le (by omega)]; rfl, rfl⟩
theorem complete_any (ad : Option Addr) (cap : Nat) (l : List Int) (w : World) (hl : l.length ≤ 269) (hc : CellsO w ad l) (hr : inRange l = true) :
    Calls Tryz.prog 118 #[.slice ad l.length cap] w fun e w' => e = .returned (.bool (sumOf gw l == 2048)) ∧ w = w' := by
  go_enter Tryz.func118, Tryz.ntmps118
  go_wp2_with (go_at_call 152; refine (share_any ad cap l _ hl hc hr).mono ?_; rintro e w' ⟨rfl, rfl⟩)
  go_ret
  exact ⟨rfl, rfl⟩
def single (l : List Int) : Bool := sumOf (fun _ => 1) l == 1 && sumOf gw l == 1024
theorem single_any (ad : Option Addr) (cap : Nat) (l : List Int) (w : World) (hl : l.length ≤ 269) (hc : CellsO w ad l) (hr : inRange l = true) :
    Calls Tryz.prog 119 #[.slice ad l.length cap] w fun e w' => e = .returned (.bool (single l)) ∧ w = w' := by
  cases h1 : (sumOf (fun _ => 1) l == 1)
  · go_enter Tryz.func119, Tryz.ntmps119
    go_wp2_with (first | (go_at_call 153; refine (count_any ad cap l _ hl hc).mono ?_; rintro e w' ⟨rfl, rfl⟩) | (go_at_call 152; refine (share_any ad cap l _ hl hc hr).mono ?_; rintro e w' ⟨rfl, rfl⟩))
    go_ret
    exact ⟨by simp [single, h1], rfl⟩
  · go_enter Tryz.func119, Tryz.ntmps119
    go_wp2_with (first | (go_at_call 153; refine (count_any ad cap l _ hl hc).mono ?_; rintro e w' ⟨rfl, rfl⟩) | (go_at_call 152; refine (share_any ad cap l _ hl hc hr).mono ?_; rintro e w' ⟨rfl, rfl⟩))
    go_ret
    exact ⟨by simp [single, h1], rfl⟩
end Go.Proofs.YtbcjmakpempkiaaGreatDoor
