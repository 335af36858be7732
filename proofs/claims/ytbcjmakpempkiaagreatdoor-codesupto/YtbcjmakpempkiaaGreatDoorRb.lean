/- Contracts of the document's own code, values and Codes. -/
import Derived.Test.YtbcjmakpempkiaaGreatDoorRa
namespace Go.Proofs.YtbcjmakpempkiaaGreatDoor
open Go.RowKit

/-- the parts that come ahead of symbol s, among the first k symbols -/
def ahd (l : List Int) (s : Nat) : Nat → Int
  | 0 => 0
  | k + 1 => ahd l s k + if 0 < l.getD k 0 ∧ (l.getD k 0 < l.getD s 0 ∨ (l.getD k 0 = l.getD s 0 ∧ k < s)) then gw (l.getD k 0).toNat else 0
theorem ahd_le (l : List Int) (s k : Nat) : 0 ≤ ahd l s k ∧ ahd l s k ≤ 2048 * k := by
  induction k with
  | zero => simp [ahd]
  | succ k ih => have := gw_le (l.getD k 0).toNat; simp only [ahd]; split <;> omega
theorem ahd_yes {l : List Int} {s k n m : Nat} (hk : k < l.length) (hs : s < l.length) (hn : l[k] = (n : Int)) (hm : l[s] = (m : Int)) (h0 : 0 < n) (h : n < m ∨ (n = m ∧ k < s)) : ahd l s (k + 1) = ahd l s k + gw n := by
  have e1 : l.getD k 0 = n := by simp [hk, hn]
  have e2 : l.getD s 0 = m := by simp [hs, hm]
  simp only [ahd]
  rw [e1, e2, if_pos (by omega)]; simp
theorem ahd_no {l : List Int} {s k n m : Nat} (hk : k < l.length) (hs : s < l.length) (hn : l[k] = (n : Int)) (hm : l[s] = (m : Int)) (h : n = 0 ∨ m < n ∨ (n = m ∧ s ≤ k)) : ahd l s (k + 1) = ahd l s k := by
  have e1 : l.getD k 0 = n := by simp [hk, hn]
  have e2 : l.getD s 0 = m := by simp [hs, hm]
  simp only [ahd]
  rw [e1, e2, if_neg (by omega)]; simp

set_option maxHeartbeats 1000000 in
theorem code_any (ad : Option Addr) (cap : Nat) (l : List Int) (s m : Nat) (w : World) (hl : l.length ≤ 269) (hc : CellsO w ad l) (hr : inRange l = true) (hs : s < l.length) (hm : l[s] = (m : Int)) :
    Calls Tryz.prog 154 #[.slice ad l.length cap, .int .i64 s] w fun e w' => e = .returned (.int .i64 (ahd l s l.length / gw m)) ∧ ∃ q, w' = w.drewN q := by
  obtain ⟨b, o, m', rfl, g2, hm11, hm'⟩ := hc.atNat hr hs
  obtain rfl : m' = m := by have := hm'.out; omega
  have HM : Hid (l[s] = (m' : Int)) := hm
  clear hm hm'
  go_enter Tryz.func154, Tryz.ntmps154
  go_wp2_with fail
  go_loopw [5, 6] (fun t i wr => ∃ k q : Nat, k ≤ l.length ∧ i = .int .i64 k ∧ t = .int .i64 (ahd l s k) ∧ wr = w.drewN q) (fun _ i _ => l.length - (intOf i).toNat)
  case atStart => exact ⟨0, 0, Nat.zero_le _, rfl, rfl, rfl⟩
  case round =>
    obtain ⟨k, q, hk, rfl, rfl, rfl⟩ := hrel
    have ha := ahd_le l s k
    by_cases hlt : k < l.length
    · obtain ⟨b', o', n, e', g1, hn11, hx⟩ := hc.atNat hr hlt
      simp only [Option.some.injEq, Addr.mk.injEq, and_true] at e'
      obtain ⟨rfl, rfl⟩ := e'
      have hp := gw_le n
      rcases (show (n < m') ∨ (n = m' ∧ k < s) ∨ (n = m' ∧ s ≤ k) ∨ m' < n from by omega) with h | ⟨rfl, h⟩ | ⟨rfl, h⟩ | h
      · have t1 : (n : Int) < m' := by omega
        by_cases h0 : 0 < n
        · have HS : Hid (ahd l s (k + 1) = ahd l s k + gw n) := ahd_yes hlt hs hx.out HM.out h0 (Or.inl h)
          go_wp2_with fail
          go_quiet (fail)
          go_wp2_with (go_at_call 178; refine (parts_any n _ hn11).mono ?_; rintro e w' ⟨rfl, rfl⟩)
          go_roundw
          case rel => exact ⟨k + 1, _, by omega, by go_num, by rw [HS.out], rfl⟩
          case measure => simp [intOf]; omega
        · obtain rfl : n = 0 := by omega
          have HS : Hid (ahd l s (k + 1) = ahd l s k) := ahd_no hlt hs hx.out HM.out (Or.inl rfl)
          have g0 : w.cell? ⟨b, o + k, none⟩ = some (.int .i64 0) := g1
          have t2 : (0 : Int) < m' := by omega
          clear g1
          go_wp2_with fail
          go_quiet (fail)
          go_wp2_with fail
          go_roundw
          case rel => exact ⟨k + 1, _, by omega, by go_num, by rw [HS.out], rfl⟩
          case measure => simp [intOf]; omega
      · have t1 : (k : Int) < s := by omega
        by_cases h0 : 0 < n
        · have HS : Hid (ahd l s (k + 1) = ahd l s k + gw n) := ahd_yes hlt hs hx.out HM.out h0 (Or.inr ⟨rfl, h⟩)
          go_wp2_with fail
          go_quiet (fail)
          go_wp2_with (go_at_call 178; refine (parts_any n _ hn11).mono ?_; rintro e w' ⟨rfl, rfl⟩)
          go_roundw
          case rel => exact ⟨k + 1, _, by omega, by go_num, by rw [HS.out], rfl⟩
          case measure => simp [intOf]; omega
        · obtain rfl : n = 0 := by omega
          have HS : Hid (ahd l s (k + 1) = ahd l s k) := ahd_no hlt hs hx.out HM.out (Or.inl rfl)
          have g0 : w.cell? ⟨b, o + k, none⟩ = some (.int .i64 0) := g1
          have g3 : w.cell? ⟨b, o + s, none⟩ = some (.int .i64 0) := g2
          clear g1
          go_wp2_with fail
          go_quiet (fail)
          go_wp2_with fail
          go_roundw
          case rel => exact ⟨k + 1, _, by omega, by go_num, by rw [HS.out], rfl⟩
          case measure => simp [intOf]; omega
      · have t1 : decide ((k : Int) < s) = false := by simp; omega
        have HS : Hid (ahd l s (k + 1) = ahd l s k) := ahd_no hlt hs hx.out HM.out (Or.inr (Or.inr ⟨rfl, h⟩))
        go_wp2_with fail
        go_quiet (fail)
        go_wp2_with fail
        all_goals
          go_roundw
          case rel => exact ⟨k + 1, _, by omega, by go_num, by rw [HS.out], rfl⟩
          case measure => simp [intOf]; omega
      · have HS : Hid (ahd l s (k + 1) = ahd l s k) := ahd_no hlt hs hx.out HM.out (Or.inr (Or.inl h))
        obtain ⟨x, hxn⟩ : ∃ x : Int, (n : Int) = x := ⟨_, rfl⟩
        obtain ⟨y, hym⟩ : ∃ y : Int, (m' : Int) = y := ⟨_, rfl⟩
        rw [hxn] at g1
        rw [hym] at g2
        have t1 : decide (x < y) = false := by simp; omega
        have t2 : (x == y) = false := by simp; omega
        have t3 : 0 < x := by omega
        clear h hp hxn hym
        go_wp2_with fail
        go_quiet (fail)
        go_wp2_with fail
        all_goals
          go_roundw
          case rel => exact ⟨k + 1, _, by omega, by go_num, by rw [HS.out], rfl⟩
          case measure => simp [intOf]; omega
    · obtain rfl : k = l.length := by omega
      have hp := gw_le m'
      have hp1 : 1 ≤ gw m' := by have := pow2_le (11 - m') (by omega); unfold gw; omega
      go_wp2_with (go_at_call 178; refine (parts_any m' _ hm11).mono ?_; rintro e w' ⟨rfl, rfl⟩)
      go_ret
      exact ⟨rfl, _, rfl⟩
end Go.Proofs.YtbcjmakpempkiaaGreatDoor
