/- The contract of reads: which symbol's code begins the bits, and how many do. -/
import Derived.Test.YtbcjmakpempkiaaWe
namespace Go.Proofs.Ytbcjmakpempkiaa
open Go.RowKit
/-- symbol i has a code and the bits begin with it -/
def hit (l c : List Int) (bits i : Nat) : Bool := decide (0 < l.getD i 0) && (((bits / 2 ^ (11 - (l.getD i 0).toNat) : Nat) : Int) == c.getD i 0)
/-- the last symbol below k of which that is so, and how many there are -/
def rd (P : Nat → Bool) : Nat → Int × Int
  | 0 => (-1, 0)
  | k + 1 => if P k then (k, (rd P k).2 + 1) else rd P k
theorem rd_le (P : Nat → Bool) (k : Nat) : -1 ≤ (rd P k).1 ∧ (rd P k).1 ≤ k ∧ 0 ≤ (rd P k).2 ∧ (rd P k).2 ≤ k := by
  induction k with
  | zero => simp [rd]
  | succ k ih => simp only [rd]; split <;> simp <;> omega
theorem rd_yes {P : Nat → Bool} {k : Nat} (h : P k = true) : rd P (k + 1) = ((k : Int), (rd P k).2 + 1) := by simp [rd, h]
theorem rd_no {P : Nat → Bool} {k : Nat} (h : P k = false) : rd P (k + 1) = rd P k := by simp [rd, h]
theorem hit_zero {l c : List Int} {bits k : Nat} (hk : k < l.length) (h : l[k] = 0) : hit l c bits k = false := by simp [hit, hk, h]
theorem hit_pos {l c : List Int} {bits k n : Nat} {y : Int} (hk : k < l.length) (hkc : k < c.length) (h : l[k] = (n : Int)) (hn : 0 < n) (hy : c[k] = y) : hit l c bits k = (((bits / 2 ^ (11 - n) : Nat) : Int) == y) := by
  simp [hit, hk, hkc, h, hy, hn]
theorem half (bits m : Nat) : (((bits / 2 ^ m : Nat) : Int)) / 2 = ((bits / 2 ^ (m + 1) : Nat) : Int) := by
  rw [Nat.pow_succ, ← Nat.div_div_eq_div_mul]; simp

set_option maxHeartbeats 1000000 in
theorem reads_any (b o cap b' o' cap' bits : Nat) (l c : List Int) (w : World) (hl : l.length ≤ 1000) (hcl : c.length = l.length) (hb : bits < 2048) (hc : Cells w b o l) (hd : Cells w b' o' c) (hr : inRange l = true) :
    Calls Try.prog 6 #[.slice (some ⟨b, o, none⟩) l.length cap, .slice (some ⟨b', o', none⟩) l.length cap', .int .i64 bits] w fun e w' =>
      e = .returned (.tuple #[.int .i64 (rd (hit l c bits) l.length).1, .int .i64 (rd (hit l c bits) l.length).2]) ∧ w = w' := by
  have HCL : Hid (c.length = l.length) := hcl
  clear hcl
  go_enter Try.func6, Try.ntmps6
  go_wp2_with fail
  go_loop [8, 9, 10] (fun s t i => ∃ k : Nat, k ≤ l.length ∧ i = .int .i64 k ∧ t = .int .i64 (rd (hit l c bits) k).1 ∧ s = .int .i64 (rd (hit l c bits) k).2) (fun _ _ i => l.length - (intOf i).toNat)
  case atStart => exact ⟨0, Nat.zero_le _, rfl, rfl, rfl⟩
  case round =>
    obtain ⟨k, hk, rfl, rfl, rfl⟩ := hrel
    by_cases hlt : k < l.length
    · have hlc : k < c.length := by have := HCL.out; omega
      obtain ⟨n, g, hn, hx⟩ := hc.atNat hr hlt
      obtain ⟨y, g', hy⟩ := hd.at hlc
      have ⟨r1, r2, r3, r4⟩ := rd_le (hit l c bits) k
      by_cases hpos : 0 < n
      · go_wp2_with fail
        go_loop [11, 12] (fun v i => ∃ m x : Nat, n + m ≤ 11 ∧ x ≤ 2048 ∧ i = .int .i64 (n + m) ∧ v = .int .i64 x ∧ x = bits / 2 ^ m) (fun _ i => 11 - (intOf i).toNat)
        case atStart => exact ⟨0, bits, by omega, by omega, by simp, rfl, by simp⟩
        case round =>
          obtain ⟨m, x, hm, hx1, rfl, rfl, hxe⟩ := hrel
          have HX : Hid (x = bits / 2 ^ m) := hxe
          clear hxe
          by_cases h11 : n + m < 11
          · go_wp2_with fail
            go_round
            case rel => exact ⟨m + 1, bits / 2 ^ (m + 1), by omega, Nat.le_trans (Nat.div_le_self _ _) (by omega), by go_num, by rw [HX.out, half], rfl⟩
            case measure => simp [intOf]; omega
          · have e : m = 11 - n := by omega
            have HH : Hid (hit l c bits k = ((x : Int) == y)) := by
              show _ = _
              rw [hit_pos hlt hlc hx.out hpos hy.out, HX.out, e]
            by_cases hq : (x : Int) = y
            · have hq' : ((x : Int) == y) = true := by simp [hq]
              have HR : Hid (rd (hit l c bits) (k + 1) = ((k : Int), (rd (hit l c bits) k).2 + 1)) := rd_yes (by rw [HH.out]; exact hq')
              clear hq
              go_wp2_with fail
              go_round
              case rel => exact ⟨k + 1, by omega, by go_num, by rw [HR.out], by rw [HR.out]⟩
              case measure => simp [intOf]; omega
            · have hq' : ((x : Int) == y) = false := by simp [hq]
              have HR : Hid (rd (hit l c bits) (k + 1) = rd (hit l c bits) k) := rd_no (by rw [HH.out]; exact hq')
              clear hq
              go_wp2_with fail
              go_round
              case rel => exact ⟨k + 1, by omega, by go_num, by rw [HR.out], by rw [HR.out]⟩
              case measure => simp [intOf]; omega
      · obtain rfl : n = 0 := by omega
        have g0 : w.cell? ⟨b, o + k, none⟩ = some (.int .i64 0) := g
        clear g
        have HR : Hid (rd (hit l c bits) (k + 1) = rd (hit l c bits) k) := rd_no (hit_zero hlt hx.out)
        go_wp2_with fail
        go_round
        case rel => exact ⟨k + 1, by omega, by go_num, by rw [HR.out], by rw [HR.out]⟩
        case measure => simp [intOf]; omega
    · obtain rfl : k = l.length := by omega
      go_wp2_with fail
      go_ret2
      exact ⟨rfl, rfl⟩
end Go.Proofs.Ytbcjmakpempkiaa
