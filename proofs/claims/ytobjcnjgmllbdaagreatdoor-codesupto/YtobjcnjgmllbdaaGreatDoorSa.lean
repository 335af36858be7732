/- Contracts of the two sums. -/
import Derived.Test.YtobjcnjgmllbdaaGreatDoorRc
import Derived.Laws.IdiomStrings
namespace Go.Proofs.YtobjcnjgmllbdaaGreatDoor
open Go.RowKit
/-- the two numbers of a sum, behind the first k bytes -/
def sxy (f : Nat → Int) : Nat → Int × Int
  | 0 => (1, 0)
  | k + 1 => (((sxy f k).1 + f k) % 65521, ((sxy f k).2 + ((sxy f k).1 + f k) % 65521) % 65521)
theorem sxy_le (f : Nat → Int) (k : Nat) : 0 ≤ (sxy f k).1 ∧ (sxy f k).1 ≤ 65520 ∧ 0 ≤ (sxy f k).2 ∧ (sxy f k).2 ≤ 65520 := by
  induction k with
  | zero => simp [sxy]
  | succ k ih => simp only [sxy]; omega
def bytesOf (s : ByteArray) (k : Nat) : Int := ((s.data.toList.getD k 0).toNat : Int)
theorem bytesOf_le (s : ByteArray) (k : Nat) : 0 ≤ bytesOf s k ∧ bytesOf s k ≤ 255 := by
  have := (s.data.toList.getD k 0).toNat_lt
  unfold bytesOf; omega
theorem bytesOf_eq (s : ByteArray) (k : Nat) (h : k < s.size) : ((s[k]).toNat : Int) = bytesOf s k := by
  unfold bytesOf
  have : s.data.toList.getD k 0 = s[k] := by
    have h' : k < s.data.toList.length := by simpa using h
    rw [List.getD_eq_getElem?_getD, List.getElem?_eq_getElem h']; rfl
  rw [this]
/-- the sum -/
def sumN (s : ByteArray) : Int := 65536 * (sxy (bytesOf s) s.size).2 + (sxy (bytesOf s) s.size).1
set_option maxHeartbeats 400000 in
theorem sum_any (s : ByteArray) (w : World) (hs : s.size ≤ maxLen) :
    Calls Tryz.prog 16 #[.string s] w fun e w' => e = .returned (.int .i64 (sumN s)) ∧ w = w' := by
  unfold maxLen at hs
  go_enter Tryz.func16, Tryz.ntmps16
  go_wp2
  go_loop [3, 4, 8] (fun x y i => ∃ k : Nat, k ≤ s.size ∧ i = .int .i64 k ∧ x = .int .i64 (sxy (bytesOf s) k).1 ∧ y = .int .i64 (sxy (bytesOf s) k).2) (fun _ _ i => s.size - (intOf i).toNat)
  case atStart => exact ⟨0, Nat.zero_le _, rfl, rfl, rfl⟩
  case round =>
    obtain ⟨k, hk, rfl, rfl, rfl⟩ := hrel
    have hb := sxy_le (bytesOf s) k
    by_cases hlt : k < s.size
    · have HB : Hid (((s[k]).toNat : Int) = bytesOf s k) := bytesOf_eq s k hlt
      have h255 : ((s[k]).toNat : Int) ≤ 255 := by rw [HB.out]; exact (bytesOf_le s k).2
      go_wp2
      go_round
      case rel => exact ⟨k + 1, by omega, by go_num, by simp only [sxy]; rw [HB.out], by simp only [sxy]; rw [HB.out]⟩
      case measure => simp [intOf]; omega
    · obtain rfl : k = s.size := by omega
      go_wp2
      go_ret
      exact ⟨rfl, rfl⟩
set_option maxHeartbeats 400000 in
theorem refSum_any (b n cap : Nat) (f : Nat → Int) (w : World) (hn : n ≤ maxLen) (hf : ∀ k, 0 ≤ f k ∧ f k ≤ 255) (hc : ∀ k, k < n → w.cell? ⟨b, k, none⟩ = some (.int .u8 (f k))) :
    Calls Tryz.prog 17 #[.slice (some ⟨b, 0, none⟩) n cap] w fun e w' => e = .returned (.int .i64 (65536 * (sxy f n).2 + (sxy f n).1)) ∧ w = w' := by
  unfold maxLen at hn
  go_enter Tryz.func17, Tryz.ntmps17
  go_wp2
  go_loop [3, 4, 5] (fun x y i => ∃ k : Nat, k ≤ n ∧ i = .int .i64 k ∧ x = .int .i64 (sxy f k).1 ∧ y = .int .i64 (sxy f k).2) (fun _ _ i => n - (intOf i).toNat)
  case atStart => exact ⟨0, Nat.zero_le _, rfl, rfl, rfl⟩
  case round =>
    obtain ⟨k, hk, rfl, rfl, rfl⟩ := hrel
    have hb := sxy_le f k
    have h1 := hf k
    by_cases hlt : k < n
    · have g := hc k hlt
      go_wp2
      go_round
      case rel => exact ⟨k + 1, by omega, by go_num, rfl, rfl⟩
      case measure => simp [intOf]; omega
    · obtain rfl : k = n := by omega
      go_wp2
      go_ret
      exact ⟨rfl, rfl⟩
end Go.Proofs.YtobjcnjgmllbdaaGreatDoor
