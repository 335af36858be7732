/- The contract of words at a Sum. -/
import Derived.Test.YtbcjmakpempkiaaGreatDoorLf
import Derived.Test.YtbcjmakpempkiaaGreatDoorSa
namespace Go.Proofs.YtbcjmakpempkiaaGreatDoor
open Go.RowKit
/-- a step as a value -/
def opV (kd a b c : Int) (s : ByteArray) (p : Value) : Array Value := #[.int .i64 kd, .int .i64 a, .int .i64 b, .int .i64 c, .string s, p]
theorem bytes_cell (s : ByteArray) (w : World) (c k : Nat) (hk : k < s.size) : (w.alloc (.cells (bytesRow s c) 5 ((bytesRow s c).size, (bytesRow s c).size + 1))).drew.cell? ⟨w.heap.size, k, none⟩ = some (.int .u8 (bytesOf s k)) := by
  have h1 : (w.alloc (.cells (bytesRow s c) 5 ((bytesRow s c).size, (bytesRow s c).size + 1))).drew.heap[w.heap.size]? = some (.cells (bytesRow s c) 5 ((bytesRow s c).size, (bytesRow s c).size + 1)) :=
    heap_alloc_new w (.cells (bytesRow s c) 5 ((bytesRow s c).size, (bytesRow s c).size + 1))
  rw [cell_of_row _ _ k _ _ _ h1, bytesRow_at s c k hk]
  congr 2
  exact bytesOf_eq s k hk
set_option maxRecDepth 100000 in
set_option maxHeartbeats 2000000 in
theorem words_sum (gW : Nat) (a b c : Int) (s : ByteArray) (ap : Option Addr) (np cp : Nat) (w : World) (hs : s.size ≤ maxLen) :
    Calls Tryz.prog 59 #[.pointer (some ⟨gW, 0, none⟩), .agg (opV 3 a b c s (.slice ap np cp))] w fun e w' => e = .returned (.bool true) ∧ Below w.heap.size w w' := by
  have hconv := fun w => run_bytes_of_string (P := Tryz.prog) w 9 34 5 s Tryz.underlying9 Tryz.underlying34 Tryz.underlying5
  unfold opV
  go_enter Tryz.func59, Tryz.ntmps59
  go_wp2_with (go_at_call 80; refine (sum_any s _ hs).mono ?_; rintro e w' ⟨rfl, hb1⟩; have k4 : w'.cell? ⟨w.heap.size, 4, none⟩ = some (.string s) := (by rw [hb1.cell (by simp)]; simp); have HB1 : Hid (Below w.heap.size w w') := ((Below.refl _ _).alloc (Nat.le_refl _) _).trans (hb1.mono (by simp)); clear hb1)
  refine (refSum_any w'.heap.size s.size _ (bytesOf s) _ hs (bytesOf_le s) (fun k hk => bytes_cell s _ _ k hk)).mono ?_
  rintro e w2 ⟨rfl, rfl⟩
  have hsum : Hid (65536 * (sxy (bytesOf s) s.size).2 + (sxy (bytesOf s) s.size).1 = sumN s) := rfl
  rw [hsum.out]
  go_wp2_with fail
  go_ret
  exact ⟨by simp, (HB1.out.alloc HB1.out.size _).drew⟩
end Go.Proofs.YtbcjmakpempkiaaGreatDoor
