/- The contract of words at a Sum. -/
import Derived.Test.YtobjcnjgmllbdaaGreatDoorLf
import Derived.Test.YtobjcnjgmllbdaaGreatDoorSa
namespace Go.Proofs.YtobjcnjgmllbdaaGreatDoor
open Go.RowKit
/-- a step as a value -/
def opV (kd a b c : Int) (s : ByteArray) (p : Value) : Array Value := #[.int .i64 kd, .int .i64 a, .int .i64 b, .int .i64 c, .string s, p]
theorem bytes_cell (s : ByteArray) (w : World) (o : Obj) (c k : Nat) (hk : k < s.size) : ((w.alloc o).alloc (.cells (bytesRow s c) 5 ((bytesRow s c).size, (bytesRow s c).size + 1))).drew.cell? ⟨w.heap.size + 1, k, none⟩ = some (.int .u8 (bytesOf s k)) := by
  have h1 : ((w.alloc o).alloc (.cells (bytesRow s c) 5 ((bytesRow s c).size, (bytesRow s c).size + 1))).drew.heap[w.heap.size + 1]? = some (.cells (bytesRow s c) 5 ((bytesRow s c).size, (bytesRow s c).size + 1)) := by
    have := heap_alloc_new (w.alloc o) (.cells (bytesRow s c) 5 ((bytesRow s c).size, (bytesRow s c).size + 1))
    have e : (w.alloc o).heap.size = w.heap.size + 1 := by simp
    rw [e] at this
    exact this
  rw [cell_of_row _ _ k _ _ _ h1, bytesRow_at s c k hk]
  congr 2
  exact bytesOf_eq s k hk
set_option maxRecDepth 100000 in
set_option maxHeartbeats 2000000 in
theorem words_sum (gW : Nat) (a b c : Int) (s : ByteArray) (ap : Option Addr) (np cp : Nat) (w : World) (hs : s.size ≤ maxLen) :
    Calls Tryz.prog 11 #[.pointer (some ⟨gW, 0, none⟩), .agg (opV 3 a b c s (.slice ap np cp))] w fun e w' => e = .returned (.bool true) ∧ Below w.heap.size w w' := by
  have hconv := fun w => run_bytes_of_string (P := Tryz.prog) w 9 51 5 s Tryz.underlying9 Tryz.underlying51 Tryz.underlying5
  unfold opV
  go_enter Tryz.func11, Tryz.ntmps11
  go_wp2_with (go_at_call 16; refine (sum_any s _ hs).mono ?_; rintro e w' ⟨rfl, rfl⟩)
  refine (refSum_any (w.heap.size + 1) s.size _ (bytesOf s) _ hs (bytesOf_le s) (fun k hk => bytes_cell s _ _ _ k hk)).mono ?_
  rintro e w' ⟨rfl, rfl⟩
  have hsum : Hid (65536 * (sxy (bytesOf s) s.size).2 + (sxy (bytesOf s) s.size).1 = sumN s) := rfl
  rw [hsum.out]
  go_wp2_with fail
  go_ret
  exact ⟨by simp, ((Below.refl _ _).alloc (Nat.le_refl _) _).alloc (by simp) _ |>.drew⟩
end Go.Proofs.YtobjcnjgmllbdaaGreatDoor
