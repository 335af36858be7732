/- The contracts of own and opening. -/
import Derived.Test.YtbcjmakpempkiaaGreatDoorLk
namespace Go.Proofs.YtbcjmakpempkiaaGreatDoor
open Go.RowKit
def ownC : Array Value := #[.int .i64 0, .int .i64 9, .int .i64 9, .int .i64 9, .int .i64 1, .int .i64 9, .int .i64 99]
set_option maxRecDepth 100000 in
theorem own_any (w : World) : Calls Tryz.prog 32 #[] w fun e w' => e = .returned (.agg ownC) ∧ w' = w.alloc (.cells ownC 42) := by
  go_enter Tryz.func32, Tryz.ntmps32
  go_wp2_with fail
  exact bodyPost_ret (v := .agg ownC) (by simp [results, Tryz.results32, go_sem, ownC]) rfl ⟨rfl, rfl⟩
/-- the opening's steps: kind, A, B, C, S -/
def openL : List (Int × Int × Int × Int × ByteArray) :=
  [(3, 0, 0, 0, ⟨#[97]⟩), (1, 1, 0, 0, ⟨#[]⟩), (1, 1, 0, 0, ⟨#[]⟩), (4, 0, 0, 0, ⟨#[]⟩), (1, 1, 0, 0, ⟨#[]⟩), (4, 0, 0, 0, ⟨#[]⟩), (2, 0, 0, 0, ⟨#[]⟩),
   (5, 0, 0, 0, ⟨#[1, 2, 0, 253, 255, 104, 105]⟩), (5, 0, 0, 0, ⟨#[7]⟩), (7, -1, 0, 0, ⟨#[1, 2, 0, 253, 255, 104, 105]⟩), (7, 1, 0, 0, ⟨#[115, 1, 1, 2, 0, 253, 255, 104, 105, 1, 59, 0, 210]⟩),
   (8, -1, -1, 0, ⟨#[]⟩), (10, 0, 6, 2, ⟨#[]⟩), (11, 0, 1, 0, ⟨#[]⟩), (10, 0, 1, 0, ⟨#[]⟩), (12, 0, 0, 0, ⟨#[]⟩), (13, 0, 0, 0, ⟨#[]⟩), (11, 0, 9, 0, ⟨#[]⟩)]
def openCells (l : List (Int × Int × Int × Int × ByteArray)) : List Value := l.flatMap fun x => [.int .i64 x.1, .int .i64 x.2.1, .int .i64 x.2.2.1, .int .i64 x.2.2.2.1, .string x.2.2.2.2, .slice none 0 0]
def openC : Array Value := (openCells openL).toArray
set_option maxRecDepth 100000 in
set_option maxHeartbeats 2000000 in
theorem opening_any (w : World) : Calls Tryz.prog 33 #[] w fun e w' => e = .returned (.slice (some ⟨w.heap.size, 0, none⟩) 18 18) ∧ w' = w.alloc (.cells openC 79) := by
  go_enter Tryz.func33, Tryz.ntmps33
  go_wp2_with fail
  go_ret
  exact ⟨rfl, rfl⟩
end Go.Proofs.YtbcjmakpempkiaaGreatDoor
