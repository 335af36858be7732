/- Contracts of the two sums. -/
import Derived.Test.YtbcjmakpempkiaaGreatDoorRc
import Derived.Laws.IdiomStrings
namespace Go.Proofs.YtbcjmakpempkiaaGreatDoor
open Go.RowKit
/-- the two numbers of a sum, behind the first k bytes -/
def sxy (f : Nat → Int) : Nat → Int × Int
  | 0 => (1, 0)
  | k + 1 => (((sxy f k).1 + f k) % 65521, ((sxy f k).2 + ((sxy f k).1 + f k) % 65521) % 65521)
theorem sxy_le (f : Nat → Int) (k : Nat) : 0 ≤ (sxy f k).1 ∧ (sxy f k).1 ≤ 65520 ∧ 0 ≤ (sxy f k).2 ∧ (sxy f k).2 ≤ 65520 := by
  induction k with
  | zero => simp [sxy]
  | succ k ih => simp only [sxy]; omega
def bytesOf (s : ByteArray) (k : Nat) : Int := ((s.data.toList.getD k 0).toNat : Int)
theorem bytesOf_le (s : ByteArray) (k : Nat) : 0 ≤ bytesOf s k ∧ bytesOf s k ≤ 255 := by
  have := (s.data.toList.getD k 0).toNat_lt
  unfold bytesOf; omega
theorem bytesOf_eq (s : ByteArray) (k : Nat) (h : k < s.size) : ((s[k]).toNat : Int) = bytesOf s k := by
  unfold bytesOf
  have : s.data.toList.getD k 0 = s[k] := by
    have h' : k < s.data.toList.length := by simpa using h
    rw [List.getD_eq_getElem?_getD, List.getElem?_eq_getElem h']; rfl
  rw [this]
/-- the sum -/
def sumN (s : ByteArray) : Int := 65536 * (sxy (bytesOf s) s.size).2 + (sxy (bytesOf s) s.size).1
theorem infoSum (cs : Array Value) (h : cs.size = 2) : (Tryz.prog.info? 119).map (·.size) = some cs.size := by rw [h]; kernel_rfl
/-- a row of two cells, as its block -/
theorem row_two {w : World} {g T : Nat} {f : Nat → Value} (h : w.rowIs g T 2 f) : w.heap[g]? = some (.cells #[f 0, f 1] T) := by
  obtain ⟨c, hc, hn, hv⟩ := h
  rw [hc]
  have h0 := hv 0 (by omega)
  have h1 := hv 1 (by omega)
  have : c = #[f 0, f 1] := by
    apply Array.ext
    · simpa using hn
    · intro i h2 h3
      have : i = 0 ∨ i = 1 := by simp at h3; omega
      rcases this with rfl | rfl
      · rw [Array.getElem?_eq_getElem h2] at h0; simpa using h0
      · rw [Array.getElem?_eq_getElem h2] at h1; simpa using h1
  rw [this]
set_option maxHeartbeats 400000 in
theorem emptySum_any (w : World) : Calls Tryz.prog 110 #[] w fun e w' => e = .returned (.agg #[.int .i64 1, .int .i64 0]) ∧ Below w.heap.size w w' := by
  go_enter Tryz.func110, Tryz.ntmps110
  go_wp2
  refine bodyPost_ret (v := .agg #[.int .i64 1, .int .i64 0]) ?_ rfl ?_
  · exact results_cell_row Tryz.results110 _ _ _ 119 _ _ _ rfl (heap_alloc_new _ _) Tryz.underlying119 rfl (infoSum _ rfl)
  · exact ⟨rfl, (Below.refl _ _).alloc (Nat.le_refl _) _⟩
set_option maxHeartbeats 400000 in
theorem sumNumber_any (x y : Int) (w : World) (hx : 0 ≤ x ∧ x ≤ 65520) (hy : 0 ≤ y ∧ y ≤ 65520) :
    Calls Tryz.prog 112 #[.agg #[.int .i64 x, .int .i64 y]] w fun e w' => e = .returned (.int .i64 (65536 * y + x)) ∧ Below w.heap.size w w' := by
  go_enter Tryz.func112, Tryz.ntmps112
  go_wp2
  go_ret
  exact ⟨rfl, (Below.refl _ _).alloc (Nat.le_refl _) _⟩
set_option maxHeartbeats 400000 in
theorem sumAdd_any (g o : Nat) (x y b : Int) (w : World) (hx : 0 ≤ x ∧ x ≤ 65520) (hy : 0 ≤ y ∧ y ≤ 65520) (hb : 0 ≤ b ∧ b ≤ 255)
    (cx : w.cell? ⟨g, o, none⟩ = some (.int .i64 x)) (cy : w.cell? ⟨g, o + 1, none⟩ = some (.int .i64 y)) (fx : w.frozen? ⟨g, o, none⟩ = false) (fy : w.frozen? ⟨g, o + 1, none⟩ = false) :
    Calls Tryz.prog 111 #[.pointer (some ⟨g, o, none⟩), .int .u8 b] w fun e w' => e = .returned (.tuple #[]) ∧
      ∃ m, w' = ((w.drewN m).setCell ⟨g, o, none⟩ (.int .i64 ((x + b) % 65521))).setCell ⟨g, o + 1, none⟩ (.int .i64 ((y + (x + b) % 65521) % 65521)) := by
  go_enter Tryz.func111, Tryz.ntmps111
  go_wp2
  go_region
  all_goals
    go_end0
    refine ⟨rfl, 1, ?_⟩
    first | rfl | (simp; rfl)
set_option maxHeartbeats 1000000 in
theorem sum_any (s : ByteArray) (w : World) (hs : s.size ≤ maxLen) :
    Calls Tryz.prog 80 #[.string s] w fun e w' => e = .returned (.int .i64 (sumN s)) ∧ Below w.heap.size w w' := by
  unfold maxLen at hs
  go_enter Tryz.func80, Tryz.ntmps80
  go_wp2_with fail
  refine (emptySum_any w).mono ?_
  rintro e w1 ⟨rfl, hb1⟩
  have HG : Hid (Below w.heap.size w w1) := hb1
  clear hb1
  go_wp2_with fail
  obtain ⟨g, hg⟩ : ∃ g, g = w1.heap.size := ⟨_, rfl⟩
  have HN : Hid (w.heap.size ≤ g) := by rw [hg]; exact HG.out.size
  have HR : Hid ((w1.alloc (.cells #[.int .i64 1, .int .i64 0] 119)).rowIs g 119 2 (fun i => if i = 0 then .int .i64 (sxy (bytesOf s) 0).1 else .int .i64 (sxy (bytesOf s) 0).2)) := by
    rw [hg]
    refine World.rowIs_alloc w1 _ _ _ (fun i hi => ?_)
    have : i = 0 ∨ i = 1 := by simp at hi; omega
    rcases this with rfl | rfl <;> rfl
  have HB : Hid (Below w.heap.size w (w1.alloc (.cells #[.int .i64 1, .int .i64 0] 119))) := HG.out.alloc HG.out.size _
  simp only [← hg]
  clear hg HG
  go_loopw [8] (fun i wr => ∃ k : Nat, k ≤ s.size ∧ i = .int .i64 k ∧ wr.rowIs g 119 2 (fun i => if i = 0 then .int .i64 (sxy (bytesOf s) k).1 else .int .i64 (sxy (bytesOf s) k).2) ∧ Below w.heap.size w wr) (fun i _ => s.size - (intOf i).toNat)
  case atStart => exact ⟨0, Nat.zero_le _, rfl, HR.out, HB.out⟩
  case round =>
    obtain ⟨k, hk, rfl, hrow, hbel⟩ := hrel
    have hb := sxy_le (bytesOf s) k
    have c0 := hrow.cell (i := 0) (by omega)
    have c1 := hrow.cell (i := 1) (by omega)
    have f0 := hrow.frozen 0
    have f1 := hrow.frozen 1
    simp only [if_pos, Nat.one_ne_zero, if_false] at c0 c1
    have HRW : Hid _ := hrow
    have HBL : Hid _ := hbel
    clear hrow hbel HR HB
    by_cases hlt : k < s.size
    · have HS : Hid (((s[k]).toNat : Int) = bytesOf s k) := bytesOf_eq s k hlt
      have h255 : 0 ≤ bytesOf s k ∧ bytesOf s k ≤ 255 := bytesOf_le s k
      go_wp2_with fail
      refine (sumAdd_any g 0 (sxy (bytesOf s) k).1 (sxy (bytesOf s) k).2 ((s[k]).toNat : Int) wr ⟨hb.1, hb.2.1⟩ ⟨hb.2.2.1, hb.2.2.2⟩ (by rw [HS.out]; exact h255) c0 c1 f0 f1).mono ?_
      rintro e w2 ⟨rfl, m, hw2⟩
      have HX : Hid (w2.rowIs g 119 2 (fun i => if i = 0 then .int .i64 (sxy (bytesOf s) (k + 1)).1 else .int .i64 (sxy (bytesOf s) (k + 1)).2) ∧ Below w.heap.size w w2) := by
        show _ ∧ _
        rw [hw2, HS.out]
        refine ⟨?_, ((show Below w.heap.size w (wr.drewN m) from ⟨HBL.out.os, HBL.out.tape, HBL.out.output, HBL.out.size, HBL.out.block⟩).setCell (by exact HN.out) _).setCell (by exact HN.out) _⟩
        refine ((((show (wr.drewN m).rowIs g 119 2 _ from HRW.out)).set 0 _).set 1 _).congr (fun i hi => ?_)
        have : i = 0 ∨ i = 1 := by omega
        rcases this with rfl | rfl <;> simp [sxy]
      clear hw2
      go_wp2_with fail
      go_roundw
      case rel => exact ⟨k + 1, by omega, by go_num, HX.out.1, HX.out.2⟩
      case measure => simp [intOf]; omega
    · obtain rfl : k = s.size := by omega
      have h1 : wr.heap[g]? = some (.cells #[.int .i64 (sxy (bytesOf s) s.size).1, .int .i64 (sxy (bytesOf s) s.size).2] 119) := row_two HRW.out
      go_wp2_with (first | refine wpList_load_row rfl 119 _ rfl _ rfl 119 _ _ _ h1 Tryz.underlying119 rfl (infoSum _ rfl) ?_)
      refine (sumNumber_any (sxy (bytesOf s) s.size).1 (sxy (bytesOf s) s.size).2 wr ⟨hb.1, hb.2.1⟩ ⟨hb.2.2.1, hb.2.2.2⟩).mono ?_
      rintro e w2 ⟨rfl, hb2⟩
      have HB2 : Hid (Below w.heap.size w w2) := HBL.out.trans (hb2.mono HBL.out.size)
      clear hb2
      go_wp2_with fail
      go_ret
      exact ⟨rfl, HB2.out⟩
set_option maxHeartbeats 400000 in
theorem refSum_any (b n cap : Nat) (f : Nat → Int) (w : World) (hn : n ≤ maxLen) (hf : ∀ k, 0 ≤ f k ∧ f k ≤ 255) (hc : ∀ k, k < n → w.cell? ⟨b, k, none⟩ = some (.int .u8 (f k))) :
    Calls Tryz.prog 81 #[.slice (some ⟨b, 0, none⟩) n cap] w fun e w' => e = .returned (.int .i64 (65536 * (sxy f n).2 + (sxy f n).1)) ∧ w = w' := by
  unfold maxLen at hn
  go_enter Tryz.func81, Tryz.ntmps81
  go_wp2
  go_loop [3, 4, 5] (fun x y i => ∃ k : Nat, k ≤ n ∧ i = .int .i64 k ∧ x = .int .i64 (sxy f k).1 ∧ y = .int .i64 (sxy f k).2) (fun _ _ i => n - (intOf i).toNat)
  case atStart => exact ⟨0, Nat.zero_le _, rfl, rfl, rfl⟩
  case round =>
    obtain ⟨k, hk, rfl, rfl, rfl⟩ := hrel
    have hb := sxy_le f k
    have h1 := hf k
    by_cases hlt : k < n
    · have g := hc k hlt
      go_wp2
      go_round
      case rel => exact ⟨k + 1, by omega, by go_num, rfl, rfl⟩
      case measure => simp [intOf]; omega
    · obtain rfl : k = n := by omega
      go_wp2
      go_ret
      exact ⟨rfl, rfl⟩
end Go.Proofs.YtbcjmakpempkiaaGreatDoor
