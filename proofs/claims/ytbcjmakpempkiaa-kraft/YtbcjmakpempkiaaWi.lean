/- What Kraft makes of its set: copies, one with a length more, one with a length beyond, one with a code less. -/
import Derived.Test.YtbcjmakpempkiaaMd
import Derived.Test.YtbcjmakpempkiaaWf
import Derived.WalkSpells
import Derived.Deep.Draws
namespace Go.Proofs.Ytbcjmakpempkiaa
open Go.RowKit
theorem Own.cells {w : World} {B g cap : Nat} {l : List Int} (h : Own w B g cap l) : Cells w g 0 l := fun i hi => by
  rw [Nat.zero_add, h.cell hi]; simp [hi]
theorem drewN_below {B : Nat} {w w2 : World} (h : Below B w w2) (q : Nat) : Below B w (w2.drewN q) := ⟨h.os, h.tape, h.output, h.size, h.block⟩
theorem news_of {W : World} {g : Nat} {l : List Int} (h : Cells W g 0 l) : ∀ j u, (l.map (Value.int .i64))[j]? = some u → W.cell? ((⟨g, 0, none⟩ : Addr).add j) = some u := by
  intro j u hu
  have hj : j < l.length := by
    rcases Nat.lt_or_ge j l.length with h' | h'
    · exact h'
    · simp [h'] at hu
  have hadd : (⟨g, 0, none⟩ : Addr).add j = ⟨g, 0 + j, none⟩ := by unfold Addr.add; split <;> simp_all
  rw [hadd, h j hj]
  simpa [hj] using hu
theorem ones_of (l : List Int) : ∀ u ∈ l.map (Value.int .i64), u.oneCell' = true := by
  intro u hu
  obtain ⟨x, _, rfl⟩ := List.mem_map.1 hu
  rfl
theorem clone_of {W w3 : World} {v' : Value} {l : List Int} (hpos : 0 < l.length) (ho : w3.ownsRow W.heap.size 3 1 v' l.length (l.map (Value.int .i64))) (hg : W.grownBy w3 none) :
    ∃ g3 c3, v' = .slice (some ⟨g3, 0, none⟩) l.length c3 ∧ W.heap.size ≤ g3 ∧ g3 < w3.heap.size ∧ Own w3 W.heap.size g3 c3 l ∧ Below W.heap.size W w3 := by
  rcases ho.2 with ⟨_, h0⟩ | ⟨g3, c3, cur, hv, hb, _⟩
  · omega
  · have hlt := ho.lt g3 (by rw [hv]; rfl)
    refine ⟨g3, c3, hv, hb, hlt.2, by unfold Own; rw [← hv]; exact ho, (Below.refl _ _).grown hg (Nat.le_refl _) (fun k hk => by simp at hk)⟩
/-- a store into a copy: the copy; what lies elsewhere -/
theorem put_of {w3 : World} {g3 c3 k : Nat} {l : List Int} {B : Nat} (h : Own w3 B g3 c3 l) (v : Int) : Cells (w3.setCell ⟨g3, k, none⟩ (.int .i64 v)) g3 0 (l.set k v) := by
  have h1 := (World.ownsRow.stored h k (.int .i64 v)).1
  have e : (l.map (Value.int .i64)).set k (.int .i64 v) = (l.set k v).map (Value.int .i64) := by simp [List.map_set]
  rw [e] at h1
  intro i hi
  have hi' : i < l.length := by simpa using hi
  rw [Nat.zero_add, World.ownsRow.cellAt h1 i (by omega), List.getElem?_map, List.getElem?_eq_getElem hi]
  simp [hi']
theorem keep_of {w3 : World} {g g3 k : Nat} {l : List Int} (h : Cells w3 g 0 l) (hne : g ≠ g3) (v : Value) : Cells (w3.setCell ⟨g3, k, none⟩ v) g 0 l := fun i hi => by
  have := h i hi
  have e : (w3.setCell ⟨g3, k, none⟩ v).cell? ⟨g, 0 + i, none⟩ = w3.cell? ⟨g, 0 + i, none⟩ := World.cell?_of_block (Below.heap_setCell _ _ _ _ (by simpa using hne))
  rw [e]; exact this
/-- one element more -/
theorem snoc_of {W w3 w4 : World} {v' : Value} {B g3 c3 : Nat} {l : List Int} {x : Int} (hB : W.heap.size ≤ B) (_ : Own w3 B g3 c3 l) (hB3 : B ≤ w3.heap.size) (hWb : Below W.heap.size W w3)
    (ho : w4.ownsRow B 3 1 v' (l.length + 1) (l.map (Value.int .i64) ++ [.int .i64 x])) (hg : (w3.alloc (.cells #[.int .i64 x] 3)).grownBy w4 (Value.slice (some ⟨g3, 0, none⟩) l.length c3).ownBlock) (hg3 : B ≤ g3) :
    ∃ g4 c4, v' = .slice (some ⟨g4, 0, none⟩) (l.length + 1) c4 ∧ B ≤ g4 ∧ g4 < w4.heap.size ∧ Cells w4 g4 0 (l ++ [x]) ∧ Below W.heap.size W w4 := by
  rcases ho.2 with ⟨_, h0⟩ | ⟨g4, c4, cur, hv, hb, _⟩
  · omega
  · have hlt := ho.lt g4 (by rw [hv]; rfl)
    have hO : Own w4 B g4 c4 (l ++ [x]) := by
      unfold Own
      rw [List.length_append, List.map_append]
      show w4.ownsRow B 3 1 (.slice (some ⟨g4, 0, none⟩) (l.length + 1) c4) (l.length + 1) (l.map (Value.int .i64) ++ [.int .i64 x])
      rw [← hv]; exact ho
    refine ⟨g4, c4, hv, hb, hlt.2, hO.cells, (hWb.alloc (by omega) _).grown hg (by simp; omega) (fun k hk => ?_)⟩
    simp [Value.ownBlock] at hk; omega

theorem pw_small {x : Int} (h : 2 ≤ x) : pw x ≤ 512 := by
  unfold pw
  have : 11 - x.toNat ≤ 9 := by omega
  exact Nat.pow_le_pow_right (n := 2) (by decide) this
theorem Good.two {l : List Int} (h : Good l) (hl : l.length = 2) : l = [1, 1] := by
  match l, hl with
  | [x, y], _ =>
    have hx := h.pos (by simp) x (by simp)
    have hy := h.pos (by simp) y (by simp)
    have hw := h.2
    simp [wt] at hw
    by_cases ex : x = 1
    · by_cases ey : y = 1
      · rw [ex, ey]
      · have := pw_small (show 2 ≤ y by omega)
        subst ex
        simp [pw] at hw this; omega
    · have := pw_small (show 2 ≤ x by omega)
      by_cases ey : y = 1
      · subst ey; simp [pw] at hw this; omega
      · have := pw_small (show 2 ≤ y by omega); omega
theorem two_less {l : List Int} (h : Good l) (hl : l.length = 2) {a : Nat} (ha : a < 2) : Ytbcjmakpempkiaa.accepts (l.set a 0) = true ∧ cdv (fc (cn (l.set a 0))) (l.set a 0) a = -1 ∧ cdv (fc (cn (l.set a 0))) (l.set a 0) (1 - a) = 0 := by
  have e := h.two hl
  subst e
  have : a = 0 ∨ a = 1 := by omega
  rcases this with rfl | rfl <;> decide
theorem eqNil (w : World) : (binOp .eql 22 (.slice none 0 0) (.slice none 0 0)).run Try.prog w = .ok (.bool true) w := by
  rw [Lib.run_eql_slice_nil w 22 3 none 0 0 0 0 Try.underlying22]; rfl
theorem neNil (w : World) : (binOp .neq 22 (.slice none 0 0) (.slice none 0 0)).run Try.prog w = .ok (.bool false) w := by
  rw [run_neq_slice_nil_any w 22 3 none 0 0 0 0 Try.underlying22]; rfl
end Go.Proofs.Ytbcjmakpempkiaa
