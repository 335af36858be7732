/- The contract of tree: it makes a complete set of n lengths. -/
import Derived.Test.YtbcjmakpempkiaaMath
import Derived.Test.YtbcjmakpempkiaaWe
import Derived.Laws.OwnMore
namespace Go.Proofs.Ytbcjmakpempkiaa
open Go.RowKit

/-- what is told of the picks that came in -/
def Picks (w : World) (ad : Option Addr) (n : Nat) : Prop :=
  n ≤ 9223372036854775807 ∧ ∀ k, k < n → ∃ b o x, ad = some ⟨b, o, none⟩ ∧ b < w.heap.size ∧ w.cell? ⟨b, o + k, none⟩ = some (.int .i64 x) ∧ -9223372036854775808 ≤ x ∧ x ≤ 9223372036854775807

/-- a slice of the call's own that holds these numbers -/
def Own (w : World) (B g cap : Nat) (l : List Int) : Prop := w.ownsRow B 3 1 (.slice (some ⟨g, 0, none⟩) l.length cap) l.length (l.map (Value.int .i64))
theorem Own.cell {w : World} {B g cap : Nat} {l : List Int} (h : Own w B g cap l) {k : Nat} (hk : k < l.length) : w.cell? ⟨g, k, none⟩ = some (.int .i64 l[k]) := by
  rw [World.ownsRow.cellAt h k (by omega)]; simp [hk]
theorem Own.cellV {w : World} {B g cap : Nat} {l : List Int} (h : Own w B g cap l) {k : Nat} (hk : k < l.length) : ∃ x, w.cell? ⟨g, k, none⟩ = some (.int .i64 x) ∧ Hid (l[k] = x) := ⟨_, h.cell hk, show l[k] = l[k] from rfl⟩

theorem tree_step {w wr w1 : World} {g cp k : Nat} {l : List Int} {y : Int} {v' : Value} (hk : k < l.length) (hy : l[k] = y) (hlt : y < 11) (hgood : Good l)
    (hown : Own wr w.heap.size g cp l) (hbel : Below w.heap.size w wr)
    (hown' : w1.ownsRow w.heap.size 3 1 v' (l.length + 1) ((l.map (Value.int .i64)).set k (.int .i64 (y + 1)) ++ [.int .i64 (y + 1)]))
    (hgrow : ((wr.setCell ⟨g, k, none⟩ (.int .i64 (y + 1))).alloc (.cells #[.int .i64 (y + 1)] 3)).grownBy w1 (Value.slice (some ⟨g, 0, none⟩) l.length cp).ownBlock) :
    ∃ (g' cp' : Nat) (l' : List Int), v' = .slice (some ⟨g', 0, none⟩) l'.length cp' ∧ l'.length = l.length + 1 ∧ Good l' ∧ Own w1 w.heap.size g' cp' l' ∧ Below w.heap.size w w1 := by
  have hg : w.heap.size ≤ g := (hown.lt g rfl).1
  have hlen : (l.set k (y + 1) ++ [y + 1]).length = l.length + 1 := by simp
  have hmap : (l.map (Value.int .i64)).set k (.int .i64 (y + 1)) ++ [.int .i64 (y + 1)] = (l.set k (y + 1) ++ [y + 1]).map (Value.int .i64) := by simp [List.map_set]
  rw [hmap] at hown'
  have hbel' : Below w.heap.size w w1 := by
    refine ((hbel.setCell (p := ⟨g, k, none⟩) hg (.int .i64 (y + 1))).alloc ?_ (.cells #[.int .i64 (y + 1)] 3)).grown hgrow ?_ ?_
    · have := hbel.size; simpa using this
    · have := hbel.size; simp; omega
    · intro j hj; simp [Value.ownBlock] at hj; omega
  have hgd : Good (l.set k (y + 1) ++ [y + 1]) := by
    have := hgood.step hk (by omega)
    rw [hy] at this; exact this
  rcases hown'.2 with ⟨_, h0⟩ | ⟨g', cp', cur, hv, _⟩
  · omega
  · refine ⟨g', cp', l.set k (y + 1) ++ [y + 1], by rw [hlen]; exact hv, hlen, hgd, ?_, hbel'⟩
    unfold Own
    rw [hlen, ← hv]
    exact hown'

set_option maxRecDepth 100000 in
set_option maxHeartbeats 1000000 in
theorem tree_any (n : Nat) (ad : Option Addr) (len cap : Nat) (w : World) (hn : 2 ≤ n) (hn2 : n ≤ 269) (hp : Picks w ad len) :
    Calls Try.prog 4 #[.int .i64 n, .int .i64 11, .slice ad len cap] w fun e w' => ∃ g cap' l, e = .returned (.slice (some ⟨g, 0, none⟩) l.length cap') ∧ l.length = n ∧ Good l ∧ Own w' w.heap.size g cap' l ∧ Below w.heap.size w w' := by
  have HP : Hid (Picks w ad len) := hp
  have hlen : len ≤ 9223372036854775807 := hp.1
  clear hp
  obtain ⟨i0, hi, hz0, hz1, hz2⟩ := info_parts info3
  go_enter Try.func4, Try.ntmps4
  go_wp2_with fail
  go_loopw [7, 8] (fun v i wr => ∃ (g cp : Nat) (l : List Int), v = .slice (some ⟨g, 0, none⟩) l.length cp ∧ 1 ≤ l.length ∧ l.length ≤ n ∧ i = .int .i64 (l.length - 1) ∧ Good l ∧ Own wr w.heap.size g cp l ∧ Below w.heap.size w wr) (fun _ i _ => n - (intOf i).toNat)
  case atStart => exact ⟨w.heap.size, 1, [0], rfl, by simp, by simp; omega, rfl, Good.one, World.ownsRow_lit w _ 1 (Nat.le_refl _) (by decide) rfl, (Below.refl _ _).alloc (Nat.le_refl _) _⟩
  case round =>
    obtain ⟨g, cp, l, rfl, hl1, hl2, rfl, hgood, hown, hbel⟩ := hrel
    have HG : Hid (Good l) := hgood
    clear hgood
    by_cases hlt : l.length < n
    · by_cases hq : l.length - 1 < len
      · obtain ⟨b, o, x, rfl, hb, hcell, hx0, hx1⟩ := HP.out.2 (l.length - 1) hq
        have hcell' := (hbel.cell (p := ⟨b, o + (l.length - 1), none⟩) hb).trans hcell
        clear hcell
        by_cases hneg : x < 0
        · obtain ⟨k0, hk0, hm⟩ := cast_mod_neg x l.length hneg (by omega)
          go_wp2_with fail
          clear hneg hcell'
          clear hm
          obtain ⟨j, hj, hj11⟩ := HG.out.small (by omega)
          have HJ : Hid (l[j] < 11) := hj11
          clear hj11
          go_loop [9] (fun i => ∃ k : Nat, k < l.length ∧ i = .int .i64 k) (fun i => dist l.length (intOf i).toNat j)
          case atStart => first | exact ⟨k0, hk0, rfl⟩ | exact ⟨0, by omega, rfl⟩
          case round =>
            obtain ⟨k, hk, rfl⟩ := hrel
            obtain ⟨y, hc, hy⟩ := hown.cellV hk
            have ⟨hy0, hy1⟩ : 0 ≤ y ∧ y ≤ 11 := by have := HG.out.1 _ (List.getElem_mem hk); rw [hy.out] at this; exact this
            by_cases h11 : 11 ≤ y
            · go_wp2_with fail
              go_round
              case rel => exact ⟨(k + 1) % l.length, Nat.mod_lt _ (by omega), by rw [cast_mod]⟩
              case measure =>
                have hne : k ≠ j := by intro e; subst e; have := HJ.out; have := hy.out; omega
                simp only [intOf]
                rw [cast_mod]
                exact dist_step hk hj hne
            · have hfr := World.ownsRow.frozenAt hown k
              have HS := (World.ownsRow.stored hown k (.int .i64 (y + 1))).1
              go_wp2_with (first | (at_builtin; refine wpList_append_own _ rfl _ _ 22 rfl w.heap.size 3 i0 (.int .i64 0) 1 8 Try.underlying22 hi hz0 hz1 hz2 rfl (by decide) _ _ _ rfl (HS.alloc _) ⟨wr.heap.size, 0, none⟩ 1 1 [.int .i64 (y + 1)] rfl rfl ?qc1 ?qc2 ?qc3 ?qc4 ?qc5 ?_) | fail)
              case qc2 => rfl
              case qc3 => unfold maxLen; omega
              case qc4 => omega
              case qc5 => have := hbel.size; omega
              intro v' w1 hown' hgrow _
              obtain ⟨g', cp', l', hv, hl', hgood', hown2, hbel2⟩ := tree_step hk hy.out (by omega) HG.out hown hbel hown' hgrow
              clear hown' hgrow HS hfr hc
              have HG' : Hid (Good l') := hgood'
              have HL : Hid (l'.length = l.length + 1) := hl'
              clear hgood' hl'
              rw [hv]
              clear hv
              go_wp2_with fail
              go_roundw
              case rel => exact ⟨g', cp', l', rfl, by have := HL.out; omega, by have := HL.out; omega, by rw [HL.out]; go_num, HG'.out, hown2, hbel2⟩
              case measure => have := HL.out; simp [intOf]; omega
        · obtain ⟨k0, hk0, hm⟩ := cast_mod0 x l.length (by omega)
          go_wp2_with fail
          clear hneg hcell'
          clear hm
          obtain ⟨j, hj, hj11⟩ := HG.out.small (by omega)
          have HJ : Hid (l[j] < 11) := hj11
          clear hj11
          go_loop [9] (fun i => ∃ k : Nat, k < l.length ∧ i = .int .i64 k) (fun i => dist l.length (intOf i).toNat j)
          case atStart => first | exact ⟨k0, hk0, rfl⟩ | exact ⟨0, by omega, rfl⟩
          case round =>
            obtain ⟨k, hk, rfl⟩ := hrel
            obtain ⟨y, hc, hy⟩ := hown.cellV hk
            have ⟨hy0, hy1⟩ : 0 ≤ y ∧ y ≤ 11 := by have := HG.out.1 _ (List.getElem_mem hk); rw [hy.out] at this; exact this
            by_cases h11 : 11 ≤ y
            · go_wp2_with fail
              go_round
              case rel => exact ⟨(k + 1) % l.length, Nat.mod_lt _ (by omega), by rw [cast_mod]⟩
              case measure =>
                have hne : k ≠ j := by intro e; subst e; have := HJ.out; have := hy.out; omega
                simp only [intOf]
                rw [cast_mod]
                exact dist_step hk hj hne
            · have hfr := World.ownsRow.frozenAt hown k
              have HS := (World.ownsRow.stored hown k (.int .i64 (y + 1))).1
              go_wp2_with (first | (at_builtin; refine wpList_append_own _ rfl _ _ 22 rfl w.heap.size 3 i0 (.int .i64 0) 1 8 Try.underlying22 hi hz0 hz1 hz2 rfl (by decide) _ _ _ rfl (HS.alloc _) ⟨wr.heap.size, 0, none⟩ 1 1 [.int .i64 (y + 1)] rfl rfl ?qd1 ?qd2 ?qd3 ?qd4 ?qd5 ?_) | fail)
              case qd2 => rfl
              case qd3 => unfold maxLen; omega
              case qd4 => omega
              case qd5 => have := hbel.size; omega
              intro v' w1 hown' hgrow _
              obtain ⟨g', cp', l', hv, hl', hgood', hown2, hbel2⟩ := tree_step hk hy.out (by omega) HG.out hown hbel hown' hgrow
              clear hown' hgrow HS hfr hc
              have HG' : Hid (Good l') := hgood'
              have HL : Hid (l'.length = l.length + 1) := hl'
              clear hgood' hl'
              rw [hv]
              clear hv
              go_wp2_with fail
              go_roundw
              case rel => exact ⟨g', cp', l', rfl, by have := HL.out; omega, by have := HL.out; omega, by rw [HL.out]; go_num, HG'.out, hown2, hbel2⟩
              case measure => have := HL.out; simp [intOf]; omega
      · obtain ⟨k0, hk0, hm⟩ := cast_mod0 0 l.length (by omega)
        go_wp2_with fail
        clear hm
        obtain ⟨j, hj, hj11⟩ := HG.out.small (by omega)
        have HJ : Hid (l[j] < 11) := hj11
        clear hj11
        go_loop [9] (fun i => ∃ k : Nat, k < l.length ∧ i = .int .i64 k) (fun i => dist l.length (intOf i).toNat j)
        case atStart => first | exact ⟨k0, hk0, rfl⟩ | exact ⟨0, by omega, rfl⟩
        case round =>
          obtain ⟨k, hk, rfl⟩ := hrel
          obtain ⟨y, hc, hy⟩ := hown.cellV hk
          have ⟨hy0, hy1⟩ : 0 ≤ y ∧ y ≤ 11 := by have := HG.out.1 _ (List.getElem_mem hk); rw [hy.out] at this; exact this
          by_cases h11 : 11 ≤ y
          · go_wp2_with fail
            go_round
            case rel => exact ⟨(k + 1) % l.length, Nat.mod_lt _ (by omega), by rw [cast_mod]⟩
            case measure =>
              have hne : k ≠ j := by intro e; subst e; have := HJ.out; have := hy.out; omega
              simp only [intOf]
              rw [cast_mod]
              exact dist_step hk hj hne
          · have hfr := World.ownsRow.frozenAt hown k
            have HS := (World.ownsRow.stored hown k (.int .i64 (y + 1))).1
            go_wp2_with (first | (at_builtin; refine wpList_append_own _ rfl _ _ 22 rfl w.heap.size 3 i0 (.int .i64 0) 1 8 Try.underlying22 hi hz0 hz1 hz2 rfl (by decide) _ _ _ rfl (HS.alloc _) ⟨wr.heap.size, 0, none⟩ 1 1 [.int .i64 (y + 1)] rfl rfl ?qe1 ?qe2 ?qe3 ?qe4 ?qe5 ?_) | fail)
            case qe2 => rfl
            case qe3 => unfold maxLen; omega
            case qe4 => omega
            case qe5 => have := hbel.size; omega
            intro v' w1 hown' hgrow _
            obtain ⟨g', cp', l', hv, hl', hgood', hown2, hbel2⟩ := tree_step hk hy.out (by omega) HG.out hown hbel hown' hgrow
            clear hown' hgrow HS hfr hc
            have HG' : Hid (Good l') := hgood'
            have HL : Hid (l'.length = l.length + 1) := hl'
            clear hgood' hl'
            rw [hv]
            clear hv
            go_wp2_with fail
            go_roundw
            case rel => exact ⟨g', cp', l', rfl, by have := HL.out; omega, by have := HL.out; omega, by rw [HL.out]; go_num, HG'.out, hown2, hbel2⟩
            case measure => have := HL.out; simp [intOf]; omega
    · go_wp2_with fail
      go_ret
      exact ⟨g, cp, l, rfl, by omega, HG.out, hown, hbel⟩
end Go.Proofs.Ytbcjmakpempkiaa
