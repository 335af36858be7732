/- Contracts of the document's values and Codes; the program's Codes at any slice. -/
import Derived.Test.YtbcjmakpempkiaaGreatDoorMr
import Derived.WalkSpells
import Derived.Deep.DeepCutAuto
namespace Go.Proofs.YtbcjmakpempkiaaGreatDoor
open Go.RowKit

def ivals (l : List Int) : List Value := l.map (Value.int .i64)
def rvals (l : List Int) (k : Nat) : List Int := (List.range k).map (rv l)
theorem rvals_succ (l : List Int) (k : Nat) : ivals (rvals l (k + 1)) = ivals (rvals l k) ++ [.int .i64 (rv l k)] := by simp [ivals, rvals, List.range_succ]
theorem rvals_length (l : List Int) (k : Nat) : (rvals l k).length = k := by simp [rvals]

theorem rv_pos {l : List Int} {k n : Nat} (hk : k < l.length) (h : l[k] = (n : Int)) (h0 : 0 < n) : rv l k = ahd l k l.length / gw n := by
  have e1 : l.getD k 0 = n := by simp [hk, h]
  unfold rv; rw [e1, if_pos (by omega)]; simp
theorem rv_zero {l : List Int} {k : Nat} (hk : k < l.length) (h : l[k] = 0) : rv l k = -1 := by
  have e1 : l.getD k 0 = 0 := by simp [hk, h]
  unfold rv; rw [e1]; simp

theorem own_step {w wr w1 : World} {q : Nat} {e : TypeId} {sz : Nat} {v : Value} {n : Nat} {xs : List Value} {o : Obj} (hbel : Below w.heap.size w wr) (hown : wr.ownsRow w.heap.size e sz v n xs) (hgrow : ((wr.drewN q).alloc o).grownBy w1 v.ownBlock) : Below w.heap.size w w1 := by
  have h1 : Below w.heap.size w (wr.drewN q) := ⟨hbel.os, hbel.tape, hbel.output, hbel.size, hbel.block⟩
  refine (h1.alloc h1.size o).grown hgrow ?_ (fun k hk => (hown.lt k hk).1)
  have := hbel.size
  simp; omega

set_option maxHeartbeats 1000000 in
theorem values_any (ad : Option Addr) (cap : Nat) (l : List Int) (w : World) (hl : l.length ≤ 269) (hc : CellsO w ad l) (hr : inRange l = true) :
    Calls Tryz.prog 120 #[.slice ad l.length cap] w fun e w' => ∃ v, e = .returned v ∧ w'.ownsRow w.heap.size 3 1 v l.length (ivals (rvals l l.length)) ∧ Below w.heap.size w w' := by
  obtain ⟨i0, hi, hz0, hz1, hz2⟩ := info_parts info3
  go_enter Tryz.func120, Tryz.ntmps120
  go_wp2_with fail
  go_loopw [3, 4] (fun v i wr => ∃ k : Nat, k ≤ l.length ∧ i = .int .i64 k ∧ wr.ownsRow w.heap.size 3 1 v k (ivals (rvals l k)) ∧ Below w.heap.size w wr) (fun _ i _ => l.length - (intOf i).toNat)
  case atStart => exact ⟨0, Nat.zero_le _, rfl, World.ownsRow_nil _ _ _ _, Below.refl _ _⟩
  case round =>
    obtain ⟨k, hk, rfl, hown, hbel⟩ := hrel
    by_cases hlt : k < l.length
    · have hcr := hc.below hbel (Nat.le_refl _)
      obtain ⟨b, o, n, rfl, g, hn11, hx⟩ := hcr.atNat hr hlt
      by_cases h0 : 0 < n
      · have HV : Hid (rv l k = ahd l k l.length / gw n) := rv_pos hlt hx.out h0
        have HC : Hid (CellsO wr (some ⟨b, o, none⟩) l) := hcr
        clear hcr
        go_upto_region 8 with (go_at_call 154; refine (code_any _ cap l k n _ hl HC.out hr hlt hx.out).mono ?_; rintro e w' ⟨rfl, q, rfl⟩; rw [← HV.out])
        go_wp2_with (first | (at_builtin; refine wpList_append_own _ rfl _ _ 69 rfl w.heap.size 3 i0 (.int .i64 0) 1 8 Tryz.underlying69 hi hz0 hz1 hz2 rfl (by decide) _ _ _ rfl (World.ownsRow.alloc (w := wr.drewN _) hown _) ⟨wr.heap.size, 0, none⟩ 1 1 [.int .i64 (rv l k)] rfl rfl (cell_one_new _ _ _) (by simp [Value.oneCell']) (by unfold maxLen; omega) (by omega) (by have := hbel.size; simp; omega) ?_) | fail)
        intro v' w1 hown' hgrow _
        have R := own_step hbel hown hgrow
        rw [← rvals_succ] at hown'
        clear hgrow hown
        go_wp2_with fail
        go_roundw
        case rel => exact ⟨k + 1, by omega, by go_num, hown', R⟩
        case measure => simp [intOf]; omega
      · obtain rfl : n = 0 := by omega
        have g0 : wr.cell? ⟨b, o + k, none⟩ = some (.int .i64 0) := g
        have HV : Hid (rv l k = -1) := rv_zero hlt hx.out
        clear g
        go_wp2_with (first | (at_builtin; refine wpList_append_own _ rfl _ _ 69 rfl w.heap.size 3 i0 (.int .i64 0) 1 8 Tryz.underlying69 hi hz0 hz1 hz2 rfl (by decide) _ _ _ rfl (World.ownsRow.alloc hown _) ⟨wr.heap.size, 0, none⟩ 1 1 [.int .i64 (-1)] rfl rfl (cell_one_new _ _ _) (by simp [Value.oneCell']) (by unfold maxLen; omega) (by omega) (by have := hbel.size; simp; omega) ?_) | fail)
        intro v' w1 hown' hgrow _
        have R := own_step (q := 0) hbel hown hgrow
        rw [← HV.out, ← rvals_succ] at hown'
        clear hgrow hown
        go_wp2_with fail
        go_roundw
        case rel => exact ⟨k + 1, by omega, by go_num, hown', R⟩
        case measure => simp [intOf]; omega
    · obtain rfl : k = l.length := by omega
      go_wp2_with fail
      go_ret
      exact ⟨_, rfl, hown, hbel⟩

set_option maxHeartbeats 400000 in
theorem refCodes_far (ad : Option Addr) (n cap : Nat) (w : World) (hn : 269 < n) (hm : n ≤ 9223372036854775807) :
    Calls Tryz.prog 84 #[.slice ad n cap] w fun e w' => e = .returned (.tuple #[.slice none 0 0, .int .i64 10]) ∧ w = w' := by
  go_enter Tryz.func84, Tryz.ntmps84
  go_wp2_with fail
  go_ret2
  exact ⟨rfl, rfl⟩
set_option maxHeartbeats 1000000 in
theorem refCodes_near (ad : Option Addr) (cap : Nat) (l : List Int) (w : World) (hl : l.length ≤ 269) (hc : CellsO w ad l) :
    Calls Tryz.prog 84 #[.slice ad l.length cap] w fun e w' =>
      (accepts l = true ∧ ∃ v, e = .returned (.tuple #[v, .int .i64 0]) ∧ w'.ownsRow w.heap.size 3 1 v l.length (ivals (rvals l l.length)) ∧ Below w.heap.size w w') ∨
      (accepts l = false ∧ e = .returned (.tuple #[.slice none 0 0, .int .i64 10]) ∧ Below w.heap.size w w') := by
  go_enter Tryz.func84, Tryz.ntmps84
  go_wp2_with fail
  go_loop [4] (fun i => ∃ k : Nat, k ≤ l.length ∧ i = .int .i64 k ∧ inRange (l.take k) = true) (fun i => l.length - (intOf i).toNat)
  case atStart => exact ⟨0, Nat.zero_le _, rfl, by simp [inRange]⟩
  case round =>
    obtain ⟨k, hk, rfl, hr⟩ := hrel
    have HR : Hid (inRange (l.take k) = true) := hr
    clear hr
    by_cases hlt : k < l.length
    · obtain ⟨b, o, x, rfl, g, hx⟩ := hc.at hlt
      by_cases h0 : 0 ≤ x
      · by_cases h1 : x ≤ 11
        · go_wp2_with fail
          go_round
          case rel => exact ⟨k + 1, by omega, by go_num, inRange_take_succ hlt HR.out (by rw [hx.out]; simp [okLen]; omega)⟩
          case measure => simp [intOf]; omega
        · have HN : Hid (accepts l = false) := by
            show _ = _
            simp [accepts, inRange_not hlt (show okLen l[k] = false by rw [hx.out]; simp [okLen]; omega)]
          go_wp2_with fail
          go_ret2
          exact Or.inr ⟨HN.out, rfl, Below.refl _ _⟩
      · have HN : Hid (accepts l = false) := by
          show _ = _
          simp [accepts, inRange_not hlt (show okLen l[k] = false by rw [hx.out]; simp [okLen]; omega)]
        go_wp2_with fail
        go_ret2
        exact Or.inr ⟨HN.out, rfl, Below.refl _ _⟩
    · have hr := HR.out
      rw [List.take_of_length_le (by omega)] at hr
      have HO : Hid (okSet l = (sumOf gw l == 2048 || single l)) := (ref_okSet hr).symm
      have HA : Hid (accepts l = okSet l) := by show _ = _; simp [accepts, hl, hr]
      cases h1 : (sumOf gw l == 2048)
      · cases h2 : single l
        · go_wp2_with (first | (go_at_call 118; refine (complete_any ad cap l _ hl hc hr).mono ?_; rw [h1]; rintro e w' ⟨rfl, rfl⟩) | (go_at_call 119; refine (single_any ad cap l _ hl hc hr).mono ?_; rw [h2]; rintro e w' ⟨rfl, rfl⟩))
          go_ret2
          exact Or.inr ⟨by rw [HA.out, HO.out, h1, h2]; rfl, rfl, Below.refl _ _⟩
        · go_wp2_with (first | (go_at_call 118; refine (complete_any ad cap l _ hl hc hr).mono ?_; rw [h1]; rintro e w' ⟨rfl, rfl⟩) | (go_at_call 119; refine (single_any ad cap l _ hl hc hr).mono ?_; rw [h2]; rintro e w' ⟨rfl, rfl⟩))
          refine (values_any ad cap l _ hl hc hr).mono ?_
          rintro e w2 ⟨v, rfl, hv, hb⟩
          go_wp2_with fail
          go_ret2
          exact Or.inl ⟨by rw [HA.out, HO.out, h1, h2]; rfl, v, rfl, hv, hb⟩
      · cases h2 : single l
        all_goals
          go_wp2_with (first | (go_at_call 118; refine (complete_any ad cap l _ hl hc hr).mono ?_; rw [h1]; rintro e w' ⟨rfl, rfl⟩) | (go_at_call 119; refine (single_any ad cap l _ hl hc hr).mono ?_; rw [h2]; rintro e w' ⟨rfl, rfl⟩))
          refine (values_any ad cap l _ hl hc hr).mono ?_
          rintro e w2 ⟨v, rfl, hv, hb⟩
          go_wp2_with fail
          go_ret2
          exact Or.inl ⟨by rw [HA.out, HO.out, h1]; rfl, v, rfl, hv, hb⟩
end Go.Proofs.YtbcjmakpempkiaaGreatDoor
