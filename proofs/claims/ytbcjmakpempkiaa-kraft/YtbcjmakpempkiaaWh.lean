/- The walk of Kraft. -/
import Derived.Test.YtbcjmakpempkiaaWi
import Derived.Deep.DeepCutAuto
import Derived.BigQuiet
import Derived.Deep.QuietTactic
namespace Go.Proofs.Ytbcjmakpempkiaa
open Go.RowKit

theorem tree_at (N : Int) (n : Nat) (hN : N = n) (ad : Option Addr) (len cap : Nat) (w : World) (hn : 2 ≤ n) (hn2 : n ≤ 269) (hp : Picks w ad len) :
    Calls Try.prog 4 #[.int .i64 N, .int .i64 11, .slice ad len cap] w fun e w' => ∃ g cap' l, e = .returned (.slice (some ⟨g, 0, none⟩) l.length cap') ∧ l.length = n ∧ Good l ∧ Own w' w.heap.size g cap' l ∧ Below w.heap.size w w' := by
  subst hN; exact tree_any n ad len cap w hn hn2 hp
theorem rowIs_cells {w : World} {g : Nat} {l : List Int} {f : Nat → Int} (h : w.rowIs g 3 l.length (fun i => .int .i64 (f i))) (c : List Int) (hc : c.length = l.length) (hf : ∀ i, i < l.length → c.getD i 0 = f i) : Cells w g 0 c := fun i hi => by
  rw [Nat.zero_add, h.cell (by omega), hf i (by omega)]
theorem reads_at (N : Int) (bits : Nat) (hN : N = bits) (b cap b' cap' : Nat) (l : List Int) (w : World) (hl : l.length ≤ 1000) (hb : bits < 2048) (hc : Cells w b 0 l) (hd : Cells w b' 0 (codesOf l)) (hg : Good l) (hl2 : 2 ≤ l.length) :
    Calls Try.prog 6 #[.slice (some ⟨b, 0, none⟩) l.length cap, .slice (some ⟨b', 0, none⟩) l.length cap', .int .i64 N] w fun e w' =>
      ∃ i : Nat, i < l.length ∧ e = .returned (.tuple #[.int .i64 i, .int .i64 1]) ∧ w = w' := by
  subst hN
  obtain ⟨i, hi, h1, h2⟩ := one_hit hg hl2 bits hb
  have e := rd_one hi h1 h2
  refine (reads_any b 0 cap b' 0 cap' bits l (codesOf l) w hl (codesOf_length l) hb hc hd hg.inRange).mono ?_
  rw [e]
  rintro e w' ⟨rfl, rfl⟩
  exact ⟨i, hi, rfl, rfl⟩

theorem codes_no_at (b cap n : Nat) (l : List Int) (w : World) (hn : l.length = n) (hl : n ≤ 1000) (hc : Cells w b 0 l) (hb : b < w.heap.size) (h : accepts l = false) :
    Calls Try.prog 5 #[.slice (some ⟨b, 0, none⟩) n cap] w fun e w' => e = .returned (.tuple #[.slice none 0 0, .int .i64 10]) ∧ Below w.heap.size w w' := by
  subst hn; exact codes_no b 0 cap l w (by omega) hc hb h
theorem codes_ok_at (b cap n : Nat) (l : List Int) (w : World) (hn : l.length = n) (hc : Cells w b 0 l) (hb : b < w.heap.size) (h : accepts l = true) :
    Calls Try.prog 5 #[.slice (some ⟨b, 0, none⟩) n cap] w fun e w' => ∃ g, e = .returned (.tuple #[.slice (some ⟨g, 0, none⟩) n n, .int .i64 0]) ∧ w.heap.size ≤ g ∧ w'.rowIs g 3 n (fun i => .int .i64 (cdv (fc (cn l)) l i)) ∧ Below w.heap.size w w' := by
  subst hn; exact codes_ok b 0 cap l w hc hb h
/-- what the loop of Kraft meets at symbol k -/
theorem four {w : World} {g g2 : Nat} {l : List Int} (hc : Cells w g 0 l) (hd : Cells w g2 0 (codesOf l)) (hg : Good l) (hl2 : 2 ≤ l.length) {a k : Nat} (ha : a < l.length) (hk : k < l.length) :
    ∃ x y u v : Int, w.cell? ⟨g, k, none⟩ = some (.int .i64 x) ∧ w.cell? ⟨g, a, none⟩ = some (.int .i64 y) ∧ w.cell? ⟨g2, k, none⟩ = some (.int .i64 u) ∧ w.cell? ⟨g2, a, none⟩ = some (.int .i64 v) ∧
      ((x = y ∧ (k : Int) < a ∧ u < v) ∨ (x = y ∧ (a : Int) ≤ k ∧ v ≤ u) ∨ (y < x ∧ v < u) ∨ x < y) := by
  have e : ∀ i, (h : i < l.length) → ∃ n : Nat, 0 < n ∧ n ≤ 11 ∧ l[i] = (n : Int) := fun i h => by
    have a := hg.pos hl2 l[i] (List.getElem_mem h)
    have b := (hg.1 l[i] (List.getElem_mem h)).2
    exact ⟨l[i].toNat, by omega, by omega, by omega⟩
  have cl : ∀ i, (h : i < l.length) → w.cell? ⟨g, i, none⟩ = some (.int .i64 l[i]) := fun i h => by
    have := hc i h; rw [Nat.zero_add] at this; rw [this]; simp [h]
  have cc : ∀ i, (h : i < l.length) → w.cell? ⟨g2, i, none⟩ = some (.int .i64 (cdv (fc (cn l)) l i)) := fun i h => by
    have := hd i (by rw [codesOf_length]; exact h); rw [Nat.zero_add, codesOf_getD l i h] at this; exact this
  obtain ⟨n, hn0, hn1, hn⟩ := e k hk
  obtain ⟨m, hm0, hm1, hm⟩ := e a ha
  refine ⟨_, _, _, _, cl k hk, cl a ha, cc k hk, cc a ha, ?_⟩
  rcases Nat.lt_trichotomy n m with h | h | h
  · right; right; right; omega
  · subst h
    have so := same_order hk ha hn0 hn hm
    by_cases hka : k < a
    · left; exact ⟨by omega, by omega, so.1 hka⟩
    · right; left; exact ⟨by omega, by omega, by have := fun h => hka (so.2 h); omega⟩
  · right; right; left
    exact ⟨by omega, long_order ha hk hm0 hm1 hn1 h hm hn⟩

set_option maxRecDepth 100000 in
set_option maxHeartbeats 4000000 in
theorem kraft_any (a0 a2 : Int) (ad : Option Addr) (len cap : Nat) (w : World) (h00 : -9223372036854775808 ≤ a0) (h01 : a0 ≤ 9223372036854775807) (h20 : -9223372036854775808 ≤ a2) (h21 : a2 ≤ 9223372036854775807) (hp : Picks w ad len) :
    Calls Try.prog 3 #[.int .i64 a0, .slice ad len cap, .int .i64 a2] w fun e w' => e = .returned (.bool true) ∧ Below w.heap.size w w' := by
  have HP : Hid (Picks w ad len) := hp
  clear hp
  go_enter Try.func3, Try.ntmps3
  go_upto_if 23 with fail
  go_cut [0] (fun s wx => ∃ n : Nat, s = .int .i64 n ∧ n ≤ 9223372036854775807 ∧ w = wx)
  case first =>
    by_cases hneg : a0 < 0
    · go_wp2_with fail
      go_meet
      exact ⟨(-(a0 + 1)).toNat, by rw [Int.toNat_of_nonneg (by omega)], by omega, rfl⟩
    · go_wp2_with fail
      go_meet
      exact ⟨a0.toNat, by rw [Int.toNat_of_nonneg (by omega)], by omega, rfl⟩
  case rest =>
  obtain ⟨n, rfl, hn, rfl⟩ := hcut
  go_wp2_with fail
  refine (tree_at _ (2 + n % 268) (by simp) _ _ _ _ (by omega) (by omega) HP.out).mono ?_
  rintro e w1 ⟨g, cp, l, rfl, hlen, hgood, hown, hb1⟩
  have hl2 : 2 ≤ l.length := by omega
  have hl269 : l.length ≤ 269 := by omega
  clear hlen
  have HG : Hid (Good l) := hgood
  have HO : Hid (Own w1 w.heap.size g cp l) := hown
  have hgs : g < w1.heap.size := (hown.lt g rfl).2
  have hgb : w.heap.size ≤ g := (hown.lt g rfl).1
  clear hgood hown
  go_wp2_with fail
  refine (codes_ok g 0 cp l _ HO.out.cells hgs (HG.out.accepts hl2 hl269)).mono ?_
  rintro e w2 ⟨g2, rfl, hg2, hrow, hb2⟩
  have HL2 : Hid (Cells w2 g 0 l) := HO.out.cells.below hb2 hgs
  have HC2 : Hid (Cells w2 g2 0 (codesOf l)) := rowIs_cells hrow _ (codesOf_length l) (codesOf_getD l)
  have hb2' := grow2 hb1 hb2
  clear hrow HO
  go_upto_if 47 with fail
  go_cut [2] (fun s wx => ∃ n : Nat, s = .int .i64 n ∧ n ≤ 9223372036854775807 ∧ w2 = wx)
  case first =>
    by_cases hneg : a2 < 0
    · go_wp2_with fail
      go_meet
      exact ⟨(-(a2 + 1)).toNat, by rw [Int.toNat_of_nonneg (by omega)], by omega, rfl⟩
    · go_wp2_with fail
      go_meet
      exact ⟨a2.toNat, by rw [Int.toNat_of_nonneg (by omega)], by omega, rfl⟩
  case rest =>
  obtain ⟨bits, rfl, hbits, rfl⟩ := hcut
  go_wp2_with fail
  refine (reads_at _ (bits % 2048) (by simp) _ _ _ _ _ _ (by omega) (by omega) HL2.out HC2.out HG.out hl2).mono ?_
  rintro e w' ⟨at_, hat, rfl, rfl⟩
  go_wp2_with fail
  go_loopw [12] (fun i wr => ∃ k q : Nat, k ≤ l.length ∧ i = .int .i64 k ∧ wr = w2.drewN q) (fun i _ => l.length - (intOf i).toNat)
  case atStart => exact ⟨0, 0, Nat.zero_le _, rfl, rfl⟩
  case round =>
    obtain ⟨k, q, hk, rfl, rfl⟩ := hrel
    by_cases hlt : k < l.length
    · obtain ⟨x, y, u, v, c1, c2, c3, c4, hc⟩ := four HL2.out HC2.out HG.out hl2 hat hlt
      rcases hc with ⟨rfl, hka, huv⟩ | ⟨rfl, hka, huv⟩ | ⟨hxy, huv⟩ | hxy
      · skip
        go_wp2_with fail
        go_quiet (fail)
        go_wp2_with fail
        go_quiet (fail)
        go_wp2_with fail
        go_roundw
        case rel => exact ⟨k + 1, _, by omega, by go_num, rfl⟩
        case measure => simp [intOf]; omega
      · have hd1 : decide ((k : Int) < at_) = false := by simp; omega
        have hd2 : decide (u < v) = false := by simp; omega
        go_wp2_with fail
        go_quiet (fail)
        go_wp2_with fail
        go_quiet (fail)
        go_wp2_with fail
        go_roundw
        case rel => exact ⟨k + 1, _, by omega, by go_num, rfl⟩
        case measure => simp [intOf]; omega
      · have hd : (x == y) = false := by simp; omega
        have hd2 : decide (u ≤ v) = false := by simp; omega
        go_wp2_with fail
        go_quiet (fail)
        go_wp2_with fail
        go_quiet (fail)
        go_wp2_with fail
        go_roundw
        case rel => exact ⟨k + 1, _, by omega, by go_num, rfl⟩
        case measure => simp [intOf]; omega
      · have hd : (x == y) = false := by simp; omega
        have hd2 : decide (y < x) = false := by simp; omega
        go_wp2_with fail
        go_quiet (fail)
        go_wp2_with fail
        go_quiet (fail)
        go_wp2_with fail
        go_roundw
        case rel => exact ⟨k + 1, _, by omega, by go_num, rfl⟩
        case measure => simp [intOf]; omega
    · obtain ⟨i0, hi, hz0, hz1, hz2⟩ := info_parts info3
      obtain ⟨W, hW⟩ : ∃ W, W = w2.drewN q := ⟨_, rfl⟩
      have HL3 : Hid (Cells W g 0 l) := by rw [hW]; exact HL2.out
      have hbW : Below w.heap.size w W := by rw [hW]; exact drewN_below hb2' q
      have hgW : g < W.heap.size := by rw [hW]; exact Nat.lt_of_lt_of_le hgs hb2.size
      rw [← hW]
      clear hW
      -- less
      go_upto_region 20 with (first | (at_builtin; refine wpList_append_own _ rfl _ _ 22 rfl W.heap.size 3 i0 (.int .i64 0) 1 8 Try.underlying22 hi hz0 hz1 hz2 rfl (by decide) (.slice none 0 0) 0 [] rfl (World.ownsRow_nil _ _ _ _) ⟨g, 0, none⟩ l.length cp (l.map (Value.int .i64)) rfl (by simp) (news_of HL3.out) (ones_of l) (by unfold maxLen; omega) (by omega) (Nat.le_refl _) ?_; intro v' w3 ho3 hgr3 _) | fail)
      obtain ⟨g3, c3, hv3, hg3, hg3s, hO3, hb3⟩ := clone_of (l := l) (by omega) (by simpa using ho3) hgr3
      rw [hv3]
      clear hv3 ho3 hgr3
      have c30 := hO3.cell hat
      have f30 := World.ownsRow.frozenAt hO3 at_
      go_upto_region 21 with fail
      obtain ⟨W3, hW3⟩ : ∃ W3, W3 = w3.setCell ⟨g3, at_, none⟩ (.int .i64 0) := ⟨_, rfl⟩
      have HLess : Hid (Cells W3 g3 0 (l.set at_ 0)) := by rw [hW3]; exact put_of hO3 0
      have HL4 : Hid (Cells W3 g 0 l) := by rw [hW3]; exact keep_of (HL3.out.below hb3 hgW) (by omega) _
      have hbW3 : Below w.heap.size w W3 := by rw [hW3]; exact (hbW.trans (hb3.mono hbW.size)).setCell (by have := hbW.size; simp; omega) _
      have hgW3 : g < W3.heap.size ∧ g3 < W3.heap.size := by rw [hW3]; have := hb3.size; simp; omega
      rw [← hW3]
      clear hW3 c30 f30 hO3 hb3 HL3 hg3 hg3s
      -- more
      go_upto_region 22 with (first | (at_builtin; refine wpList_append_own _ rfl (.const (.slice none 0 0)) (.tmp 120) 22 rfl W3.heap.size 3 i0 (.int .i64 0) 1 8 Try.underlying22 hi hz0 hz1 hz2 rfl (by decide) (.slice none 0 0) 0 [] rfl (World.ownsRow_nil _ _ _ _) ⟨g, 0, none⟩ l.length cp (l.map (Value.int .i64)) rfl (by simp) (news_of HL4.out) (ones_of l) (by unfold maxLen; omega) (by omega) (Nat.le_refl _) ?_; intro v4 w4 ho4 hgr4 _; obtain ⟨g4, c4, hv4, hg4, hg4s, hO4, hb4⟩ := clone_of (l := l) (by omega) (by simpa using ho4) hgr4; rw [hv4]; clear hv4 ho4 hgr4) | (at_builtin; refine wpList_append_own _ rfl (.tmp 121) (.tmp 122) 22 rfl W3.heap.size 3 i0 (.int .i64 0) 1 8 Try.underlying22 hi hz0 hz1 hz2 rfl (by decide) (.slice (some ⟨g4, 0, none⟩) l.length c4) l.length (l.map (Value.int .i64)) rfl (World.ownsRow.alloc hO4 _) ⟨w4.heap.size, 0, none⟩ 1 1 [.int .i64 11] rfl rfl (cell_one_new _ _ _) (by simp [Value.oneCell']) (by unfold maxLen; omega) (by omega) (by have := hb4.size; simp; omega) ?_; intro v5 w5 ho5 hgr5 _) | fail)
      obtain ⟨g5, c5, hv5, hg5, hg5s, hC5, hb5⟩ := snoc_of (W := W3) (B := W3.heap.size) (Nat.le_refl _) hO4 hb4.size hb4 ho5 hgr5 hg4
      rw [hv5]
      clear hv5 ho5 hgr5 hO4 hb4 hg4 hg4s
      have HL5 : Hid (Cells w5 g 0 l) := HL4.out.below hb5 hgW3.1
      have HLess5 : Hid (Cells w5 g3 0 (l.set at_ 0)) := HLess.out.below hb5 hgW3.2
      have HMore : Hid (Cells w5 g5 0 (l ++ [11])) := hC5
      have hbW5 := grow2 hbW3 hb5
      have hs5 : g < w5.heap.size ∧ g3 < w5.heap.size := by have := hb5.size; omega
      clear hC5 HL4 HLess hb5 hgW3
      -- wrong
      go_upto_region 23 with (first | (at_builtin; refine wpList_append_own _ rfl (.const (.slice none 0 0)) (.tmp 124) 22 rfl w5.heap.size 3 i0 (.int .i64 0) 1 8 Try.underlying22 hi hz0 hz1 hz2 rfl (by decide) (.slice none 0 0) 0 [] rfl (World.ownsRow_nil _ _ _ _) ⟨g, 0, none⟩ l.length cp (l.map (Value.int .i64)) rfl (by simp) (news_of HL5.out) (ones_of l) (by unfold maxLen; omega) (by omega) (Nat.le_refl _) ?_; intro v6 w6 ho6 hgr6 _) | fail)
      obtain ⟨g6, c6, hv6, hg6, hg6s, hO6, hb6⟩ := clone_of (l := l) (by omega) (by simpa using ho6) hgr6
      rw [hv6]
      clear hv6 ho6 hgr6
      have c60 := hO6.cell hat
      have f60 := World.ownsRow.frozenAt hO6 at_
      go_wp2_with fail
      obtain ⟨W6, hW6⟩ : ∃ W6, W6 = w6.setCell ⟨g6, at_, none⟩ (.int .i64 12) := ⟨_, rfl⟩
      have HWrong : Hid (Cells W6 g6 0 (l.set at_ 12)) := by rw [hW6]; exact put_of hO6 12
      have HMore6 : Hid (Cells W6 g5 0 (l ++ [11])) := by rw [hW6]; exact keep_of (HMore.out.below hb6 hg5s) (by omega) _
      have HLess6 : Hid (Cells W6 g3 0 (l.set at_ 0)) := by rw [hW6]; exact keep_of (HLess5.out.below hb6 hs5.2) (by omega) _
      have hbW6 : Below w.heap.size w W6 := by rw [hW6]; exact (hbW5.trans (hb6.mono hbW5.size)).setCell (by have := hbW5.size; simp; omega) _
      have hs6 : g3 < W6.heap.size ∧ g5 < W6.heap.size ∧ g6 < W6.heap.size := by rw [hW6]; have := hb6.size; simp; omega
      rw [← hW6]
      clear hW6 c60 f60 hO6 hb6 HL5 hg6 hg6s
      refine (codes_no_at g5 c5 (l.length + 1) (l ++ [11]) _ (by simp) (by omega) HMore6.out hs6.2.1 (HG.out.more hl2)).mono ?_
      rintro e w7 ⟨rfl, hb7⟩
      have HWrong7 : Hid (Cells w7 g6 0 (l.set at_ 12)) := HWrong.out.below hb7 hs6.2.2
      have HLess7 : Hid (Cells w7 g3 0 (l.set at_ 0)) := HLess6.out.below hb7 hs6.1
      have hbW7 := grow2 hbW6 hb7
      have hs7 : g3 < w7.heap.size ∧ g6 < w7.heap.size := by have := hb7.size; omega
      clear HMore HMore6 HWrong HLess5 HLess6
      go_wp2_with fail
      refine (codes_no_at g6 c6 l.length (l.set at_ 12) _ (by simp) (by omega) HWrong7.out hs7.2 (Good.wrong hat)).mono ?_
      rintro e w8 ⟨rfl, hb8⟩
      have HLess8 : Hid (Cells w8 g3 0 (l.set at_ 0)) := HLess7.out.below hb8 hs7.1
      have hbW8 := grow2 hbW7 hb8
      have hs8 : g3 < w8.heap.size := by have := hb8.size; omega
      have hne := neNil
      have heq := eqNil
      go_wp2_with fail
      by_cases h2 : l.length = 2
      · have t2 : ((l.length : Int) == 2) = true := by rw [h2]; rfl
        have hl2' : (2 : Int) ≤ l.length := by omega
        have H2 : Hid (l.length = 2) := h2
        have hat2 : at_ < 2 := by omega
        clear h2
        refine (codes_ok_at g3 c3 l.length (l.set at_ 0) _ (by simp) HLess8.out hs8 (two_less HG.out H2.out hat2).1).mono ?_
        rintro e w9 ⟨gz, rfl, hgz, hrow, hb9⟩
        have hbW9 := grow2 hbW8 hb9
        have z1 := hrow.cell hat
        have z2 := hrow.cell (i := 1 - at_) (by omega)
        rw [(two_less HG.out H2.out hat2).2.1] at z1
        rw [(two_less HG.out H2.out hat2).2.2] at z2
        clear hrow
        go_wp2_with fail
        go_ret
        exact ⟨rfl, hbW9⟩
      · have t2 : ((l.length : Int) == 2) = false := by simp; omega
        have hl3 : 3 ≤ l.length := by omega
        clear h2
        refine (codes_no_at g3 c3 l.length (l.set at_ 0) _ (by simp) (by omega) HLess8.out hs8 (HG.out.less hl3 hat)).mono ?_
        rintro e w9 ⟨rfl, hb9⟩
        have hbW9 := grow2 hbW8 hb9
        go_wp2_with fail
        go_ret
        exact ⟨rfl, hbW9⟩
end Go.Proofs.Ytbcjmakpempkiaa
