/- The document's codes and those by first codes are the same. -/
import Derived.Test.YtbcjmakpempkiaaGreatDoorRb
namespace Go.Proofs.YtbcjmakpempkiaaGreatDoor

theorem sumTo_snoc (l : List Int) (x : Int) (g : Nat → Int) (k : Nat) : sumTo (cn (l ++ [x])) g k = sumTo (cn l) g k + (if 0 < x ∧ x.toNat < k then g x.toNat else 0) := by
  induction k with
  | zero => simp [sumTo]
  | succ k ih =>
    simp only [sumTo, ih, cn_snoc]
    by_cases h : 0 < x ∧ x = (k : Int)
    · have e : x.toNat = k := by omega
      rw [if_neg (by omega), if_pos h, if_pos (by omega), e, Int.add_mul]; omega
    · rw [if_neg h]
      by_cases h2 : 0 < x ∧ x.toNat < k
      · rw [if_pos h2, if_pos (by omega)]; simp; omega
      · rw [if_neg h2, if_neg (by omega)]; simp
theorem shr_gw (f : Nat → Int) (k : Nat) : shr f k = sumTo f gw k := by rw [shr_sumTo, gw_eq]

/-- what comes ahead, counted by lengths -/
theorem ahd_start {l : List Int} (hr : inRange l = true) {s m : Nat} (hs : s < l.length) (hm : l[s] = (m : Int)) (k : Nat) (hk : k ≤ l.length) :
    ahd l s k = shr (cn (l.take k)) m + (if 0 < m then cn (l.take (min k s)) m * gw m else 0) := by
  induction k with
  | zero => simp [ahd, shr_gw, sumTo_zero, cn_nil]
  | succ k ih =>
    have hk' : k < l.length := by omega
    obtain ⟨n, hn11, hn⟩ := nat_of_range hr hk'
    have e1 : l.getD k 0 = n := by simp [hk', hn]
    have e2 : l.getD s 0 = m := by simp [hs, hm]
    simp only [ahd]
    rw [ih (by omega), e1, e2, shr_gw, shr_gw, List.take_succ_eq_append_getElem hk', sumTo_snoc, hn]
    have e3 : (n : Int).toNat = n := by simp
    rw [e3]
    by_cases hm0 : 0 < m
    · rw [if_pos hm0, if_pos hm0]
      by_cases hks : k < s
      · have hmin : min (k + 1) s = min k s + 1 := by omega
        have hmk : min k s = k := by omega
        rw [hmin, hmk, cn_take_succ hk', hn]
        by_cases c1 : 0 < n ∧ n < m
        · rw [if_pos (by omega), if_pos (by omega), if_neg (by omega)]; simp; omega
        · by_cases c2 : 0 < n ∧ n = m
          · rw [if_pos (by omega), if_neg (by omega), if_pos (by omega), c2.2, Int.add_mul]; omega
          · rw [if_neg (by omega), if_neg (by omega), if_neg (by omega)]; simp
      · have hmin : min (k + 1) s = min k s := by omega
        rw [hmin]
        by_cases c1 : 0 < n ∧ n < m
        · rw [if_pos (by omega), if_pos (by omega)]; omega
        · rw [if_neg (by omega), if_neg (by omega)]; omega
    · have : m = 0 := by omega
      subst this
      rw [if_neg hm0, if_neg hm0, if_neg (by omega), if_neg (by omega)]
theorem gw_int (m : Nat) : gw m = 2 ^ (11 - m) := by simp [gw]
theorem gw_pos (m : Nat) : 0 < gw m := by have := pow2_le (11 - m) (by omega); unfold gw; omega
/-- the document's code of a symbol that has one -/
theorem ref_code {l : List Int} (hr : inRange l = true) {s m : Nat} (hs : s < l.length) (hm : l[s] = (m : Int)) (hm0 : 0 < m) : ahd l s l.length / gw m = cdv (fc (cn l)) l s := by
  have hm11 : m ≤ 11 := by obtain ⟨n, h1, h2⟩ := nat_of_range hr hs; omega
  have h := ahd_start hr hs hm l.length (Nat.le_refl _)
  rw [List.take_length, if_pos hm0, show min l.length s = s by omega] at h
  have h2 := code_start hs hm0 hm11 hm
  unfold start at h2
  rw [h, gw_int, ← h2, Int.mul_ediv_cancel]
  have := gw_pos m
  rw [gw_int] at this
  omega
/-- the document's code, or -1 -/
def rv (l : List Int) (i : Nat) : Int := if 0 < l.getD i 0 then ahd l i l.length / gw (l.getD i 0).toNat else -1
theorem rv_eq {l : List Int} (hr : inRange l = true) {i : Nat} (hi : i < l.length) : rv l i = cdv (fc (cn l)) l i := by
  obtain ⟨n, hn11, hn⟩ := nat_of_range hr hi
  have e1 : l.getD i 0 = n := by simp [hi, hn]
  unfold rv
  rw [e1]
  by_cases h0 : 0 < n
  · rw [if_pos (by omega)]
    have := ref_code hr hi hn h0
    simpa using this
  · have : n = 0 := by omega
    subst this
    rw [if_neg (by omega), cdv_zero hi (by simpa using hn)]

theorem cn_sumOf (l : List Int) (j : Nat) (hj : 0 < j) : cn l j = sumOf (fun i => if i = j then 1 else 0) l := by
  induction l with
  | nil => rfl
  | cons x l ih =>
    rw [cn_cons, ih]
    simp only [sumOf, List.map_cons, List.sum_cons]
    by_cases h : 0 < x
    · rw [if_pos h]
      by_cases h2 : x = (j : Int)
      · rw [if_pos ⟨h, h2⟩, if_pos (by omega)]
      · rw [if_neg (by omega), if_neg (by omega)]
    · rw [if_neg h, if_neg (by omega)]
theorem cn_zero (l : List Int) : cn l 0 = 0 := by
  unfold cn
  have : l.filter (fun x => decide (0 < x) && x == ((0 : Nat) : Int)) = [] := by
    rw [List.filter_eq_nil_iff]; intro x _; simp; omega
  rw [this]; rfl
theorem sumOf_none (l : List Int) (h : sumOf (fun _ => 1) l = 0) (g : Nat → Int) : sumOf g l = 0 := by
  induction l with
  | nil => rfl
  | cons x l ih =>
    have hle := sumOf_le (fun _ => 1) 1 (fun _ => by decide) (by decide) l
    simp only [sumOf, List.map_cons, List.sum_cons] at *
    by_cases hx : 0 < x
    · rw [if_pos hx] at h; omega
    · rw [if_neg hx] at h ⊢; rw [ih (by omega)]; rfl
theorem sumOf_only (l : List Int) (h : sumOf (fun _ => 1) l = 1) : ∃ n : Nat, ∀ g : Nat → Int, sumOf g l = g n := by
  induction l with
  | nil => simp [sumOf] at h
  | cons x l ih =>
    have hc : ∀ g, sumOf g (x :: l) = (if 0 < x then g x.toNat else 0) + sumOf g l := fun g => by simp [sumOf]
    rw [hc] at h
    by_cases hx : 0 < x
    · rw [if_pos hx] at h
      have h0 := sumOf_none l (by omega)
      exact ⟨x.toNat, fun g => by rw [hc, if_pos hx, h0]; omega⟩
    · rw [if_neg hx] at h
      obtain ⟨n, hn⟩ := ih (by omega)
      exact ⟨n, fun g => by rw [hc, if_neg hx, hn]; omega⟩
theorem gw_1024 {n : Nat} (h : gw n = 1024) : n = 1 := by
  apply Classical.byContradiction
  intro hn
  rcases Nat.lt_or_ge n 1 with h1 | h1
  · have : n = 0 := by omega
    subst this; revert h; decide
  · have : 11 - n ≤ 9 := by omega
    have := Nat.pow_le_pow_right (n := 2) (by decide) this
    unfold gw at h; omega
theorem single_isOne {l : List Int} (hr : inRange l = true) : single l = isOne (cn l) := by
  cases h : isOne (cn l)
  · rw [Bool.eq_false_iff]
    intro hs
    simp only [single, Bool.and_eq_true, beq_iff_eq] at hs
    obtain ⟨n, hn⟩ := sumOf_only l hs.1
    have h1 := gw_1024 (by rw [← hn gw]; exact hs.2)
    subst h1
    rw [Bool.eq_false_iff] at h
    apply h
    rw [isOne_iff]
    intro j hj
    rcases Nat.eq_zero_or_pos j with e | e
    · subst e; rw [cn_zero]; rfl
    · rw [cn_sumOf l j e, hn]
      unfold one
      by_cases e1 : j = 1
      · subst e1; rfl
      · rw [if_neg (by omega), if_neg e1]
  · have a := isOne_of hr h (fun _ => 1)
    have b := isOne_of hr h gw
    simp [single, a, b]; decide
/-- what the document accepts is what the program accepts -/
theorem ref_okSet {l : List Int} (hr : inRange l = true) : (sumOf gw l == 2048 || single l) = okSet l := by
  rw [okSet, single_isOne hr, shr_cn l hr, gw_eq]
end Go.Proofs.YtbcjmakpempkiaaGreatDoor
