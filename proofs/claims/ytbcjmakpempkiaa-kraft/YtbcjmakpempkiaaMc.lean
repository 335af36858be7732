/- Canonical codes as shares of 2048, the second part: which code begins the bits; the order of the codes. -/
import Derived.Test.YtbcjmakpempkiaaMb
namespace Go.Proofs.Ytbcjmakpempkiaa

/-- the codes that assignCodes gives -/
def codesOf (l : List Int) : List Int := (List.range l.length).map (cdv (fc (cn l)) l)
theorem codesOf_length (l : List Int) : (codesOf l).length = l.length := by simp [codesOf]
theorem codesOf_getD (l : List Int) (i : Nat) (h : i < l.length) : (codesOf l).getD i 0 = cdv (fc (cn l)) l i := by simp [codesOf, h]

theorem fc_shr (f : Nat → Int) (k : Nat) (hk : k ≤ 11) : fc f k * 2 ^ (11 - k) = shr f k := by
  induction k with
  | zero => simp [fc, shr]
  | succ k ih =>
    have e : (2 : Int) ^ (11 - k) = 2 * 2 ^ (11 - (k + 1)) := by
      rw [show 11 - k = (11 - (k + 1)) + 1 from by omega, Int.pow_succ]; omega
    have ih' := ih (by omega)
    simp only [fc, shr]
    rw [← ih', e, Int.mul_assoc, Int.add_mul]
theorem shr_mono (f : Nat → Int) (hf : ∀ j, 0 ≤ f j) {a b : Nat} (h : a ≤ b) : shr f a ≤ shr f b := by
  induction b with
  | zero => have : a = 0 := by omega
            subst this; exact Int.le_refl _
  | succ b ih =>
    by_cases e : a = b + 1
    · subst e; exact Int.le_refl _
    · have := ih (by omega)
      have h1 : 0 ≤ f b * 2 ^ (11 - b) := Int.mul_nonneg (hf b) (Int.le_of_lt (Int.pow_pos (by decide)))
      simp only [shr]; omega
theorem cn_mono (l : List Int) (j : Nat) {a b : Nat} (h : a ≤ b) : cn (l.take a) j ≤ cn (l.take b) j := by
  induction b with
  | zero => have : a = 0 := by omega
            subst this; exact Int.le_refl _
  | succ b ih =>
    by_cases e : a = b + 1
    · subst e; exact Int.le_refl _
    · have := ih (by omega)
      by_cases hb : b < l.length
      · rw [cn_take_succ hb]; split <;> omega
      · rw [List.take_of_length_le (i := b + 1) (by omega)]; rw [List.take_of_length_le (i := b) (by omega)] at this; exact this
theorem cn_lt {l : List Int} {i : Nat} (hi : i < l.length) {n : Nat} (hn : 0 < n) (h : l[i] = (n : Int)) {b : Nat} (hb : i < b) : cn (l.take i) n < cn (l.take b) n := by
  have h1 := cn_mono l n (show i + 1 ≤ b from hb)
  rw [cn_take_succ hi, if_pos ⟨by omega, h⟩] at h1
  omega
theorem cn_full {l : List Int} {i : Nat} (hi : i < l.length) {n : Nat} (hn : 0 < n) (h : l[i] = (n : Int)) : cn (l.take i) n + 1 ≤ cn l n := by
  have := cn_lt hi hn h hi
  rw [List.take_length] at this
  omega
/-- the q-th symbol of a length -/
theorem nth (l : List Int) (n : Nat) (q : Int) (h0 : 0 ≤ q) (h1 : q < cn l n) : ∃ i, ∃ h : i < l.length, l[i] = (n : Int) ∧ cn (l.take i) n = q := by
  have key : ∀ k, k ≤ l.length → q < cn (l.take k) n → ∃ i, ∃ h : i < l.length, l[i] = (n : Int) ∧ cn (l.take i) n = q := by
    intro k
    induction k with
    | zero => intro _ h; simp [cn_nil] at h; omega
    | succ k ih =>
      intro hk h
      rw [cn_take_succ (by omega)] at h
      by_cases e : 0 < l[k] ∧ l[k] = (n : Int)
      · rw [if_pos e] at h
        by_cases e2 : q < cn (l.take k) n
        · exact ih (by omega) e2
        · exact ⟨k, by omega, e.2, by omega⟩
      · rw [if_neg e] at h
        exact ih (by omega) (by omega)
  exact key l.length (Nat.le_refl _) (by rw [List.take_length]; exact h1)

/-- where the share of symbol i begins -/
def start (l : List Int) (i n : Nat) : Int := shr (cn l) n + cn (l.take i) n * 2 ^ (11 - n)
theorem code_start {l : List Int} {i n : Nat} (hi : i < l.length) (hn : 0 < n) (hn2 : n ≤ 11) (h : l[i] = (n : Int)) : cdv (fc (cn l)) l i * 2 ^ (11 - n) = start l i n := by
  rw [cdv_pos hi h hn, Int.add_mul, fc_shr _ _ hn2]; rfl
theorem start_end {l : List Int} {i n : Nat} (hi : i < l.length) (hn : 0 < n) (h : l[i] = (n : Int)) : start l i n + 2 ^ (11 - n) ≤ shr (cn l) (n + 1) := by
  have := cn_full hi hn h
  simp only [shr, start]
  have hp : (0 : Int) < 2 ^ (11 - n) := Int.pow_pos (by decide)
  have := Int.mul_le_mul_of_nonneg_right this (Int.le_of_lt hp)
  rw [Int.add_mul] at this
  omega
theorem start_begin (l : List Int) (i n : Nat) : shr (cn l) n ≤ start l i n := by
  have := Int.mul_nonneg (cn_nonneg (l.take i) n) (Int.le_of_lt (Int.pow_pos (n := 2) (m := 11 - n) (by decide)))
  unfold start; omega

/-- of one length the lesser symbol has the lesser code -/
theorem same_order {l : List Int} {i j n : Nat} (hi : i < l.length) (hj : j < l.length) (hn : 0 < n) (h : l[i] = (n : Int)) (h' : l[j] = (n : Int)) : (i < j) ↔ (cdv (fc (cn l)) l i < cdv (fc (cn l)) l j) := by
  rw [cdv_pos hi h hn, cdv_pos hj h' hn]
  rcases Nat.lt_trichotomy i j with e | e | e
  · have := cn_lt hi hn h e; omega
  · subst e; omega
  · have := cn_lt hj hn h' e; omega
/-- a longer code is greater -/
theorem long_order {l : List Int} {i j n m : Nat} (hi : i < l.length) (hj : j < l.length) (hn : 0 < n) (hn2 : n ≤ 11) (hm2 : m ≤ 11) (hnm : n < m) (h : l[i] = (n : Int)) (h' : l[j] = (m : Int)) : cdv (fc (cn l)) l i < cdv (fc (cn l)) l j := by
  have c1 := code_start hi hn hn2 h
  have c2 := code_start hj (by omega) hm2 h'
  have e1 := start_end hi hn h
  have e2 := start_begin l j m
  have e3 := shr_mono (cn l) (cn_nonneg l) (show n + 1 ≤ m from hnm)
  have hp : (0 : Int) < 2 ^ (11 - m) := Int.pow_pos (by decide)
  have hle : (2 : Int) ^ (11 - m) ≤ 2 ^ (11 - n) := (by have := Nat.pow_le_pow_right (n := 2) (by decide) (show 11 - m ≤ 11 - n by omega); exact_mod_cast this)
  have h0 : 0 ≤ cdv (fc (cn l)) l i := by
    have a := Int.le_trans (shr_mono (cn l) (cn_nonneg l) (Nat.zero_le n)) (start_begin l i n)
    simp only [shr] at a
    rw [← c1] at a
    apply Classical.byContradiction
    intro hc
    have := Int.mul_neg_of_neg_of_pos (show cdv (fc (cn l)) l i < 0 by omega) (Int.pow_pos (n := 2) (m := 11 - n) (by decide))
    omega
  have h1 : (cdv (fc (cn l)) l i + 1) * 2 ^ (11 - m) ≤ cdv (fc (cn l)) l j * 2 ^ (11 - m) := by
    rw [c2]
    refine Int.le_trans (Int.mul_le_mul_of_nonneg_left hle (by omega)) ?_
    rw [Int.add_mul, c1]; omega
  have := Int.le_of_mul_le_mul_right h1 hp
  omega
end Go.Proofs.Ytbcjmakpempkiaa
