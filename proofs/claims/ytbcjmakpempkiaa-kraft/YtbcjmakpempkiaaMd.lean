/- Canonical codes as shares of 2048, the third part: which code begins the bits. -/
import Derived.Test.YtbcjmakpempkiaaMc
import Derived.Test.YtbcjmakpempkiaaWg
namespace Go.Proofs.Ytbcjmakpempkiaa
theorem div_iff (b p : Nat) (c : Int) (hp : 0 < p) : (((b / p : Nat) : Int) = c) ↔ (c * p ≤ b ∧ (b : Int) < c * p + p) := by
  have h1 := Nat.div_add_mod b p
  have h2 := Nat.mod_lt b hp
  constructor
  · intro h
    subst h
    have : ((b / p : Nat) : Int) * p = ((p * (b / p) : Nat) : Int) := by rw [Nat.mul_comm]; simp
    rw [this]; omega
  · intro ⟨ha, hb⟩
    have hp' : (0 : Int) < p := by omega
    have e1 : ((p * (b / p) : Nat) : Int) = ((b / p : Nat) : Int) * p := by rw [Nat.mul_comm]; simp
    have hx : ((b / p : Nat) : Int) * p < (c + 1) * p := by rw [Int.add_mul]; omega
    have hy : c * p < (((b / p : Nat) : Int) + 1) * p := by rw [Int.add_mul]; omega
    have := Int.lt_of_mul_lt_mul_right hx (by omega)
    have := Int.lt_of_mul_lt_mul_right hy (by omega)
    omega

theorem hit_iff {l : List Int} {i n bits : Nat} (hi : i < l.length) (hn : 0 < n) (hn2 : n ≤ 11) (h : l[i] = (n : Int)) :
    hit l (codesOf l) bits i = true ↔ (start l i n ≤ bits ∧ (bits : Int) < start l i n + 2 ^ (11 - n)) := by
  have hic : i < (codesOf l).length := by rw [codesOf_length]; exact hi
  have e : (codesOf l)[i] = cdv (fc (cn l)) l i := by
    have := codesOf_getD l i hi
    simpa [hic] using this
  rw [hit_pos hi hic h hn e, beq_iff_eq, div_iff _ _ _ (Nat.pow_pos (by decide))]
  rw [← code_start hi hn hn2 h]
  simp

/-- whatever eleven bits come, just one code begins them -/
theorem one_hit {l : List Int} (hg : Good l) (hl : 2 ≤ l.length) (bits : Nat) (hb : bits < 2048) :
    ∃ i, i < l.length ∧ hit l (codesOf l) bits i = true ∧ ∀ j, j < l.length → hit l (codesOf l) bits j = true → j = i := by
  have hpos : ∀ i, (h : i < l.length) → ∃ n : Nat, 0 < n ∧ n ≤ 11 ∧ l[i] = (n : Int) := fun i h => by
    have a := hg.pos hl l[i] (List.getElem_mem h)
    have b := (hg.1 l[i] (List.getElem_mem h)).2
    exact ⟨l[i].toNat, by omega, by omega, by omega⟩
  have hsh := hg.share hl
  -- the length
  have hL : ∃ n, n < 12 ∧ shr (cn l) n ≤ bits ∧ (bits : Int) < shr (cn l) (n + 1) := by
    have key : ∀ k, k ≤ 12 → (bits : Int) < shr (cn l) k → ∃ n, n < 12 ∧ shr (cn l) n ≤ bits ∧ (bits : Int) < shr (cn l) (n + 1) := by
      intro k
      induction k with
      | zero => intro _ h; simp [shr] at h; omega
      | succ k ih =>
        intro hk h
        by_cases e : (bits : Int) < shr (cn l) k
        · exact ih (by omega) e
        · exact ⟨k, by omega, by omega, h⟩
    exact key 12 (Nat.le_refl _) (by rw [hsh]; omega)
  obtain ⟨n, hn12, hlo, hhi⟩ := hL
  have hn0 : 0 < n := by
    rcases Nat.eq_zero_or_pos n with e | e
    · subst e
      have : cn l 0 = 0 := by
        unfold cn
        have : l.filter (fun x => decide (0 < x) && x == ((0 : Nat) : Int)) = [] := by
          rw [List.filter_eq_nil_iff]; intro x _; simp; omega
        rw [this]; rfl
      simp [shr, this] at hhi hlo; omega
    · exact e
  have hp : 0 < 2 ^ (11 - n) := Nat.pow_pos (n := 11 - n) (show 0 < 2 by decide)
  -- the place
  obtain ⟨d, hd⟩ : ∃ d : Nat, (bits : Int) = shr (cn l) n + d := ⟨(bits - shr (cn l) n).toNat, by omega⟩
  have hq : (((d / 2 ^ (11 - n) : Nat)) : Int) < cn l n := by
    simp only [shr] at hhi
    have h1 : (d : Int) < cn l n * 2 ^ (11 - n) := by omega
    have h2 := Nat.div_mul_le_self d (2 ^ (11 - n))
    have h3 : ((d / 2 ^ (11 - n) : Nat) : Int) * ((2 ^ (11 - n) : Nat) : Int) ≤ (d : Int) := by
      rw [← Int.natCast_mul]; omega
    have h4 : ((d / 2 ^ (11 - n) : Nat) : Int) * ((2 ^ (11 - n) : Nat) : Int) < cn l n * ((2 ^ (11 - n) : Nat) : Int) := by
      refine Int.lt_of_le_of_lt h3 ?_
      simpa using h1
    exact Int.lt_of_mul_lt_mul_right h4 (by omega)
  obtain ⟨i, hi, hli, hci⟩ := nth l n _ (Int.natCast_nonneg _) hq
  have hin : hit l (codesOf l) bits i = true := by
    rw [hit_iff hi hn0 (by omega) hli]
    have := (div_iff d (2 ^ (11 - n)) _ hp).1 rfl
    unfold start
    rw [hci, hd]
    simp only [Int.natCast_pow] at this ⊢
    have e : ((2 : Nat) : Int) = 2 := rfl
    rw [e] at this
    omega
  refine ⟨i, hi, hin, fun j hj hjn => ?_⟩
  obtain ⟨m, hm0, hm11, hlj⟩ := hpos j hj
  rw [hit_iff hi hn0 (by omega) hli] at hin
  rw [hit_iff hj hm0 hm11 hlj] at hjn
  have nn : ∀ j, 0 ≤ cn l j := cn_nonneg l
  have e1 := start_begin l i n
  have e2 := start_end hi hn0 hli
  have e3 := start_begin l j m
  have e4 := start_end hj hm0 hlj
  have hmn : m = n := by
    rcases Nat.lt_trichotomy m n with h | h | h
    · have := shr_mono (cn l) nn (show m + 1 ≤ n from h); omega
    · exact h
    · have := shr_mono (cn l) nn (show n + 1 ≤ m from h); omega
  subst hmn
  have hpI : (0 : Int) < 2 ^ (11 - m) := Int.pow_pos (by decide)
  have hne : ∀ a b, (ha : a < l.length) → l[a] = (m : Int) → a < b → start l a m + 2 ^ (11 - m) ≤ start l b m := by
    intro a b ha hla hab
    have := cn_lt ha hm0 hla hab
    unfold start
    have h := Int.mul_le_mul_of_nonneg_right (show cn (l.take a) m + 1 ≤ cn (l.take b) m by omega) (Int.le_of_lt hpI)
    rw [Int.add_mul] at h
    omega
  rcases Nat.lt_trichotomy j i with h | h | h
  · have := hne j i hj hlj h; omega
  · exact h
  · have := hne i j hi hli h; omega
theorem rd_none {P : Nat → Bool} {n : Nat} (h : ∀ j, j < n → P j = false) : rd P n = (-1, 0) := by
  induction n with
  | zero => rfl
  | succ n ih => rw [rd_no (h n (by omega)), ih (fun j hj => h j (by omega))]
theorem rd_one {P : Nat → Bool} {n i : Nat} (hi : i < n) (hP : P i = true) (h : ∀ j, j < n → P j = true → j = i) : rd P n = ((i : Int), 1) := by
  induction n with
  | zero => omega
  | succ n ih =>
    by_cases e : i = n
    · subst e
      rw [rd_yes hP, rd_none (fun j hj => by
        rw [Bool.eq_false_iff]; intro hc; have := h j (by omega) hc; omega)]
      rfl
    · rw [rd_no (by rw [Bool.eq_false_iff]; intro hc; exact e (h n (by omega) hc).symm)]
      exact ih (by omega) (fun j hj hc => h j (by omega) hc)
end Go.Proofs.Ytbcjmakpempkiaa
