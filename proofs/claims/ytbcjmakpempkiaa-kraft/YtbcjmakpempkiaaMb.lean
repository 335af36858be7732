/- Canonical codes as shares of 2048: of a complete set whatever eleven bits come, just one code begins them; lesser symbols have lesser codes, and so have shorter ones. -/
import Derived.Test.YtbcjmakpempkiaaMath
import Derived.Test.YtbcjmakpempkiaaWe
namespace Go.Proofs.Ytbcjmakpempkiaa

/-! sums over lengths against sums over symbols -/
def sumTo (f g : Nat → Int) : Nat → Int
  | 0 => 0
  | k + 1 => sumTo f g k + f k * g k
def sumOf (g : Nat → Int) (l : List Int) : Int := (l.map fun x => if 0 < x then g x.toNat else 0).sum
theorem shr_sumTo (f : Nat → Int) (k : Nat) : shr f k = sumTo f (fun j => 2 ^ (11 - j)) k := by
  induction k with
  | zero => rfl
  | succ k ih => simp [shr, sumTo, ih]
theorem cn_cons (x : Int) (l : List Int) (j : Nat) : cn (x :: l) j = (if 0 < x ∧ x = j then 1 else 0) + cn l j := by
  unfold cn
  by_cases h : 0 < x ∧ x = (j : Int)
  · have : (decide (0 < x) && x == (j : Int)) = true := by simp [h.2]; omega
    rw [if_pos h, List.filter_cons, this]; simp; omega
  · have : (decide (0 < x) && x == (j : Int)) = false := by
      rw [Bool.eq_false_iff]; intro h'; simp at h'; exact h ⟨h'.1, h'.2⟩
    rw [if_neg h, List.filter_cons, this]; simp
theorem sumTo_zero (g : Nat → Int) (k : Nat) : sumTo (cn []) g k = 0 := by
  induction k with
  | zero => rfl
  | succ k ih => simp [sumTo, ih, cn_nil]
theorem sumTo_cons (x : Int) (l : List Int) (g : Nat → Int) (k : Nat) : sumTo (cn (x :: l)) g k = (if 0 < x ∧ x.toNat < k then g x.toNat else 0) + sumTo (cn l) g k := by
  induction k with
  | zero => simp [sumTo]
  | succ k ih =>
    simp only [sumTo, ih, cn_cons]
    by_cases h : 0 < x ∧ x = (k : Int)
    · have e : x.toNat = k := by omega
      rw [if_neg (by omega), if_pos h, if_pos (by omega), e, Int.add_mul]; omega
    · rw [if_neg h]
      by_cases h2 : 0 < x ∧ x.toNat < k
      · rw [if_pos h2, if_pos (by omega)]; simp; omega
      · rw [if_neg h2, if_neg (by omega)]; simp
theorem sumTo_cn (g : Nat → Int) (l : List Int) (hr : inRange l = true) : sumTo (cn l) g 12 = sumOf g l := by
  induction l with
  | nil => simp [sumTo_zero, sumOf]
  | cons x l ih =>
    simp [inRange, okLen] at hr
    have hr' : inRange l = true := by simp [inRange, okLen]; exact hr.2
    rw [sumTo_cons, ih hr']
    simp only [sumOf, List.map_cons, List.sum_cons]
    by_cases h : 0 < x
    · rw [if_pos h, if_pos ⟨h, by omega⟩]
    · rw [if_neg h, if_neg (by omega)]
theorem shr_cn (l : List Int) (hr : inRange l = true) : shr (cn l) 12 = sumOf (fun j => 2 ^ (11 - j)) l := by rw [shr_sumTo, sumTo_cn _ _ hr]

theorem inRange_iff (l : List Int) : inRange l = true ↔ ∀ x ∈ l, 0 ≤ x ∧ x ≤ 11 := by simp [inRange, okLen]
theorem wt_sumOf (l : List Int) (h : ∀ x ∈ l, 1 ≤ x) : sumOf (fun j => 2 ^ (11 - j)) l = wt l := by
  induction l with
  | nil => rfl
  | cons x l ih =>
    have ih' := ih (fun y hy => h y (by simp [hy]))
    have hx := h x (by simp)
    simp only [sumOf, List.map_cons, List.sum_cons] at *
    rw [if_pos (by omega), ih', wt_cons, pw]
    simp
theorem sumOf_append (g : Nat → Int) (l m : List Int) : sumOf g (l ++ m) = sumOf g l + sumOf g m := by simp [sumOf]
theorem sumOf_set (g : Nat → Int) : ∀ (l : List Int) (k : Nat) (h : k < l.length) (v : Int), sumOf g (l.set k v) = sumOf g l - (if 0 < l[k] then g l[k].toNat else 0) + (if 0 < v then g v.toNat else 0)
  | x :: l, 0, _, v => by simp [sumOf]; omega
  | x :: l, k + 1, h, v => by
    have := sumOf_set g l k (by simpa using h) v
    simp only [sumOf, List.set_cons_succ, List.map_cons, List.sum_cons, List.getElem_cons_succ] at *
    omega

theorem Good.inRange {l : List Int} (h : Good l) : inRange l = true := (inRange_iff l).2 h.1
theorem Good.share {l : List Int} (h : Good l) (hl : 2 ≤ l.length) : shr (cn l) 12 = 2048 := by
  rw [shr_cn l h.inRange, wt_sumOf l (h.pos hl), h.2]; rfl
theorem Good.accepts {l : List Int} (h : Good l) (hl : 2 ≤ l.length) (hl2 : l.length ≤ 269) : accepts l = true := by
  simp [Ytbcjmakpempkiaa.accepts, okSet, h.inRange, h.share hl, hl2]

theorem isOne_iff (f : Nat → Int) : isOne f = true ↔ ∀ j, j < 12 → f j = one j := by simp [isOne]
theorem isOne_sum {f : Nat → Int} (h : isOne f = true) (g : Nat → Int) : sumTo f g 12 = g 1 := by
  have k := (isOne_iff f).1 h
  simp [sumTo, k 0, k 1, k 2, k 3, k 4, k 5, k 6, k 7, k 8, k 9, k 10, k 11, one]

theorem isOne_of {l : List Int} (hr : Ytbcjmakpempkiaa.inRange l = true) (h : isOne (cn l) = true) (g : Nat → Int) : sumOf g l = g 1 := by rw [← sumTo_cn g l hr, isOne_sum h g]
theorem accepts_false {l : List Int} (hr : Ytbcjmakpempkiaa.inRange l = true) (h1 : sumOf (fun j => 2 ^ (11 - j)) l ≠ 2048) (g : Nat → Int) (h2 : sumOf g l ≠ g 1) : accepts l = false := by
  have a : (shr (cn l) 12 == 2048) = false := by rw [shr_cn l hr]; simpa using h1
  have b : isOne (cn l) = false := by
    rw [Bool.eq_false_iff]; intro h; exact h2 (isOne_of hr h g)
  simp [Ytbcjmakpempkiaa.accepts, okSet, a, b]
/-- one code more is refused -/
theorem Good.more {l : List Int} (h : Good l) (hl : 2 ≤ l.length) : Ytbcjmakpempkiaa.accepts (l ++ [11]) = false := by
  have e : sumOf (fun j => 2 ^ (11 - j)) (l ++ [11]) = 2049 := by
    rw [sumOf_append, wt_sumOf l (h.pos hl), h.2]; rfl
  refine accepts_false ((inRange_iff _).2 fun x hx => ?_) (by rw [e]; decide) (fun j => 2 ^ (11 - j)) (by rw [e]; decide)
  rcases List.mem_append.1 hx with hx | hx
  · exact h.1 x hx
  · simp at hx; omega
/-- a length beyond is refused -/
theorem Good.wrong {l : List Int} {k : Nat} (hk : k < l.length) : Ytbcjmakpempkiaa.accepts (l.set k 12) = false := by
  have : Ytbcjmakpempkiaa.inRange (l.set k 12) = false := by
    rw [Bool.eq_false_iff]; intro h
    have := (inRange_iff _).1 h 12 (List.mem_of_getElem (i := k) (h := by simpa using hk) (by simp))
    omega
  simp [Ytbcjmakpempkiaa.accepts, this]
theorem sumOf_one (l : List Int) (h : ∀ x ∈ l, 1 ≤ x) : sumOf (fun _ => 1) l = l.length := by
  induction l with
  | nil => rfl
  | cons x l ih =>
    have ih' := ih (fun y hy => h y (by simp [hy]))
    have hx := h x (by simp)
    simp only [sumOf, List.map_cons, List.sum_cons] at *
    rw [if_pos (by omega), ih']; simp; omega
theorem less_range {l : List Int} (h : Good l) (k : Nat) : Ytbcjmakpempkiaa.inRange (l.set k 0) = true :=
  (inRange_iff _).2 fun x hx => by
    rcases List.mem_or_eq_of_mem_set hx with hx | rfl
    · exact h.1 x hx
    · omega
/-- one code less is refused, but for a single one -/
theorem Good.less {l : List Int} (h : Good l) (hl : 3 ≤ l.length) {k : Nat} (hk : k < l.length) : Ytbcjmakpempkiaa.accepts (l.set k 0) = false := by
  have hp := h.pos (by omega) l[k] (List.getElem_mem hk)
  refine accepts_false (less_range h k) ?_ (fun _ => 1) ?_
  · rw [sumOf_set _ l k hk, wt_sumOf l (h.pos (by omega)), h.2, if_pos (by omega)]
    have : (0 : Int) < 2 ^ (11 - l[k].toNat) := Int.pow_pos (by decide)
    simp; omega
  · rw [sumOf_set _ l k hk, sumOf_one l (h.pos (by omega)), if_pos (by omega)]
    simp; omega
end Go.Proofs.Ytbcjmakpempkiaa
