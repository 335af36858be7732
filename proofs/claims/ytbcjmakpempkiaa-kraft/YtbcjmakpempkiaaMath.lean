/- Plain facts on complete sets of code lengths: the weights of a set, what a split of a leaf does to them, canonical codes as shares of 2048. -/
namespace Go.Proofs.Ytbcjmakpempkiaa

/-- the share of 2048 that a code of this length has -/
def pw (x : Int) : Nat := 2 ^ (11 - x.toNat)
/-- the shares of a list together -/
def wt (l : List Int) : Nat := (l.map pw).sum
def Good (l : List Int) : Prop := (∀ x ∈ l, 0 ≤ x ∧ x ≤ 11) ∧ wt l = 2048

theorem pw_pos (x : Int) : 0 < pw x := Nat.pow_pos (by decide)
theorem pw_split (x : Int) (h0 : 0 ≤ x) (h : x < 11) : pw x = pw (x + 1) + pw (x + 1) := by
  unfold pw
  have e : 11 - x.toNat = (11 - (x + 1).toNat) + 1 := by omega
  rw [e, Nat.pow_succ]; omega
theorem wt_nil : wt [] = 0 := rfl
theorem wt_cons (x : Int) (l : List Int) : wt (x :: l) = pw x + wt l := by simp [wt]
theorem wt_append (l m : List Int) : wt (l ++ m) = wt l + wt m := by simp [wt]
theorem wt_set : ∀ (l : List Int) (k : Nat) (h : k < l.length) (v : Int), wt (l.set k v) + pw l[k] = wt l + pw v
  | x :: l, 0, _, v => by simp [wt_cons]; omega
  | x :: l, k + 1, h, v => by
    have := wt_set l k (by simpa using h) v
    simp only [List.set_cons_succ, wt_cons, List.getElem_cons_succ]; omega
theorem wt_ge (l : List Int) : l.length ≤ wt l := by
  induction l with
  | nil => simp
  | cons x l ih => rw [wt_cons]; have := pw_pos x; simp; omega
theorem wt_eleven (l : List Int) (h : ∀ x ∈ l, x = 11) : wt l = l.length := by
  induction l with
  | nil => rfl
  | cons x l ih =>
    rw [wt_cons, ih (fun y hy => h y (by simp [hy])), h x (by simp)]
    simp [pw]; omega

theorem Good.one : Good [0] := ⟨by simp, by simp [wt, pw]⟩
theorem Good.step {l : List Int} (h : Good l) {k : Nat} (hk : k < l.length) (hx : l[k] < 11) : Good (l.set k (l[k] + 1) ++ [l[k] + 1]) := by
  have ⟨h0, h1⟩ := h.1 l[k] (List.getElem_mem hk)
  refine ⟨fun x hx' => ?_, ?_⟩
  · rcases List.mem_append.1 hx' with h' | h'
    · rcases List.mem_or_eq_of_mem_set h' with h'' | rfl
      · exact h.1 x h''
      · omega
    · simp at h'; omega
  · rw [wt_append]
    have := wt_set l k hk (l[k] + 1)
    have e := pw_split l[k] h0 hx
    have := h.2
    simp [wt] at *
    omega
theorem Good.small {l : List Int} (h : Good l) (hl : l.length < 2048) : ∃ j, ∃ hj : j < l.length, l[j] < 11 := by
  apply Classical.byContradiction
  intro hn
  have : ∀ x ∈ l, x = 11 := fun x hx => by
    obtain ⟨j, hj, rfl⟩ := List.getElem_of_mem hx
    have := (h.1 _ hx).2
    apply Classical.byContradiction
    intro hne
    exact hn ⟨j, hj, by omega⟩
  have := wt_eleven l this
  have := h.2
  omega
theorem wt_mem {l : List Int} {x : Int} (hx : x ∈ l) : pw x + (l.length - 1) ≤ wt l := by
  induction l with
  | nil => simp at hx
  | cons y l ih =>
    rw [wt_cons]
    rcases List.mem_cons.1 hx with rfl | hx
    · have := wt_ge l; simp; omega
    · have := ih hx; have := pw_pos y; simp
      have : 0 < l.length := List.length_pos_of_mem hx
      omega
theorem Good.pos {l : List Int} (h : Good l) (hl : 2 ≤ l.length) : ∀ x ∈ l, 1 ≤ x := fun x hx => by
  have h1 := wt_mem hx
  have h2 := h.2
  have h3 := (h.1 x hx).1
  apply Classical.byContradiction
  intro hn
  have e : x = 0 := by omega
  subst e
  simp [pw] at h1
  omega

/-- how far it is, round the list, from k to j -/
def dist (n k j : Nat) : Nat := if k ≤ j then j - k else j + n - k
theorem dist_step {n k j : Nat} (hk : k < n) (hj : j < n) (hne : k ≠ j) : dist n ((k + 1) % n) j < dist n k j := by
  unfold dist
  by_cases e : k + 1 = n
  · subst e; rw [Nat.mod_self]; split <;> split <;> omega
  · rw [Nat.mod_eq_of_lt (by omega)]; split <;> split <;> omega
theorem cast_mod (k n : Nat) : ((k : Int) + 1) % (n : Int) = (((k + 1) % n : Nat) : Int) := by simp
theorem cast_mod0 (x : Int) (n : Nat) (hn : 0 < n) : ∃ k : Nat, k < n ∧ x % (n : Int) = (k : Int) := by
  refine ⟨(x % (n : Int)).toNat, ?_, ?_⟩
  · have := Int.emod_lt_of_pos x (b := (n : Int)) (by omega)
    have := Int.emod_nonneg x (b := (n : Int)) (by omega)
    omega
  · have := Int.emod_nonneg x (b := (n : Int)) (by omega)
    omega
theorem cast_mod_neg (x : Int) (n : Nat) (hx : x < 0) (hn : 0 < n) : ∃ k : Nat, k < n ∧ (x + 1).tmod (n : Int) = -(k : Int) := by
  obtain ⟨k, hk, e⟩ := cast_mod0 (-(x + 1)) n hn
  refine ⟨k, hk, ?_⟩
  rw [← e, ← Int.tmod_eq_emod_of_nonneg (by omega), Int.neg_tmod, Int.neg_neg]
end Go.Proofs.Ytbcjmakpempkiaa
