/- How what a script has made goes on: parts of new blocks, a mark, a list more. -/
import Derived.Test.YtbcjmakpempkiaaGreatDoorLb
namespace Go.Proofs.YtbcjmakpempkiaaGreatDoor
open Go.RowKit

/-- a part that nothing has is given to a block -/
def setρ (ρ : Nat → Nat) (g x : Nat) : Nat → Nat := fun k => if k = g then x else ρ k
theorem setρ_at (ρ : Nat → Nat) (g x : Nat) : setρ ρ g x g = x := if_pos rfl
theorem setρ_ne {ρ : Nat → Nat} {g x k : Nat} (h : k ≠ g) : setρ ρ g x k = ρ k := if_neg h
theorem own_lt {w : World} {B : Nat} {e : TypeId} {sz : Nat} {v : Value} {n : Nat} {xs : List Value} (h : w.ownsRow B e sz v n xs) {g : Nat} (hg : v.ownBlock = some g) : g < w.heap.size := (h.lt g hg).2
/-- the parts may turn where no list of the script lies -/
theorem Inv.turn {B gW d : Nat} {ρ ρ' : Nat → Nat} {s : LawSt} {w : World} (h : Inv B gW d ρ s w) (hρ : ∀ k, k < w.heap.size → (ρ k ≤ 5 ∨ 10 + d ≤ ρ k) → ρ' k = ρ k) : Inv B gW d ρ' s w :=
  { h with
    rW := by rw [hρ gW h.row.lt (by rw [h.rW]; omega)]; exact h.rW
    rl := fun g hg => by have := h.rl g hg; rw [hρ g (own_lt h.len hg) (by omega)]; exact this
    rwv := fun g hg => by have := h.rwv g hg; rw [hρ g (own_lt h.wts hg) (by omega)]; exact this
    rr := fun g hg => by have := h.rr g hg; rw [hρ g (own_lt h.wrs hg) (by omega)]; exact this
    rb := fun g hg => by have := h.rb g hg; rw [hρ g (own_lt h.bks hg) (by omega)]; exact this
    rwt := fun i hi hd g hg => by have := h.rwt i hi hd g hg; rw [hρ g (own_lt (h.wt i hi hd).1 hg) (by omega)]; exact this
    rwr := fun v hv g hg => by
      have := h.rwr v hv g hg
      obtain ⟨i, hi, rfl⟩ := List.getElem_of_mem hv
      rw [hρ g (own_lt (h.wr i hi (by have := h.lenw; omega)) hg) (by omega)]; exact this
    rbk := fun b hb v hv g hg => by
      have := h.rbk b hb v hv g hg
      obtain ⟨n, hn⟩ := (h.bk b hb).2 v hv
      rw [hρ g (own_lt hn hg) (by omega)]; exact this
    rst := fun x hx => by have := h.rst x hx; rw [hρ x.1 (stl_lt (h.stl x hx)) (by omega)]; exact this }
theorem Inv.fresh {B gW d : Nat} {ρ : Nat → Nat} {s : LawSt} {w : World} (h : Inv B gW d ρ s w) {g x : Nat} (hg : w.heap.size ≤ g) : Inv B gW d (setρ ρ g x) s w :=
  h.turn fun k hk _ => setρ_ne (by omega)
theorem Inv.free {B gW d : Nat} {ρ : Nat → Nat} {s : LawSt} {w : World} (h : Inv B gW d ρ s w) {g x : Nat} (hg : 5 < ρ g ∧ ρ g < 10 + d) : Inv B gW d (setρ ρ g x) s w :=
  h.turn fun k _ hk => setρ_ne (fun e => by subst e; omega)
/-- another number of marks; lists that are written into wait no longer -/
theorem Inv.marked {B gW d d' : Nat} {ρ : Nat → Nat} {s : LawSt} {w w' : World} {R : Nat → Prop} {m : Nat} (h : Inv B gW d ρ s w) (hk : Kp R ρ w w') (hR : ∀ r, R r → 5 ≤ r ∧ r < 10 + d') (hd : d ≤ d') (hrow : w'.rowIs gW 75 9 (fld { s with mks := m })) (hm : m ≤ 1000000000) : Inv B gW d' ρ { s with mks := m } w' where
  gB := h.gB
  hB := Nat.le_trans h.hB hk.size
  row := hrow
  len := own_kp h.len hk (fun g hg hr => by have := h.rl g hg; have := hR _ hr; omega)
  wts := own_kp h.wts hk (fun g hg hr => by have := h.rwv g hg; have := hR _ hr; omega)
  wrs := own_kp h.wrs hk (fun g hg hr => by have := h.rr g hg; have := hR _ hr; omega)
  bks := own_kp h.bks hk (fun g hg hr => by have := h.rb g hg; have := hR _ hr; omega)
  lenw := h.lenw
  wt := fun i hi hd' => ⟨own_kp (h.wt i hi (by omega)).1 hk (fun g hg hr => by have := h.rwt i hi (by omega) g hg; have := hR _ hr; omega), (h.wt i hi (by omega)).2⟩
  wr := fun i hi hi' => own_kp (h.wr i hi hi') hk (fun g hg hr => by have := h.rwr _ (List.getElem_mem hi) g hg; have := hR _ hr; omega)
  bk := fun b hb => ⟨(h.bk b hb).1, fun v hv => by
    obtain ⟨n, hn⟩ := (h.bk b hb).2 v hv
    exact ⟨n, own_kp hn hk (fun g hg hr => by have := h.rbk b hb v hv g hg; have := hR _ hr; omega)⟩⟩
  rW := h.rW
  rl := h.rl
  rwv := h.rwv
  rr := h.rr
  rb := h.rb
  rwt := fun i hi hd' => h.rwt i hi (by omega)
  rwr := h.rwr
  rbk := h.rbk
  mkB := hm
  lnB := h.lnB
  lnN := h.lnN
  wlB := h.wlB
  stl := fun x hx => stl_kp (h.stl x hx) hk (fun hr => by have := h.rst x hx; have := hR _ hr; omega)
  rst := h.rst

theorem fld_set_books (s : LawSt) (v : Value) (bs : List (Int × List Value)) (i : Nat) (hi : i < 9) : (if i = 7 then v else fld s i) = fld { s with vb := v, books := bs } i := by
  have : i = 0 ∨ i = 1 ∨ i = 2 ∨ i = 3 ∨ i = 4 ∨ i = 5 ∨ i = 6 ∨ i = 7 ∨ i = 8 := by omega
  rcases this with rfl | rfl | rfl | rfl | rfl | rfl | rfl | rfl | rfl <;> simp [fld]
/-- one book more -/
theorem Inv.addBook {B gW d : Nat} {ρ : Nat → Nat} {s : LawSt} {w w1 : World} {o : Obj} {gg cap : Nat} {b : Int × List Value} (h : Inv B gW d ρ s w)
    (hgrow : (w.alloc o).drew.grownBy w1 s.vb.ownBlock) (hown : w1.ownsRow B 143 5 (.slice (some ⟨gg, 0, none⟩) (s.books.length + 1) cap) (s.books.length + 1) (s.books.flatMap bookCells ++ bookCells b))
    (hat : s.vb.ownBlock = some gg ∨ gg = w.heap.size + 1)
    (hb4 : b.2.length = 4) (hb : ∀ v ∈ b.2, ∃ n, OI w B v (List.replicate n b.1)) (hbρ : ∀ v ∈ b.2, ∀ g, v.ownBlock = some g → ρ g = 0) :
    Inv B gW d (setρ ρ gg 4) { s with vb := .slice (some ⟨gg, 0, none⟩) (s.books.length + 1) cap, books := s.books ++ [b] } (w1.setCell ⟨gW, 7, none⟩ (.slice (some ⟨gg, 0, none⟩) (s.books.length + 1) cap)) ∧
      Kp (fun r => r = 4 ∨ r = 5) ρ w (w1.setCell ⟨gW, 7, none⟩ (.slice (some ⟨gg, 0, none⟩) (s.books.length + 1) cap)) ∧
      Below B w (w1.setCell ⟨gW, 7, none⟩ (.slice (some ⟨gg, 0, none⟩) (s.books.length + 1) cap)) := by
  have k1 : Kp (fun r => r = 4) ρ w w1 := by
    have a : Kp (fun r => r = 4) ρ w (w.alloc o).drew := Kp.of_below (((Below.refl _ _).alloc (Nat.le_refl _) o).drew)
    exact a.trans (Kp.of_grown hgrow (fun g hg => h.rb g hg))
  have k2 : Kp (fun r => r = 4 ∨ r = 5) ρ w (w1.setCell ⟨gW, 7, none⟩ (.slice (some ⟨gg, 0, none⟩) (s.books.length + 1) cap)) :=
    (k1.mono (fun _ x => Or.inl x)).trans (Kp.of_set w1 _ _ (Or.inr h.rW))
  have hgn : gg ≠ gW := by
    rcases hat with e | e
    · intro e'; have := h.rb gg e; rw [e', h.rW] at this; omega
    · have := h.row.lt; omega
  have hρ : ∀ k, k < w.heap.size → setρ ρ gg 4 k = ρ k := fun k hk => by
    by_cases e : k = gg
    · subst e
      rcases hat with e | e
      · rw [setρ_at, h.rb _ e]
      · omega
    · exact setρ_ne e
  have h' := h.turn (ρ' := setρ ρ gg 4) (fun k hk _ => hρ k hk)
  have kk : Kp (fun r => r = 4 ∨ r = 5) (setρ ρ gg 4) w (w1.setCell ⟨gW, 7, none⟩ (.slice (some ⟨gg, 0, none⟩) (s.books.length + 1) cap)) := k2.congr (fun k hk => by rw [hρ k hk]; exact fun x => x)
  refine ⟨?_, k2, ?_⟩
  · exact {
      gB := h.gB
      hB := Nat.le_trans h.hB kk.size
      row := ((row_kp h.row k1 (by rw [h.rW]; omega)).set 7 _).congr (fun i hi => fld_set_books s _ _ i hi)
      len := own_kp h'.len kk (fun g hg hr => by have := h'.rl g hg; omega)
      wts := own_kp h'.wts kk (fun g hg hr => by have := h'.rwv g hg; omega)
      wrs := own_kp h'.wrs kk (fun g hg hr => by have := h'.rr g hg; omega)
      bks := by
        have e : ({ s with vb := .slice (some ⟨gg, 0, none⟩) (s.books.length + 1) cap, books := s.books ++ [b] } : LawSt).books.flatMap bookCells = s.books.flatMap bookCells ++ bookCells b := by simp
        rw [e]
        simp only [List.length_append, List.length_cons, List.length_nil, Nat.zero_add]
        exact own_kp (R := fun k => k = gW) (ρ := fun k => k) hown ⟨by simp [World.setCell], fun k _ hk => Below.heap_setCell _ _ _ _ hk⟩ (fun g hg => by simp [Value.ownBlock] at hg; omega)
      lenw := h.lenw
      wt := fun i hi hd => ⟨own_kp (h'.wt i hi hd).1 kk (fun g hg hr => by have := h'.rwt i hi hd g hg; omega), (h'.wt i hi hd).2⟩
      wr := fun i hi hi' => own_kp (h'.wr i hi hi') kk (fun g hg hr => by have := h'.rwr _ (List.getElem_mem hi) g hg; omega)
      bk := fun x hx => by
        rcases List.mem_append.1 hx with hx | hx
        · exact ⟨(h'.bk x hx).1, fun v hv => by
            obtain ⟨n, hn⟩ := (h'.bk x hx).2 v hv
            exact ⟨n, own_kp hn kk (fun g hg hr => by have := h'.rbk x hx v hv g hg; omega)⟩⟩
        · simp only [List.mem_singleton] at hx
          subst hx
          exact ⟨hb4, fun v hv => by
            obtain ⟨n, hn⟩ := hb v hv
            exact ⟨n, own_kp hn k2 (fun g hg hr => by have := hbρ v hv g hg; omega)⟩⟩
      rW := h'.rW
      rl := h'.rl
      rwv := h'.rwv
      rr := h'.rr
      rb := fun g hg => by simp [Value.ownBlock] at hg; subst hg; exact setρ_at _ _ _
      rwt := h'.rwt
      rwr := h'.rwr
      rbk := fun x hx v hv g hg => by
        rcases List.mem_append.1 hx with hx | hx
        · exact h'.rbk x hx v hv g hg
        · simp only [List.mem_singleton] at hx
          subst hx
          obtain ⟨n, hn⟩ := hb v hv
          rw [hρ g (own_lt hn hg)]
          exact hbρ v hv g hg
      mkB := h.mkB
      lnB := h.lnB
      lnN := h.lnN
      wlB := h.wlB
      stl := fun x hx => stl_kp (h'.stl x hx) kk (fun hr => by have := h'.rst x hx; omega)
      rst := h'.rst }
  · have a : Below B w (w.alloc o).drew := ((Below.refl _ _).alloc h.hB o).drew
    refine (a.grown hgrow (by have := h.hB; simp; omega) (fun g hg => (h.bks.lt g hg).1)).setCell h.gB _
end Go.Proofs.YtbcjmakpempkiaaGreatDoor
