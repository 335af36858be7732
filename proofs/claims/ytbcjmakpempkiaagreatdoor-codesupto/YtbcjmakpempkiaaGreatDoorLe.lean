/- The contract of keep: a list that came out waits, a copy of it beside. -/
import Derived.Test.YtbcjmakpempkiaaGreatDoorLd
namespace Go.Proofs.YtbcjmakpempkiaaGreatDoor
open Go.RowKit
theorem info_ints : (Tryz.prog.info? 69).map (fun i => (i.zero, i.size, i.bytes)) = some (some (.slice none 0 0), 1, 24) := by kernel_rfl
theorem own_new {w w' : World} {B : Nat} {e : TypeId} {sz : Nat} {v : Value} {n : Nat} {xs : List Value} (h : w.ownsRow B e sz v n xs) (hg : w.grownBy w' none) : w'.ownsRow B e sz v n xs := by
  refine h.kept hg ?_
  cases hv : v.ownBlock with
  | none => exact Or.inl rfl
  | some x => exact Or.inr (by simp)
theorem oi_news {w : World} {B g cap : Nat} {l : List Int} (h : OI w B (.slice (some ⟨g, 0, none⟩) l.length cap) l) : ∀ (j : Nat) (u : Value), (ivals l)[j]? = some u → w.cell? ((⟨g, 0, none⟩ : Addr).add j) = some u := by
  intro j u hu
  have hj : j < l.length := by
    rcases Nat.lt_or_ge j l.length with h' | h'
    · exact h'
    · simp [ivals, h'] at hu
  have hadd : (⟨g, 0, none⟩ : Addr).add j = ⟨g, j, none⟩ := by unfold Addr.add; split <;> simp_all
  rw [hadd, World.ownsRow.cellAt h j (by omega), hu]
theorem fld_set_waits (s : LawSt) (v : Value) (ws : List (Value × List Int)) (i : Nat) (hi : i < 9) : (if i = 5 then v else fld s i) = fld { s with vw := v, waits := ws } i := by
  have : i = 0 ∨ i = 1 ∨ i = 2 ∨ i = 3 ∨ i = 4 ∨ i = 5 ∨ i = 6 ∨ i = 7 ∨ i = 8 := by omega
  rcases this with rfl | rfl | rfl | rfl | rfl | rfl | rfl | rfl | rfl <;> simp [fld]
theorem fld_set_weres (s : LawSt) (v : Value) (ws : List Value) (i : Nat) (hi : i < 9) : (if i = 6 then v else fld s i) = fld { s with vr := v, weres := ws } i := by
  have : i = 0 ∨ i = 1 ∨ i = 2 ∨ i = 3 ∨ i = 4 ∨ i = 5 ∨ i = 6 ∨ i = 7 ∨ i = 8 := by omega
  rcases this with rfl | rfl | rfl | rfl | rfl | rfl | rfl | rfl | rfl <;> simp [fld]
/-- the first half of keep -/
theorem keep_first {B gW d : Nat} {ρ : Nat → Nat} {s : LawSt} {w w1 : World} {o : Obj} {g1 p1 : Nat} {v : Value} {l : List Int} (h : Inv B gW d ρ s w)
    (hgrow : (w.alloc o).grownBy w1 s.vw.ownBlock) (hown : w1.ownsRow B 69 1 (.slice (some ⟨g1, 0, none⟩) (s.waits.length + 1) p1) (s.waits.length + 1) (s.waits.map (·.1) ++ [v])) (hat : s.vw.ownBlock = some g1 ∨ g1 = w.heap.size + 1) :
    Kp (fun r => r = 2 ∨ r = 5) ρ w (w1.setCell ⟨gW, 5, none⟩ (.slice (some ⟨g1, 0, none⟩) (s.waits.length + 1) p1)) ∧ Below B w (w1.setCell ⟨gW, 5, none⟩ (.slice (some ⟨g1, 0, none⟩) (s.waits.length + 1) p1)) ∧
      (w1.setCell ⟨gW, 5, none⟩ (.slice (some ⟨g1, 0, none⟩) (s.waits.length + 1) p1)).ownsRow B 69 1 (.slice (some ⟨g1, 0, none⟩) (s.waits.length + 1) p1) (s.waits.length + 1) (s.waits.map (·.1) ++ [v]) ∧
      (w1.setCell ⟨gW, 5, none⟩ (.slice (some ⟨g1, 0, none⟩) (s.waits.length + 1) p1)).rowIs gW 75 9 (fld { s with vw := .slice (some ⟨g1, 0, none⟩) (s.waits.length + 1) p1, waits := s.waits ++ [(v, l)] }) := by
  have k1 : Kp (fun r => r = 2) ρ w w1 := by
    have a : Kp (fun r => r = 2) ρ w (w.alloc o) := Kp.of_below ((Below.refl _ _).alloc (Nat.le_refl _) o)
    exact a.trans (Kp.of_grown hgrow (fun g hg => h.rwv g hg))
  have hgn : g1 ≠ gW := by
    rcases hat with e | e
    · intro e'; have := h.rwv g1 e; rw [e', h.rW] at this; omega
    · have := h.row.lt; omega
  refine ⟨(k1.mono (fun _ x => Or.inl x)).trans (Kp.of_set w1 _ _ (Or.inr h.rW)), ?_, ?_, ?_⟩
  · have a : Below B w (w.alloc o) := (Below.refl _ _).alloc h.hB o
    refine (a.grown hgrow (by have := h.hB; simp; omega) (fun g hg => (h.wts.lt g hg).1)).setCell h.gB _
  · exact own_kp (R := fun k => k = gW) (ρ := fun k => k) hown ⟨by simp [World.setCell], fun k _ hk => Below.heap_setCell _ _ _ _ hk⟩ (fun g hg => by simp [Value.ownBlock] at hg; omega)
  · exact ((row_kp h.row k1 (by rw [h.rW]; omega)).set 5 _).congr (fun i hi => fld_set_waits s _ _ i hi)
theorem keep_done {B gW : Nat} {ρ : Nat → Nat} {s : LawSt} {w W1 w2 w3 : World} {o3 : Obj} {g g1 p1 g2 g3 p3 : Nat} {l : List Int} {v u : Value} (h : Inv B gW 0 ρ s w)
    (hO : OI w B v l) (hti : tight v) (hl2 : l.length ≤ 269) (hvg : ∀ x, v.ownBlock = some x → x = g) (hρ : g < w.heap.size → 5 < ρ g ∧ ρ g < 10) (hgf : g < w.heap.size ∨ w3.heap.size + 1 ≤ g)
    (hk1 : Kp (fun r => r = 2 ∨ r = 5) ρ w W1) (hb1 : Below B w W1)
    (hw1 : W1.ownsRow B 69 1 (.slice (some ⟨g1, 0, none⟩) (s.waits.length + 1) p1) (s.waits.length + 1) (s.waits.map (·.1) ++ [v]))
    (hrow1 : W1.rowIs gW 75 9 (fld { s with vw := .slice (some ⟨g1, 0, none⟩) (s.waits.length + 1) p1, waits := s.waits ++ [(v, l)] }))
    (hat1 : s.vw.ownBlock = some g1 ∨ g1 = w.heap.size + 1) (hlt1 : g1 < W1.heap.size)
    (hgrow2 : W1.drew.grownBy w2 none) (hown2 : w2.ownsRow B 3 1 u l.length (ivals l)) (hug : ∀ x, u.ownBlock = some x → x = g2) (hg2 : g2 = W1.heap.size)
    (hgrow3 : (w2.alloc o3).grownBy w3 s.vr.ownBlock) (hown3 : w3.ownsRow B 69 1 (.slice (some ⟨g3, 0, none⟩) (s.weres.length + 1) p3) (s.weres.length + 1) (s.weres ++ [u])) (hat3 : s.vr.ownBlock = some g3 ∨ g3 = w2.heap.size + 1) :
    Below B w (w3.setCell ⟨gW, 6, none⟩ (.slice (some ⟨g3, 0, none⟩) (s.weres.length + 1) p3)) ∧ ∃ (ρ' : Nat → Nat) (vw vr u : Value), Inv B gW 0 ρ' { s with vw := vw, waits := s.waits ++ [(v, l)], vr := vr, weres := s.weres ++ [u] } (w3.setCell ⟨gW, 6, none⟩ (.slice (some ⟨g3, 0, none⟩) (s.weres.length + 1) p3)) ∧ Kp (fun r => r = 2 ∨ r = 3 ∨ r = 5) ρ w (w3.setCell ⟨gW, 6, none⟩ (.slice (some ⟨g3, 0, none⟩) (s.weres.length + 1) p3)) ∧ (∀ k, k < w.heap.size → k ≠ g → ρ' k = ρ k) := by
  have hs1 := hk1.size
  have hs2 : W1.heap.size ≤ w2.heap.size := hgrow2.size
  have hs3 : w2.heap.size + 1 ≤ w3.heap.size := by have := hgrow3.size; simpa using this
  have hgWw := h.row.lt
  -- blocks of W1 other than vr's row are as they were
  have hmid : ∀ k, k < W1.heap.size → s.vr.ownBlock ≠ some k → w3.heap[k]? = W1.heap[k]? := fun k hk hne => by
    rw [hgrow3.block k (by simp; omega) (Ne.symm hne), Below.heap_alloc w2 o3 k (by omega)]
    exact hgrow2.block k hk (by simp)
  have hvr : ∀ x, s.vr.ownBlock = some x → ρ x = 3 ∧ x < w.heap.size := fun x hx => ⟨h.rr x hx, own_lt h.wrs hx⟩
  have hgg1 : g1 ≠ gW := by
    rcases hat1 with e | e
    · intro e'; have := h.rwv g1 e; rw [e', h.rW] at this; omega
    · omega
  have hgg3 : g3 ≠ gW := by
    rcases hat3 with e | e
    · intro e'; have := h.rr g3 e; rw [e', h.rW] at this; omega
    · omega
  have kk : Kp (fun r => r = 2 ∨ r = 3 ∨ r = 5) ρ w (w3.setCell ⟨gW, 6, none⟩ (.slice (some ⟨g3, 0, none⟩) (s.weres.length + 1) p3)) := by
    refine ⟨by simp [World.setCell]; omega, fun k hk hr => ?_⟩
    have e1 : k ≠ gW := fun e => hr (by rw [e, h.rW]; omega)
    rw [Below.heap_setCell _ _ _ _ e1, hmid k (by omega) (fun e => hr (by have := (hvr k e).1; omega))]
    exact hk1.block k hk (fun x => hr (by omega))
  -- the parts
  obtain ⟨ρ', hρ'⟩ : ∃ ρ', ρ' = setρ (setρ (setρ (setρ ρ g (10 + s.waits.length)) g1 2) g2 0) g3 3 := ⟨_, rfl⟩
  have hold : ∀ k, k < w.heap.size → k ≠ g → ρ' k = ρ k := fun k hk hkg => by
    rw [hρ']
    by_cases e3 : k = g3
    · subst e3; rw [setρ_at]; rcases hat3 with e | e
      · rw [h.rr _ e]
      · omega
    · rw [setρ_ne e3, setρ_ne (show k ≠ g2 by omega)]
      by_cases e1 : k = g1
      · subst e1; rw [setρ_at]; rcases hat1 with e | e
        · rw [h.rwv _ e]
        · omega
      · rw [setρ_ne e1, setρ_ne hkg]
  have hg13 : g3 ≠ g1 := by
    rcases hat3 with e | e
    · rcases hat1 with e' | e'
      · intro x; have := h.rr g3 e; have := h.rwv g1 e'; rw [← x] at this; omega
      · have := (hvr g3 e).2; omega
    · omega
  have rg3 : ρ' g3 = 3 := by rw [hρ', setρ_at]
  have hg23 : g2 ≠ g3 := by
    rcases hat3 with e | e
    · have := (hvr g3 e).2; omega
    · omega
  have rg2 : ρ' g2 = 0 := by rw [hρ', setρ_ne hg23, setρ_at]
  have rg1 : ρ' g1 = 2 := by rw [hρ', setρ_ne (Ne.symm hg13), setρ_ne (show g1 ≠ g2 by omega), setρ_at]
  have hgne1 : g ≠ g1 := by
    rcases hat1 with e | e
    · have hx := own_lt h.wts e
      intro x; have := h.rwv g1 e; rw [← x] at this hx; have := hρ hx; omega
    · omega
  have hgne3 : g ≠ g3 := by
    rcases hat3 with e | e
    · have hx := (hvr g3 e).2
      intro x; have := h.rr g3 e; rw [← x] at this hx; have := hρ hx; omega
    · omega
  have rg : ρ' g = 10 + s.waits.length := by rw [hρ', setρ_ne hgne3, setρ_ne (show g ≠ g2 by omega), setρ_ne hgne1, setρ_at]
  have hin : ∀ {v : Value} {xs : List Value} {n : Nat} {e : TypeId} {sz : Nat}, w.ownsRow B e sz v n xs → ∀ g', v.ownBlock = some g' → ρ g' ≤ 5 ∨ 10 ≤ ρ g' → ρ' g' = ρ g' := fun hv g' hg' hr => hold g' (own_lt hv hg') (fun e => by subst e; have := hρ (own_lt hv hg'); omega)
  refine ⟨?_, ρ', .slice (some ⟨g1, 0, none⟩) (s.waits.length + 1) p1, .slice (some ⟨g3, 0, none⟩) (s.weres.length + 1) p3, u, ?_, kk, hold⟩
  · have a : Below B w w2 := by
      refine hb1.trans ⟨hgrow2.os, hgrow2.tape, hgrow2.output, hs2, fun k hk => hgrow2.block k (by have := h.hB; show k < W1.heap.size; omega) (by simp)⟩
    have b : Below B w (w2.alloc o3) := a.alloc (by have := h.hB; omega) o3
    exact (b.grown hgrow3 (by have := h.hB; simp; omega) (fun x hx => (h.wrs.lt x hx).1)).setCell h.gB _
  · exact {
      gB := h.gB
      hB := Nat.le_trans h.hB kk.size
      row := by
        have r3 : w3.rowIs gW 75 9 (fld { s with vw := .slice (some ⟨g1, 0, none⟩) (s.waits.length + 1) p1, waits := s.waits ++ [(v, l)] }) := hrow1.of_block (hmid gW hrow1.lt (fun e => by have := (hvr gW e).1; rw [h.rW] at this; omega))
        exact (r3.set 6 _).congr (fun i hi => fld_set_weres _ _ _ i hi)
      len := own_kp h.len kk (fun x hx hr => by have := h.rl x hx; omega)
      wts := by
        have e : (s.waits ++ [(v, l)]).map (·.1) = s.waits.map (·.1) ++ [v] := by simp
        simp only [List.length_append, List.length_cons, List.length_nil, Nat.zero_add]
        rw [e]
        refine own_kp (R := fun k => k ≠ g1) (ρ := fun k => k) hw1 ⟨by simp [World.setCell]; omega, fun k hk hr => ?_⟩ (fun x hx hr => by simp [Value.ownBlock] at hx; omega)
        have : k = g1 := by apply Classical.byContradiction; exact hr
        subst this
        rw [Below.heap_setCell _ _ _ _ hgg1]
        refine hmid _ hk (fun e => ?_)
        rcases hat1 with e' | e'
        · have := (hvr _ e).1; have := h.rwv _ e'; omega
        · have := (hvr _ e).2; omega
      wrs := by
        simp only [List.length_append, List.length_cons, List.length_nil, Nat.zero_add]
        exact own_kp (R := fun k => k = gW) (ρ := fun k => k) hown3 ⟨by simp [World.setCell], fun k _ hk => Below.heap_setCell _ _ _ _ hk⟩ (fun x hx => by simp [Value.ownBlock] at hx; omega)
      bks := own_kp h.bks kk (fun x hx hr => by have := h.rb x hx; omega)
      lenw := by simp [h.lenw]
      wt := fun i hi hd => by
        simp only [List.length_append, List.length_cons, List.length_nil, Nat.zero_add] at hi
        by_cases e : i < s.waits.length
        · have e' : (s.waits ++ [(v, l)])[i]'(by simp; omega) = s.waits[i] := List.getElem_append_left e
          show OI _ B ((s.waits ++ [(v, l)])[i]'(by simp; omega)).1 _ ∧ tight _
          rw [e']
          exact ⟨own_kp (h.wt i e hd).1 kk (fun x hx hr => by have := h.rwt i e hd x hx; omega), (h.wt i e hd).2⟩
        · obtain rfl : i = s.waits.length := by omega
          have e' : (s.waits ++ [(v, l)])[s.waits.length]'(by simp) = (v, l) := by simp
          show OI _ B ((s.waits ++ [(v, l)])[s.waits.length]'(by simp)).1 _ ∧ tight _
          rw [e']
          exact ⟨own_kp hO kk (fun x hx hr => by have := own_lt hO hx; have := hvg x hx; subst this; have := hρ (own_lt hO hx); omega), hti⟩
      wr := fun i hi hi' => by
        simp only [List.length_append, List.length_cons, List.length_nil, Nat.zero_add] at hi hi'
        have hlw := h.lenw
        by_cases e : i < s.weres.length
        · have e1 : (s.weres ++ [u])[i]'(by simp; omega) = s.weres[i] := List.getElem_append_left e
          have e2 : (s.waits ++ [(v, l)])[i]'(by simp; omega) = s.waits[i]'(by omega) := List.getElem_append_left (by omega)
          show OI _ B ((s.weres ++ [u])[i]'(by simp; omega)) ((s.waits ++ [(v, l)])[i]'(by simp; omega)).2
          rw [e1, e2]
          exact own_kp (h.wr i e (by omega)) kk (fun x hx hr => by have := h.rwr _ (List.getElem_mem e) x hx; omega)
        · have ei : i = s.weres.length := by omega
          have e1 : (s.weres ++ [u])[i]'(by simp; omega) = u := by rw [List.getElem_append_right (by omega)]; simp
          have e2 : (s.waits ++ [(v, l)])[i]'(by simp; omega) = (v, l) := by rw [List.getElem_append_right (by omega)]; simp
          show OI _ B ((s.weres ++ [u])[i]'(by simp; omega)) ((s.waits ++ [(v, l)])[i]'(by simp; omega)).2
          rw [e1, e2]
          refine own_kp (R := fun k => k ≠ g2) (ρ := fun k => k) hown2 ⟨by simp [World.setCell]; omega, fun k hk hr => ?_⟩ (fun x hx hr => hr (hug x hx))
          have : k = g2 := by apply Classical.byContradiction; exact hr
          subst this
          rw [Below.heap_setCell _ _ _ _ (show k ≠ gW by omega), hgrow3.block k (by simp; omega) (fun e => by have := (hvr k e.symm).2; omega), Below.heap_alloc w2 o3 k hk]
      bk := fun b hb => ⟨(h.bk b hb).1, fun v hv => by
        obtain ⟨n, hn⟩ := (h.bk b hb).2 v hv
        exact ⟨n, own_kp hn kk (fun x hx hr => by have := h.rbk b hb v hv x hx; omega)⟩⟩
      rW := by rw [hold gW hgWw (fun e => by have := h.rW; rw [e] at this hgWw; have := hρ hgWw; omega)]; exact h.rW
      rl := fun x hx => by have := h.rl x hx; rw [hin h.len x hx (by omega)]; exact this
      rwv := fun x hx => by simp [Value.ownBlock] at hx; subst hx; exact rg1
      rr := fun x hx => by simp [Value.ownBlock] at hx; subst hx; exact rg3
      rb := fun x hx => by have := h.rb x hx; rw [hin h.bks x hx (by omega)]; exact this
      rwt := fun i hi hd x hx => by
        simp only [List.length_append, List.length_cons, List.length_nil, Nat.zero_add] at hi
        by_cases e : i < s.waits.length
        · have e' : (s.waits ++ [(v, l)])[i]'(by simp; omega) = s.waits[i] := List.getElem_append_left e
          have hx' : (s.waits[i]).1.ownBlock = some x := by rw [← e']; exact hx
          have := h.rwt i e hd x hx'
          rw [hin (h.wt i e hd).1 x hx' (by omega)]; exact this
        · obtain rfl : i = s.waits.length := by omega
          have e' : (s.waits ++ [(v, l)])[s.waits.length]'(by simp) = (v, l) := by simp
          have hx' : v.ownBlock = some x := by
            have hx0 : ((s.waits ++ [(v, l)])[s.waits.length]'(by simp)).1.ownBlock = some x := hx
            rw [e'] at hx0; exact hx0
          rw [hvg x hx']
          exact rg
      rwr := fun v hv x hx => by
        rcases List.mem_append.1 hv with hv | hv
        · have := h.rwr v hv x hx
          obtain ⟨i, hi, rfl⟩ := List.getElem_of_mem hv
          rw [hin (h.wr i hi (by have := h.lenw; omega)) x hx (by omega)]; exact this
        · simp only [List.mem_singleton] at hv
          subst hv
          rw [hug x hx]
          exact rg2
      rbk := fun b hb v hv x hx => by
        have := h.rbk b hb v hv x hx
        obtain ⟨n, hn⟩ := (h.bk b hb).2 v hv
        rw [hin hn x hx (by omega)]; exact this
      mkB := h.mkB
      lnB := h.lnB
      lnN := h.lnN
      wlB := fun i hi => by
        simp only [List.length_append, List.length_cons, List.length_nil, Nat.zero_add] at hi
        by_cases e : i < s.waits.length
        · have e' : (s.waits ++ [(v, l)])[i]'(by simp; omega) = s.waits[i] := List.getElem_append_left e
          show ((s.waits ++ [(v, l)])[i]'(by simp; omega)).2.length ≤ 269
          rw [e']; exact h.wlB i e
        · obtain rfl : i = s.waits.length := by omega
          show ((s.waits ++ [(v, l)])[s.waits.length]'(by simp)).2.length ≤ 269
          simp; exact hl2
      stl := fun x hx => stl_kp (h.stl x hx) kk (fun hr => by have := h.rst x hx; omega)
      rst := fun x hx => by
        have := h.rst x hx
        have hlt := stl_lt (h.stl x hx)
        rw [hold x.1 hlt (fun e => by rw [e] at this hlt; have := hρ hlt; omega)]; exact this }
set_option maxRecDepth 100000 in
set_option maxHeartbeats 2000000 in
theorem keep_some (B gW : Nat) (ρ : Nat → Nat) (s : LawSt) (g : Nat) (l : List Int) (w : World) (h : Inv B gW 0 ρ s w) (hO : OI w B (.slice (some ⟨g, 0, none⟩) l.length l.length) l) (hl : 0 < l.length) (hl2 : l.length ≤ 269) (hρ : 5 < ρ g ∧ ρ g < 10) (hwl : s.weres.length ≤ 1000000000) (hwl2 : s.waits.length ≤ 1000000000) :
    Calls Tryz.prog 87 #[.pointer (some ⟨gW, 0, none⟩), .slice (some ⟨g, 0, none⟩) l.length l.length] w fun e w' => e = .returned (.tuple #[]) ∧ Below B w w' ∧ ∃ (ρ' : Nat → Nat) (vw vr u : Value), Inv B gW 0 ρ' { s with vw := vw, waits := s.waits ++ [(.slice (some ⟨g, 0, none⟩) l.length l.length, l)], vr := vr, weres := s.weres ++ [u] } w' ∧ Kp (fun r => r = 2 ∨ r = 3 ∨ r = 5) ρ w w' ∧ (∀ k, k < w.heap.size → k ≠ g → ρ' k = ρ k) := by
  have HI : Hid (Inv B gW 0 ρ s w) := h
  have hgl : gW < w.heap.size := h.row.lt
  have hBs := h.hB
  have c5 : w.cell? ⟨gW, 5, none⟩ = some s.vw := h.row.cell (i := 5) (by omega)
  have c6 : w.cell? ⟨gW, 6, none⟩ = some s.vr := h.row.cell (i := 6) (by omega)
  have f5 := h.row.frozen 5
  have f6 := h.row.frozen 6
  have ag5 : s.vw.ownBlock ≠ some gW := fun e => by have h1 := h.rwv gW e; have h2 := h.rW; omega
  have ag6 : s.vr.ownBlock ≠ some gW := fun e => by have h1 := h.rr gW e; have h2 := h.rW; omega
  have hw : w.ownsRow B 69 1 s.vw s.waits.length (s.waits.map (·.1)) := h.wts
  clear h
  obtain ⟨i0, hi, hz0, hz1, hz2⟩ := info_parts info_ints
  obtain ⟨j0, hj, hy0, hy1, hy2⟩ := info_parts info3
  go_enter Tryz.func87, Tryz.ntmps87
  go_upto_region 1 with (first | (at_builtin; refine wpList_append_lies _ rfl _ _ 71 rfl B 69 i0 (.slice none 0 0) 1 24 Tryz.underlying71 hi hz0 hz1 hz2 rfl (by decide) s.vw s.waits.length (s.waits.map (·.1)) rfl (hw.alloc _) ⟨w.heap.size, 0, none⟩ 1 1 [.slice (some ⟨g, 0, none⟩) l.length l.length] rfl rfl (cell_one_new _ _ _) (by simp [Value.oneCell']) (by omega) (by unfold maxLen; omega) (by omega) (by simp; omega) (w.heap.size + 1) (by simp) ?_; intro g1 p1 w1 hown1 hgrow1 hat1 hlt1; have k5 := k_far' hgrow1 hgl ag5 c5; have k6 := k_far' hgrow1 hgl ag5 c6; have z5 := z_far' hgrow1 hgl ag5 f5; have z6 := z_far' hgrow1 hgl ag5 f6))
  obtain ⟨W1, hW1⟩ : ∃ W1, W1 = w1.setCell ⟨gW, 5, none⟩ (.slice (some ⟨g1, 0, none⟩) (s.waits.length + 1) p1) := ⟨_, rfl⟩
  have T := keep_first (l := l) HI.out hgrow1 hown1 hat1
  rw [← hW1] at T
  obtain ⟨hk1, hb1, hw1, hrow1⟩ := T
  have c6' : W1.cell? ⟨gW, 6, none⟩ = some s.vr := by rw [hrow1.cell (i := 6) (by omega)]; simp [fld]
  have f6' := hrow1.frozen 6
  have hO1 : OI W1 B (.slice (some ⟨g, 0, none⟩) l.length l.length) l := own_kp hO hk1 (fun g' hg' => by simp [Value.ownBlock] at hg'; subst hg'; omega)
  have hr1 : W1.ownsRow B 69 1 s.vr s.weres.length s.weres := own_kp HI.out.wrs hk1 (fun g' hg' => by have := HI.out.rr g' hg'; omega)
  have hgW1 := hrow1.lt
  have hBs1 : B ≤ W1.heap.size := Nat.le_trans hBs hk1.size
  have hne1 : (Value.slice none 0 0).ownBlock ≠ some gW := by simp [Value.ownBlock]
  have hW1' := hW1
  rw [← hW1]
  have hlt1' : g1 < W1.heap.size := by rw [hW1']; simpa [World.setCell] using hlt1
  have HA1 : Hid (s.vw.ownBlock = some g1 ∨ g1 = w.heap.size + 1) := hat1
  clear hW1' hW1 k5 k6 z5 z6 c5 c6 f5 f6 hgrow1 hown1 hat1 hlt1 hw
  go_region_law
    ((first
      | (refine step_append_lies _ (by rfl) (.const (.slice none 0 0)) (.tmp 19) _ (by rfl) B 3 j0 _ 1 8 Tryz.underlying69 hj hy0 hy1 hy2 rfl (by omega) (.slice none 0 0) 0 [] (by rfl) (World.ownsRow_nil _ _ _ _) ⟨g, 0, none⟩ l.length l.length (ivals l) (by rfl) (by simp [ivals]) (oi_news hO1) (lent4 l) hl (by unfold maxLen; omega) (by omega) hBs1 W1.heap.size rfl ?_; intro g2 p2 w2 hown2 hgrow2 hat2 hlt2; have k6 := (hgrow2.cell_far ⟨gW, 6, none⟩ hgW1 (Ne.symm hne1)).trans c6'; have z6 := (hgrow2.frozen_far ⟨gW, 6, none⟩ hgW1 (Ne.symm hne1)).trans f6'; have hr2 := own_new hr1.drew hgrow2; have hgW2 : gW < w2.heap.size := Nat.lt_of_lt_of_le hgW1 hgrow2.size)
      | (refine step_append_lies _ (by rfl) (.tmp 18) (.tmp 21) _ (by rfl) B 69 i0 _ 1 24 Tryz.underlying71 hi hz0 hz1 hz2 rfl (by omega) s.vr s.weres.length s.weres (by rfl) (hr2.alloc _) ⟨w2.heap.size, 0, none⟩ 1 1 [.slice (some ⟨g2, 0, none⟩) l.length p2] (by rfl) (by rfl) (cell_one_new _ _ _) (by simp [Value.oneCell']) (by omega) (by unfold maxLen; omega) (by omega) (by have := hgrow2.size; simp at this ⊢; omega) (w2.heap.size + 1) (by simp) ?_; intro g3 p3 w3 hown3 hgrow3 hat3 hlt3; have k6'' := k_far' hgrow3 (Nat.lt_of_lt_of_le hgW1 hgrow2.size) ag6 k6; have z6'' := z_far' hgrow3 (Nat.lt_of_lt_of_le hgW1 hgrow2.size) ag6 z6)))
  all_goals go_wp2_with fail
  all_goals
    have T := keep_done (g := g) (g2 := g2) HI.out hO (Or.inr ⟨g, l.length, rfl⟩) hl2 (fun x hx => by simp [Value.ownBlock] at hx; omega) (fun _ => hρ) (Or.inl (own_lt hO rfl)) hk1 hb1 hw1 hrow1 HA1.out hlt1' hgrow2 (by simpa using hown2) (fun x hx => by simp [Value.ownBlock] at hx; omega) (hat2.resolve_left (by simp [Value.ownBlock])) hgrow3 hown3 hat3
    go_end0
    exact ⟨rfl, T.1, T.2⟩
set_option maxRecDepth 100000 in
set_option maxHeartbeats 2000000 in
theorem keep_nil (B gW : Nat) (ρ : Nat → Nat) (s : LawSt) (w : World) (h : Inv B gW 0 ρ s w) (hwl : s.weres.length ≤ 1000000000) (hwl2 : s.waits.length ≤ 1000000000) :
    Calls Tryz.prog 87 #[.pointer (some ⟨gW, 0, none⟩), .slice none 0 0] w fun e w' => e = .returned (.tuple #[]) ∧ Below B w w' ∧ ∃ (ρ' : Nat → Nat) (vw vr u : Value), Inv B gW 0 ρ' { s with vw := vw, waits := s.waits ++ [(.slice none 0 0, [])], vr := vr, weres := s.weres ++ [u] } w' ∧ Kp (fun r => r = 2 ∨ r = 3 ∨ r = 5) ρ w w' ∧ (∀ k, k < w.heap.size → ρ' k = ρ k) := by
  have HI : Hid (Inv B gW 0 ρ s w) := h
  have hgl : gW < w.heap.size := h.row.lt
  have hBs := h.hB
  have c5 : w.cell? ⟨gW, 5, none⟩ = some s.vw := h.row.cell (i := 5) (by omega)
  have c6 : w.cell? ⟨gW, 6, none⟩ = some s.vr := h.row.cell (i := 6) (by omega)
  have f5 := h.row.frozen 5
  have f6 := h.row.frozen 6
  have ag5 : s.vw.ownBlock ≠ some gW := fun e => by have h1 := h.rwv gW e; have h2 := h.rW; omega
  have ag6 : s.vr.ownBlock ≠ some gW := fun e => by have h1 := h.rr gW e; have h2 := h.rW; omega
  have hw : w.ownsRow B 69 1 s.vw s.waits.length (s.waits.map (·.1)) := h.wts
  clear h
  obtain ⟨i0, hi, hz0, hz1, hz2⟩ := info_parts info_ints
  go_enter Tryz.func87, Tryz.ntmps87
  go_upto_region 1 with (first | (at_builtin; refine wpList_append_lies _ rfl _ _ 71 rfl B 69 i0 (.slice none 0 0) 1 24 Tryz.underlying71 hi hz0 hz1 hz2 rfl (by decide) s.vw s.waits.length (s.waits.map (·.1)) rfl (hw.alloc _) ⟨w.heap.size, 0, none⟩ 1 1 [.slice none 0 0] rfl rfl (cell_one_new _ _ _) (by simp [Value.oneCell']) (by omega) (by unfold maxLen; omega) (by omega) (by simp; omega) (w.heap.size + 1) (by simp) ?_; intro g1 p1 w1 hown1 hgrow1 hat1 hlt1; have k5 := k_far' hgrow1 hgl ag5 c5; have k6 := k_far' hgrow1 hgl ag5 c6; have z5 := z_far' hgrow1 hgl ag5 f5; have z6 := z_far' hgrow1 hgl ag5 f6))
  obtain ⟨W1, hW1⟩ : ∃ W1, W1 = w1.setCell ⟨gW, 5, none⟩ (.slice (some ⟨g1, 0, none⟩) (s.waits.length + 1) p1) := ⟨_, rfl⟩
  have T := keep_first (l := []) HI.out hgrow1 hown1 hat1
  rw [← hW1] at T
  obtain ⟨hk1, hb1, hw1, hrow1⟩ := T
  have c6' : W1.cell? ⟨gW, 6, none⟩ = some s.vr := by rw [hrow1.cell (i := 6) (by omega)]; simp [fld]
  have f6' := hrow1.frozen 6
  have hr1 : W1.ownsRow B 69 1 s.vr s.weres.length s.weres := own_kp HI.out.wrs hk1 (fun g' hg' => by have := HI.out.rr g' hg'; omega)
  have hgW1 := hrow1.lt
  have hBs1 : B ≤ W1.heap.size := Nat.le_trans hBs hk1.size
  have hW1' := hW1
  rw [← hW1]
  have hlt1' : g1 < W1.heap.size := by rw [hW1']; simpa [World.setCell] using hlt1
  have HA1 : Hid (s.vw.ownBlock = some g1 ∨ g1 = w.heap.size + 1) := hat1
  clear hW1' hW1 k5 k6 z5 z6 c5 c6 f5 f6 hgrow1 hown1 hat1 hlt1 hw
  go_region_law
    ((refine step_append_lies _ (by rfl) (.tmp 18) (.tmp 21) _ (by rfl) B 69 i0 _ 1 24 Tryz.underlying71 hi hz0 hz1 hz2 rfl (by omega) s.vr s.weres.length s.weres (by rfl) ((hr1.alloc _).drew) ⟨W1.heap.size, 0, none⟩ 1 1 [.slice none 0 0] (by rfl) (by rfl) (cell_one_new W1 _ _) (by simp [Value.oneCell']) (by omega) (by unfold maxLen; omega) (by omega) (by simp; omega) (W1.heap.size + 1) (by simp) ?_; intro g3 p3 w3 hown3 hgrow3 hat3 hlt3; have k6'' := k_far hgrow3 hgW1 ag6 c6'; have z6'' := z_far hgrow3 hgW1 ag6 f6'))
  all_goals go_wp2_with fail
  all_goals
    have hsz : w.heap.size ≤ w3.heap.size := Nat.le_trans hk1.size (Nat.le_trans (by simp) hgrow3.size)
    have T := keep_done (g := w3.heap.size + 1) (g2 := W1.heap.size) (w2 := W1.drew) (u := .slice none 0 0) HI.out (OI.nil w B) (Or.inl rfl) (by simp) (fun x hx => by simp [Value.ownBlock] at hx) (fun hx => by omega) (Or.inr (Nat.le_refl _)) hk1 hb1 hw1 hrow1 HA1.out hlt1' ⟨rfl, rfl, rfl, Nat.le_refl _, fun _ _ _ => rfl⟩ (OI.nil W1.drew B) (fun x hx => by simp [Value.ownBlock] at hx) rfl hgrow3 hown3 hat3
    go_end0
    obtain ⟨T1, ρ', vw, vr, u, T2, T3, T4⟩ := T
    exact ⟨rfl, T1, ρ', vw, vr, u, T2, T3, fun k hk => T4 k hk (by omega)⟩
end Go.Proofs.YtbcjmakpempkiaaGreatDoor
