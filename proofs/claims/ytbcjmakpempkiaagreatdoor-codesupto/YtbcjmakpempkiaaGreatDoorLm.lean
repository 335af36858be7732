/- How plays begins: a World of nothing, with a configuration and a stream of its own. -/
import Derived.Test.YtbcjmakpempkiaaGreatDoorLl
namespace Go.Proofs.YtbcjmakpempkiaaGreatDoor
open Go.RowKit
theorem info_config : (Tryz.prog.info? 42).map (fun i => (i.zero, i.size, i.bytes)) = some (some (.agg #[.int .i64 0, .int .i64 0, .int .i64 0, .int .i64 0, .int .i64 0, .int .i64 0, .int .i64 0]), 7, 56) := by kernel_rfl
theorem info_string : (Tryz.prog.info? 9).map (fun i => (i.zero, i.size, i.bytes)) = some (some (.string ⟨#[]⟩), 1, 16) := by kernel_rfl
/-- a call of a Go function by its contract, as one step of a region that draws -/
theorem step_callTo {P : Program} {ops : Array Oper} {o : Oper} {a : Act} {w : World} {K : Act → World → Prop} {Q : Exit → Act → World → Prop} {E : Prop} (hg : o.guard = none)
    (f : FuncId) (args : Array Value) (hrun : (execOp a.eval o).run P w = .ok (.enter f args) w) (v : Value) (w' : World)
    (hc : Calls P f args w fun e w'' => e = .returned v ∧ w'' = w') (h : K (a.put o.dst v) w') :
    if Region.wanted o (yielded ops a.tmps) = true then Oper.wp P o a w K Q else E := by
  have hw : Region.wanted o (yielded ops a.tmps) = true := by simp [Region.wanted, hg]
  rw [if_pos hw]
  unfold Oper.wp
  rw [hrun, Oper.upon_enter]
  refine hc.mono fun e w'' hh => ?_
  obtain ⟨rfl, rfl⟩ := hh
  exact h
theorem step_own {ops : Array Oper} {o : Oper} {a : Act} {w : World} {K : Act → World → Prop} {Q : Exit → Act → World → Prop} {E : Prop} (hg : o.guard = none) (_ho : o.op = .call { callee := .value (.func 32), args := #[], argTypes := #[] })
    (hrun : (execOp a.eval o).run Tryz.prog w = .ok (.enter 32 #[]) w)
    (h : K (a.put o.dst (.agg #[.int .i64 0, .int .i64 9, .int .i64 9, .int .i64 9, .int .i64 1, .int .i64 9, .int .i64 99])) (w.alloc (.cells #[.int .i64 0, .int .i64 9, .int .i64 9, .int .i64 9, .int .i64 1, .int .i64 9, .int .i64 99] 42))) :
    if Region.wanted o (yielded ops a.tmps) = true then Oper.wp Tryz.prog o a w K Q else E :=
  step_callTo hg _ _ hrun _ _ (own_any w) h
/-- what a script has made at its begin -/
def iniSt (vcs vss : Value) (still : List (Nat × Obj)) : LawSt := { vcs := vcs, vss := vss, vl := .slice none 0 0, lens := [], mks := 0, vw := .slice none 0 0, waits := [], vr := .slice none 0 0, weres := [], vb := .slice none 0 0, books := [], still := still }
theorem Inv.ini {w W : World} {vcs vss : Value} {still : List (Nat × Obj)} (hb : Below w.heap.size w W) (hrow : W.rowIs w.heap.size 75 9 (fld (iniSt vcs vss still)))
    (hst : ∀ x ∈ still, W.heap[x.1]? = some x.2) (hne : ∀ x ∈ still, x.1 ≠ w.heap.size) : Inv w.heap.size w.heap.size 0 (fun k => if k = w.heap.size then 5 else 0) (iniSt vcs vss still) W where
  gB := Nat.le_refl _
  hB := hb.size
  row := hrow
  len := OI.nil _ _
  wts := World.ownsRow_nil _ _ _ _
  wrs := World.ownsRow_nil _ _ _ _
  bks := World.ownsRow_nil _ _ _ _
  lenw := rfl
  wt := fun i hi => by simp [iniSt] at hi
  wr := fun i hi => by simp [iniSt] at hi
  bk := fun b hb => by simp [iniSt] at hb
  rW := if_pos rfl
  rl := fun g hg => by simp [iniSt, Value.ownBlock] at hg
  rwv := fun g hg => by simp [iniSt, Value.ownBlock] at hg
  rr := fun g hg => by simp [iniSt, Value.ownBlock] at hg
  rb := fun g hg => by simp [iniSt, Value.ownBlock] at hg
  rwt := fun i hi => by simp [iniSt] at hi
  rwr := fun v hv => by simp [iniSt] at hv
  rbk := fun b hb => by simp [iniSt] at hb
  mkB := by simp [iniSt]
  lnB := by simp [iniSt]
  lnN := Or.inl rfl
  wlB := fun i hi => by simp [iniSt] at hi
  stl := hst
  rst := fun x hx => if_neg (hne x hx)
theorem heap_alloc_new2 (W : World) (o o' : Obj) : ((W.alloc o).alloc o').drew.heap[W.heap.size + 1]? = some o' := by
  have h := heap_alloc_new (W.alloc o) o'
  have e : (W.alloc o).heap.size = W.heap.size + 1 := by simp
  rw [e] at h
  exact h
theorem k_far2 {W w' : World} {o o' : Obj} {row : Option Nat} {g k : Nat} {v : Value} (h : ((W.alloc o).alloc o').drew.grownBy w' row) (hg : g < W.heap.size) (hr : row ≠ some g) (hc : W.cell? ⟨g, k, none⟩ = some v) : w'.cell? ⟨g, k, none⟩ = some v := by
  rw [World.cell?_of_block ((h.block g (by simp; omega) (fun e => hr e.symm)).trans ((Below.heap_alloc (W.alloc o) o' g (by simp; omega)).trans (Below.heap_alloc W o g hg)))]; exact hc
theorem z_far2 {W w' : World} {o o' : Obj} {row : Option Nat} {g k : Nat} (h : ((W.alloc o).alloc o').drew.grownBy w' row) (hg : g < W.heap.size) (hr : row ≠ some g) (hc : W.frozen? ⟨g, k, none⟩ = false) : w'.frozen? ⟨g, k, none⟩ = false := by
  rw [World.frozen?_of_block ((h.block g (by simp; omega) (fun e => hr e.symm)).trans ((Below.heap_alloc (W.alloc o) o' g (by simp; omega)).trans (Below.heap_alloc W o g hg)))]; exact hc
/-- the fields of the World block while it is made -/
def zeroF : Nat → Value := fld (iniSt (.slice none 0 0) (.slice none 0 0) [])
theorem zero_row (w : World) : (w.alloc (.cells #[.slice none 0 0, .slice none 0 0, .slice none 0 0, .slice none 0 0, .int .i64 0, .slice none 0 0, .slice none 0 0, .slice none 0 0, .slice none 0 0] 75)).rowIs w.heap.size 75 9 zeroF :=
  World.rowIs_alloc w _ _ _ (fun i hi => by
    simp at hi
    have : i = 0 ∨ i = 1 ∨ i = 2 ∨ i = 3 ∨ i = 4 ∨ i = 5 ∨ i = 6 ∨ i = 7 ∨ i = 8 := by omega
    rcases this with rfl | rfl | rfl | rfl | rfl | rfl | rfl | rfl | rfl <;> rfl)
theorem own_cap {w : World} {B : Nat} {e : TypeId} {sz : Nat} {x : Addr} {n cap : Nat} {xs : List Value} (h : w.ownsRow B e sz (.slice (some x) n cap) n xs) : n ≤ cap := by
  rcases h.2 with ⟨hv, _⟩ | ⟨g, c, cur, hv, _, _, hnc, _⟩
  · simp at hv
  · simp at hv; omega
theorem fld_set_cs (a b v : Value) (st : List (Nat × Obj)) (i : Nat) (hi : i < 9) : (if i = 0 then v else fld (iniSt a b st) i) = fld (iniSt v b st) i := by
  have : i = 0 ∨ i = 1 ∨ i = 2 ∨ i = 3 ∨ i = 4 ∨ i = 5 ∨ i = 6 ∨ i = 7 ∨ i = 8 := by omega
  rcases this with rfl | rfl | rfl | rfl | rfl | rfl | rfl | rfl | rfl <;> simp [fld, iniSt]
theorem fld_set_ss (a b v : Value) (st : List (Nat × Obj)) (i : Nat) (hi : i < 9) : (if i = 1 then v else fld (iniSt a b st) i) = fld (iniSt a v st) i := by
  have : i = 0 ∨ i = 1 ∨ i = 2 ∨ i = 3 ∨ i = 4 ∨ i = 5 ∨ i = 6 ∨ i = 7 ∨ i = 8 := by omega
  rcases this with rfl | rfl | rfl | rfl | rfl | rfl | rfl | rfl | rfl <;> simp [fld, iniSt]
theorem ini_cs {w W w1 : World} {o o' : Obj} {a b v : Value} {st : List (Nat × Obj)} (hr : W.rowIs w.heap.size 75 9 (fld (iniSt a b st))) (hb : Below w.heap.size w W) (hgrow : ((W.alloc o).alloc o').drew.grownBy w1 none) :
    (w1.setCell ⟨w.heap.size, 0, none⟩ v).rowIs w.heap.size 75 9 (fld (iniSt v b st)) ∧ Below w.heap.size w (w1.setCell ⟨w.heap.size, 0, none⟩ v) := by
  have hlt := hr.lt
  refine ⟨((hr.of_block ((hgrow.block _ (by simp; omega) (by simp)).trans ((Below.heap_alloc (W.alloc o) o' _ (by simp; omega)).trans (Below.heap_alloc W o _ hlt)))).set 0 v).congr (fun i hi => fld_set_cs a b v st i hi), ?_⟩
  have b1 : Below w.heap.size w ((W.alloc o).alloc o').drew := ((hb.alloc hb.size o).alloc (by have := hb.size; simp; omega) o').drew
  exact (b1.grown hgrow (by have := hb.size; simp; omega) (fun g hg => by simp at hg)).setCell (Nat.le_refl _) v
theorem ini_ss {w W w1 : World} {o : Obj} {a b v : Value} {st : List (Nat × Obj)} (hr : W.rowIs w.heap.size 75 9 (fld (iniSt a b st))) (hb : Below w.heap.size w W) (hgrow : (W.alloc o).grownBy w1 none) :
    (w1.setCell ⟨w.heap.size, 1, none⟩ v).rowIs w.heap.size 75 9 (fld (iniSt a v st)) ∧ Below w.heap.size w (w1.setCell ⟨w.heap.size, 1, none⟩ v) := by
  have hlt := hr.lt
  refine ⟨((hr.of_block ((hgrow.block _ (by simp; omega) (by simp)).trans (Below.heap_alloc W o _ hlt))).set 1 v).congr (fun i hi => fld_set_ss a b v st i hi), ?_⟩
  have b1 : Below w.heap.size w (W.alloc o) := hb.alloc hb.size o
  exact (b1.grown hgrow (by have := hb.size; simp; omega) (fun g hg => by simp at hg)).setCell (Nat.le_refl _) v
/-- the opening lies in a block of its own -/
theorem ini_open {w W : World} {a b : Value} (hr : W.rowIs w.heap.size 75 9 (fld (iniSt a b []))) (hb : Below w.heap.size w W) :
    Inv w.heap.size w.heap.size 0 (fun k => if k = w.heap.size then 5 else 0) (iniSt a b [(W.heap.size, .cells openC 79 (0, 0))]) (W.alloc (.cells openC 79)) ∧ Below w.heap.size w (W.alloc (.cells openC 79)) := by
  have hlt := hr.lt
  have b1 : Below w.heap.size w (W.alloc (.cells openC 79)) := hb.alloc hb.size _
  refine ⟨Inv.ini b1 (hr.of_block (Below.heap_alloc W _ _ hlt)) ?_ ?_, b1⟩
  · intro x hx
    simp only [List.mem_singleton] at hx
    subst hx
    exact heap_alloc_new W _
  · intro x hx
    simp only [List.mem_singleton] at hx
    subst hx
    simp only
    omega
/-- the k-th step of the opening -/
theorem open_at (k : Nat) (hk : k < 18) : ∃ (kd a b c : Int) (t : ByteArray), openC[k * 6]? = some (.int .i64 kd) ∧ openC[k * 6 + 1]? = some (.int .i64 a) ∧ openC[k * 6 + 2]? = some (.int .i64 b) ∧ openC[k * 6 + 3]? = some (.int .i64 c) ∧ openC[k * 6 + 4]? = some (.string t) ∧ openC[k * 6 + 5]? = some (.slice none 0 0) ∧ t.size ≤ maxLen := by
  have : k = 0 ∨ k = 1 ∨ k = 2 ∨ k = 3 ∨ k = 4 ∨ k = 5 ∨ k = 6 ∨ k = 7 ∨ k = 8 ∨ k = 9 ∨ k = 10 ∨ k = 11 ∨ k = 12 ∨ k = 13 ∨ k = 14 ∨ k = 15 ∨ k = 16 ∨ k = 17 := by omega
  rcases this with rfl | rfl | rfl | rfl | rfl | rfl | rfl | rfl | rfl | rfl | rfl | rfl | rfl | rfl | rfl | rfl | rfl | rfl <;> exact ⟨_, _, _, _, _, rfl, rfl, rfl, rfl, rfl, rfl, by decide⟩
/-- one list of World is laid anew as it was -/
theorem Inv.same {B gW : Nat} {ρ : Nat → Nat} {s : LawSt} {w : World} {i : Nat} (h : Inv B gW 0 ρ s w) : Inv B gW 0 ρ s (w.setCell ⟨gW, i, none⟩ (fld s i)) ∧ Below B w (w.setCell ⟨gW, i, none⟩ (fld s i)) := by
  refine ⟨h.marked (m := s.mks) (R := fun r => r = 5) (Kp.of_set w _ _ h.rW) (fun r hr => by omega) (Nat.le_refl _) ((h.row.set i _).congr (fun j _ => ?_)) h.mkB, (Below.refl _ _).setCell h.gB _⟩
  by_cases e : j = i
  · rw [if_pos e, e]
  · rw [if_neg e]
/-- a script in memory: steps of six cells each -/
def Script (w : World) (ad : Option Addr) (n : Nat) : Prop := ∀ k, k < n → ∃ (b0 o0 : Nat) (kd a b c : Int) (t : ByteArray) (ap : Option Addr) (np cp : Nat), ad = some ⟨b0, o0, none⟩ ∧ b0 < w.heap.size ∧
  w.cell? ⟨b0, o0 + k * 6, none⟩ = some (.int .i64 kd) ∧ w.cell? ⟨b0, o0 + k * 6 + 1, none⟩ = some (.int .i64 a) ∧ w.cell? ⟨b0, o0 + k * 6 + 2, none⟩ = some (.int .i64 b) ∧ w.cell? ⟨b0, o0 + k * 6 + 3, none⟩ = some (.int .i64 c) ∧ w.cell? ⟨b0, o0 + k * 6 + 4, none⟩ = some (.string t) ∧ w.cell? ⟨b0, o0 + k * 6 + 5, none⟩ = some (.slice ap np cp) ∧ t.size ≤ maxLen
/-- how much a script of k steps has made -/
structure Few (k : Nat) (s : LawSt) : Prop where
  ln : s.lens.length ≤ k + 18
  wt : s.waits.length ≤ 2 * k + 36
  mm : s.mks + s.waits.length ≤ 3 * k + 54
  bk : s.books.length + s.waits.length ≤ 3 * k + 54
theorem Few.next {k : Nat} {s s' : LawSt} (h : Few k s) (hn : Nxt s s') : Few (k + 1) s' :=
  ⟨by have := h.ln; have := hn.ln; omega, by have := h.wt; have := hn.wt; omega, by have := h.mm; have := hn.mks; have := hn.wt; omega, by have := h.bk; have := hn.bk; have := hn.wt; omega⟩
theorem Few.mono {k m : Nat} {s : LawSt} (h : Few k s) (hm : k ≤ m) : Few m s := ⟨by have := h.ln; omega, by have := h.wt; omega, by have := h.mm; omega, by have := h.bk; omega⟩
theorem Few.settled {k : Nat} {s : LawSt} {vb : Value} {bs : List (Int × List Value)} (h : Few k s) (hb : bs.length = s.books.length + s.waits.length) : Few k { s with mks := s.mks + s.waits.length, vb := vb, books := bs, vw := .slice none 0 0, waits := [], vr := .slice none 0 0, weres := [] } :=
  ⟨h.ln, by simp, by simpa using h.mm, by have := h.bk; simp; omega⟩
end Go.Proofs.YtbcjmakpempkiaaGreatDoor
