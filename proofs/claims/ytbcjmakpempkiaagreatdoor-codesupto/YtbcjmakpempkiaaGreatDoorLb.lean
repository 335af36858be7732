/- What a script of the law has made: the caller's lists in memory, each block with a part of its own. -/
import Derived.Test.YtbcjmakpempkiaaGreatDoorLa
import Derived.Deep.AppendLies
namespace Go.Proofs.YtbcjmakpempkiaaGreatDoor
open Go.RowKit

/-- a slice of the call's own that holds these numbers (nil: none) -/
def OI (w : World) (B : Nat) (v : Value) (l : List Int) : Prop := w.ownsRow B 3 1 v l.length (ivals l)
theorem ivals_length (l : List Int) : (ivals l).length = l.length := by simp [ivals]
theorem OI.nil (w : World) (B : Nat) : OI w B (.slice none 0 0) [] := World.ownsRow_nil _ _ _ _
theorem OI.cells {w : World} {B : Nat} {v : Value} {l : List Int} (h : OI w B v l) : ∃ ad cap, v = .slice ad l.length cap ∧ CellsO w ad l := by
  rcases h.2 with ⟨hv, h0⟩ | ⟨g, cap, cur, hv, hb, hg, hnc, hcm, hcs, htake⟩
  · exact ⟨none, 0, by rw [hv, h0], fun k hk => by omega⟩
  · refine ⟨some ⟨g, 0, none⟩, cap, hv, fun k hk => ⟨g, 0, rfl, (Array.getElem?_eq_some_iff.1 hg).1, ?_⟩⟩
    have h' : w.ownsRow B 3 1 (.slice (some ⟨g, 0, none⟩) l.length cap) l.length (ivals l) := by rw [← hv]; exact h
    rw [Nat.zero_add, World.ownsRow.cellAt h' k (by omega)]
    simp [ivals, hk]
theorem OI.len {w : World} {B : Nat} {v : Value} {l : List Int} (h : OI w B v l) : ∃ ad cap, v = .slice ad l.length cap := by
  obtain ⟨ad, cap, h1, _⟩ := h.cells; exact ⟨ad, cap, h1⟩
/-- out of a row that is known whole -/
theorem OI.of_row {w : World} {B g n : Nat} {l : List Int} (hb : B ≤ g) (hn : l.length = n) (hm : n ≤ maxLen) (h : w.rowIs g 3 n (fun i => .int .i64 (l.getD i 0))) : OI w B (.slice (some ⟨g, 0, none⟩) l.length n) l := by
  obtain ⟨c, hg, hs, hc⟩ := h
  subst hn
  refine ⟨by simp [ivals], Or.inr ⟨g, l.length, c, rfl, hb, hg, Nat.le_refl _, hm, by omega, ?_⟩⟩
  apply List.ext_getElem?
  intro i
  by_cases hi : i < l.length
  · have := hc i hi
    simp [ivals, hi] at *
    exact this
  · rw [List.getElem?_eq_none (by simp; omega), List.getElem?_eq_none (by simp [ivals]; omega)]

/-- blocks whose part is not among R are as they were -/
structure Kp (R : Nat → Prop) (ρ : Nat → Nat) (w w' : World) : Prop where
  size : w.heap.size ≤ w'.heap.size
  block : ∀ k, k < w.heap.size → ¬ R (ρ k) → w'.heap[k]? = w.heap[k]?
theorem Kp.refl (R : Nat → Prop) (ρ : Nat → Nat) (w : World) : Kp R ρ w w := ⟨Nat.le_refl _, fun _ _ _ => rfl⟩
theorem Kp.trans {R : Nat → Prop} {ρ : Nat → Nat} {a b c : World} (h : Kp R ρ a b) (k : Kp R ρ b c) : Kp R ρ a c :=
  ⟨Nat.le_trans h.size k.size, fun i hi hr => (k.block i (Nat.lt_of_lt_of_le hi h.size) hr).trans (h.block i hi hr)⟩
theorem Kp.mono {R R' : Nat → Prop} {ρ : Nat → Nat} {a b : World} (h : Kp R ρ a b) (hR : ∀ x, R x → R' x) : Kp R' ρ a b := ⟨h.size, fun i hi hr => h.block i hi (fun x => hr (hR _ x))⟩
theorem Kp.of_below {R : Nat → Prop} {ρ : Nat → Nat} {a b : World} (h : Below a.heap.size a b) : Kp R ρ a b := ⟨h.size, fun i hi _ => h.block i hi⟩
theorem Kp.of_set {R : Nat → Prop} {ρ : Nat → Nat} (a : World) (p : Addr) (v : Value) (hR : R (ρ p.block)) : Kp R ρ a (a.setCell p v) :=
  ⟨by simp [World.setCell], fun i _ hr => Below.heap_setCell _ _ _ _ (fun e => hr (e ▸ hR))⟩
theorem Kp.of_grown {R : Nat → Prop} {ρ : Nat → Nat} {a b : World} {row : Option Nat} (h : a.grownBy b row) (hR : ∀ g, row = some g → R (ρ g)) : Kp R ρ a b :=
  ⟨h.size, fun i hi hr => h.block i hi (fun e => hr (hR i e.symm))⟩
/-- the same, under other parts, where they part only in blocks that are new or written -/
theorem Kp.congr {R : Nat → Prop} {ρ ρ' : Nat → Nat} {a b : World} (h : Kp R ρ a b) (hρ : ∀ k, k < a.heap.size → ¬ R (ρ' k) → ¬ R (ρ k)) : Kp R ρ' a b := ⟨h.size, fun i hi hr => h.block i hi (hρ i hi hr)⟩

theorem own_kp {R : Nat → Prop} {ρ : Nat → Nat} {w w' : World} {B : Nat} {e : TypeId} {sz : Nat} {v : Value} {n : Nat} {xs : List Value} (h : w.ownsRow B e sz v n xs) (hk : Kp R ρ w w') (hr : ∀ g, v.ownBlock = some g → ¬ R (ρ g)) : w'.ownsRow B e sz v n xs := by
  refine ⟨h.1, ?_⟩
  rcases h.2 with hn | ⟨g, cap, cur, rfl, hb, hgg, rest⟩
  · exact .inl hn
  · refine .inr ⟨g, cap, cur, rfl, hb, ?_, rest⟩
    rw [hk.block g (Array.getElem?_eq_some_iff.1 hgg).1 (hr g rfl)]
    exact hgg
theorem row_kp {R : Nat → Prop} {ρ : Nat → Nat} {w w' : World} {g : Nat} {t : TypeId} {n : Nat} {f : Nat → Value} (h : w.rowIs g t n f) (hk : Kp R ρ w w') (hr : ¬ R (ρ g)) : w'.rowIs g t n f := h.of_block (hk.block g h.lt hr)

theorem stl_lt {w : World} {k : Nat} {o : Obj} (h : w.heap[k]? = some o) : k < w.heap.size := (Array.getElem?_eq_some_iff.1 h).1
theorem stl_kp {R : Nat → Prop} {ρ : Nat → Nat} {w w' : World} {k : Nat} {o : Obj} (h : w.heap[k]? = some o) (hk : Kp R ρ w w') (hr : ¬ R (ρ k)) : w'.heap[k]? = some o := (hk.block k (stl_lt h) hr).trans h
/-- what a script has made -/
structure LawSt where
  vcs : Value
  vss : Value
  vl : Value
  lens : List Int
  mks : Nat
  vw : Value
  waits : List (Value × List Int)
  vr : Value
  weres : List Value
  vb : Value
  books : List (Int × List Value)
  still : List (Nat × Obj)
/-- the fields of World -/
def fld (s : LawSt) : Nat → Value
  | 0 => s.vcs
  | 1 => s.vss
  | 2 => s.vl
  | 3 => .slice none 0 0
  | 4 => .int .i64 s.mks
  | 5 => s.vw
  | 6 => s.vr
  | 7 => s.vb
  | _ => .slice none 0 0
def bookCells (b : Int × List Value) : List Value := .int .i64 b.1 :: b.2
/-- a list that came out: nil, or without spare room -/
def tight (v : Value) : Prop := v = .slice none 0 0 ∨ ∃ g n, v = .slice (some ⟨g, 0, none⟩) n n
/-- the caller's lists in memory: parts 1 lengths, 2 waits, 3 were, 4 books, 5 the World itself, 10 + i the i-th list that waits, 0 what is only read -/
structure Inv (B gW d : Nat) (ρ : Nat → Nat) (s : LawSt) (w : World) : Prop where
  gB : B ≤ gW
  hB : B ≤ w.heap.size
  row : w.rowIs gW 75 9 (fld s)
  len : OI w B s.vl s.lens
  wts : w.ownsRow B 69 1 s.vw s.waits.length (s.waits.map (·.1))
  wrs : w.ownsRow B 69 1 s.vr s.weres.length s.weres
  bks : w.ownsRow B 143 5 s.vb s.books.length (s.books.flatMap bookCells)
  lenw : s.weres.length = s.waits.length
  wt : ∀ i, (h : i < s.waits.length) → d ≤ i → OI w B s.waits[i].1 s.waits[i].2 ∧ tight s.waits[i].1
  wr : ∀ i, (h : i < s.weres.length) → (h' : i < s.waits.length) → OI w B s.weres[i] s.waits[i].2
  bk : ∀ b ∈ s.books, b.2.length = 4 ∧ ∀ v ∈ b.2, ∃ n, OI w B v (List.replicate n b.1)
  rW : ρ gW = 5
  rl : ∀ g, s.vl.ownBlock = some g → ρ g = 1
  rwv : ∀ g, s.vw.ownBlock = some g → ρ g = 2
  rr : ∀ g, s.vr.ownBlock = some g → ρ g = 3
  rb : ∀ g, s.vb.ownBlock = some g → ρ g = 4
  rwt : ∀ i, (h : i < s.waits.length) → d ≤ i → ∀ g, s.waits[i].1.ownBlock = some g → ρ g = 10 + i
  rwr : ∀ v ∈ s.weres, ∀ g, v.ownBlock = some g → ρ g = 0
  rbk : ∀ b ∈ s.books, ∀ v ∈ b.2, ∀ g, v.ownBlock = some g → ρ g = 0
  mkB : s.mks ≤ 1000000000
  lnB : s.lens.length ≤ 100000000
  lnN : s.vl = .slice none 0 0 ∨ 0 < s.lens.length
  wlB : ∀ i, (h : i < s.waits.length) → s.waits[i].2.length ≤ 269
  stl : ∀ x ∈ s.still, w.heap[x.1]? = some x.2
  rst : ∀ x ∈ s.still, ρ x.1 = 0
/-- where nothing that was there has turned -/
theorem Inv.kp {B gW d : Nat} {ρ : Nat → Nat} {s : LawSt} {w w' : World} (h : Inv B gW d ρ s w) (hk : Kp (fun _ => False) ρ w w') : Inv B gW d ρ s w' where
  gB := h.gB
  hB := Nat.le_trans h.hB hk.size
  row := row_kp h.row hk (fun x => x)
  len := own_kp h.len hk (fun _ _ x => x)
  wts := own_kp h.wts hk (fun _ _ x => x)
  wrs := own_kp h.wrs hk (fun _ _ x => x)
  bks := own_kp h.bks hk (fun _ _ x => x)
  lenw := h.lenw
  wt := fun i hi hd => ⟨own_kp (h.wt i hi hd).1 hk (fun _ _ x => x), (h.wt i hi hd).2⟩
  wr := fun i hi hi' => own_kp (h.wr i hi hi') hk (fun _ _ x => x)
  bk := fun b hb => ⟨(h.bk b hb).1, fun v hv => by obtain ⟨n, hn⟩ := (h.bk b hb).2 v hv; exact ⟨n, own_kp hn hk (fun _ _ x => x)⟩⟩
  rW := h.rW
  rl := h.rl
  rwv := h.rwv
  rr := h.rr
  rb := h.rb
  rwt := h.rwt
  rwr := h.rwr
  rbk := h.rbk
  mkB := h.mkB
  lnB := h.lnB
  lnN := h.lnN
  wlB := h.wlB
  stl := fun x hx => stl_kp (h.stl x hx) hk (fun x => x)
  rst := h.rst
theorem Inv.below {B gW d : Nat} {ρ : Nat → Nat} {s : LawSt} {w w' : World} (h : Inv B gW d ρ s w) (hb : Below w.heap.size w w') : Inv B gW d ρ s w' := h.kp (Kp.of_below hb)
theorem Inv.drewN {B gW d : Nat} {ρ : Nat → Nat} {s : LawSt} {w : World} (h : Inv B gW d ρ s w) (q : Nat) : Inv B gW d ρ s (w.drewN q) := h.kp ⟨Nat.le_refl _, fun _ _ _ => rfl⟩
end Go.Proofs.YtbcjmakpempkiaaGreatDoor
