/- The contract of wholeInts: a list that was lent is as it was; the caller writes its mark into it. -/
import Derived.Test.YtbcjmakpempkiaaGreatDoorLc
import Derived.Deep.RegionHeld3
import Derived.Deep.RegionLaw
namespace Go.Proofs.YtbcjmakpempkiaaGreatDoor
open Go.RowKit

theorem whole_nil (gW : Nat) (v : Value) (w : World) :
    Calls Tryz.prog 85 #[.pointer (some ⟨gW, 0, none⟩), v, .slice none 0 0] w fun e w' => e = .returned (.bool true) ∧ w = w' := by
  have h := eqNilOf none 0 0
  simp only [Option.isNone_none] at h
  go_enter Tryz.func85, Tryz.ntmps85
  go_wp2_with fail
  go_ret
  exact ⟨rfl, rfl⟩

/-- a lent list, the first k cells marked -/
def markTo (l : List Int) (m : Int) (k i : Nat) : Int := if i < k then m else lentAt l i
theorem mark_step {l : List Int} {m : Int} {wr : World} {g n k : Nat} (h : wr.rowIs g 3 n (fun i => .int .i64 (markTo l m k i))) : (wr.setCell ⟨g, k, none⟩ (.int .i64 m)).rowIs g 3 n (fun i => .int .i64 (markTo l m (k + 1) i)) := by
  refine (h.set k _).congr fun i _ => ?_
  unfold markTo
  by_cases e : i = k
  · rw [if_pos e, if_pos (by omega)]
  · rw [if_neg e]
    by_cases e1 : i < k
    · rw [if_pos e1, if_pos (by omega)]
    · rw [if_neg e1, if_neg (by omega)]
theorem mark_at {l : List Int} {m : Int} {k : Nat} : markTo l m k k = lentAt l k := by unfold markTo; rw [if_neg (by omega)]
theorem info_book : (Tryz.prog.info? 143).map (fun i => (i.zero, i.size, i.bytes)) = some (some (.agg #[.int .i64 0, .slice none 0 0, .slice none 0 0, .slice none 0 0, .slice none 0 0]), 5, 104) := by kernel_rfl

/-- behind wholeInts -/
def sWhole (s : LawSt) (g : Nat) (vb : Value) : LawSt := { s with mks := s.mks + 1, vb := vb, books := s.books ++ [(-((s.mks : Int) + 1), [.slice (some ⟨g, 0, none⟩) (s.lens.length + 8) (s.lens.length + 8), .slice none 0 0, .slice none 0 0, .slice none 0 0])] }
theorem whole_done {B gW : Nat} {ρ : Nat → Nat} {s : LawSt} {g gg cap : Nat} {w wr w1 : World} (h : Inv B gW 0 ρ s w) (hρ : ρ g = 6) (hBg : B ≤ g) (hmk : s.mks < 1000000000)
    (hrow : wr.rowIs g 3 (s.lens.length + 8) (fun i => .int .i64 (markTo s.lens (-((s.mks : Int) + 1)) (s.lens.length + 8) i))) (hrW : wr.rowIs gW 75 9 (fld { s with mks := s.mks + 1 })) (hkp : Kp (fun r => r = 5 ∨ r = 6) ρ w wr) (hbel : Below B w wr)
    (hgrow : (wr.alloc (.cells #[.int .i64 (-((s.mks : Int) + 1)), .slice (some ⟨g, 0, none⟩) (s.lens.length + 8) (s.lens.length + 8), .slice none 0 0, .slice none 0 0, .slice none 0 0] 143)).drew.grownBy w1 s.vb.ownBlock)
    (hown : w1.ownsRow B 143 5 (.slice (some ⟨gg, 0, none⟩) (s.books.length + 1) cap) (s.books.length + 1) (s.books.flatMap bookCells ++ [.int .i64 (-((s.mks : Int) + 1)), .slice (some ⟨g, 0, none⟩) (s.lens.length + 8) (s.lens.length + 8), .slice none 0 0, .slice none 0 0, .slice none 0 0]))
    (hat : s.vb.ownBlock = some gg ∨ gg = wr.heap.size + 1) :
    Below B w (w1.setCell ⟨gW, 7, none⟩ (.slice (some ⟨gg, 0, none⟩) (s.books.length + 1) cap)) ∧ ∃ (ρ' : Nat → Nat) (vb' : Value), Inv B gW 0 ρ' (sWhole s g vb') (w1.setCell ⟨gW, 7, none⟩ (.slice (some ⟨gg, 0, none⟩) (s.books.length + 1) cap)) ∧ Kp (fun r => r = 4 ∨ r = 5 ∨ r = 6) ρ w (w1.setCell ⟨gW, 7, none⟩ (.slice (some ⟨gg, 0, none⟩) (s.books.length + 1) cap)) ∧ (w1.setCell ⟨gW, 7, none⟩ (.slice (some ⟨gg, 0, none⟩) (s.books.length + 1) cap)).rowIs g 3 (s.lens.length + 8) (fun _ => .int .i64 (-((s.mks : Int) + 1))) ∧ (∀ k, k < w.heap.size → k ≠ g → ρ' k = ρ k) := by
  have hI1 : Inv B gW 0 ρ { s with mks := s.mks + 1 } wr := h.marked (R := fun r => r = 5 ∨ r = 6) hkp (fun r hr => by omega) (Nat.le_refl _) hrW (by omega)
  have hI2 : Inv B gW 0 (setρ ρ g 0) { s with mks := s.mks + 1 } wr := hI1.free (by rw [hρ]; omega)
  have hrow' : wr.rowIs g 3 (s.lens.length + 8) (fun _ => .int .i64 (-((s.mks : Int) + 1))) := hrow.congr (fun i hi => by unfold markTo; rw [if_pos hi])
  have hO : OI wr B (.slice (some ⟨g, 0, none⟩) (s.lens.length + 8) (s.lens.length + 8)) (List.replicate (s.lens.length + 8) (-((s.mks : Int) + 1))) := by
    have := OI.of_row (w := wr) (B := B) (g := g) (l := List.replicate (s.lens.length + 8) (-((s.mks : Int) + 1))) hBg (List.length_replicate) (by have := h.lnB; unfold maxLen; omega) (hrow'.congr (fun i hi => by simp [hi]))
    simpa using this
  have hne : gg ≠ g := by
    rcases hat with e | e
    · intro e'; have := h.rb gg e; rw [e', hρ] at this; omega
    · have := hrow.lt; omega
  obtain ⟨a1, a2, a3⟩ := hI2.addBook (b := (-((s.mks : Int) + 1), [.slice (some ⟨g, 0, none⟩) (s.lens.length + 8) (s.lens.length + 8), .slice none 0 0, .slice none 0 0, .slice none 0 0])) hgrow hown hat rfl
    (by
      intro v hv
      simp only [List.mem_cons, List.not_mem_nil, or_false] at hv
      rcases hv with rfl | rfl | rfl | rfl
      · exact ⟨_, hO⟩
      · exact ⟨0, OI.nil _ _⟩
      · exact ⟨0, OI.nil _ _⟩
      · exact ⟨0, OI.nil _ _⟩)
    (by
      intro v hv g' hg'
      simp only [List.mem_cons, List.not_mem_nil, or_false] at hv
      rcases hv with rfl | rfl | rfl | rfl <;> simp [Value.ownBlock] at hg'
      subst hg'; exact setρ_at _ _ _)
  have k2 : Kp (fun r => r = 4 ∨ r = 5 ∨ r = 6) ρ w (w1.setCell ⟨gW, 7, none⟩ (.slice (some ⟨gg, 0, none⟩) (s.books.length + 1) cap)) := by
    refine (hkp.mono (fun _ x => Or.inr x)).trans ((a2.mono (R' := fun r => r = 4 ∨ r = 5 ∨ r = 6) (fun _ x => by omega)).congr (fun k hk hr => ?_))
    by_cases e : k = g
    · subst e; rw [hρ] at hr; simp at hr
    · rw [setρ_ne e]; exact hr
  refine ⟨hbel.trans a3, setρ (setρ ρ g 0) gg 4, _, a1, k2, ?_, fun k hk hkg => ?_⟩
  · have hgW : g ≠ gW := fun e => by have := h.rW; rw [← e, hρ] at this; omega
    exact row_kp hrow' a2 (by rw [setρ_at]; omega)
  · by_cases e : k = gg
    · subst e
      rcases hat with e | e
      · rw [setρ_at, h.rb _ e]
      · have := hkp.size; omega
    · rw [setρ_ne e, setρ_ne hkg]
theorem wrapEq (x : Int) : IntKind.i64.wrap x = wrap64 x := by rw [IntKind.wrap_i64]; unfold wrap64; rfl
theorem wrap_neg {m : Nat} (h : m < 1000000000) : IntKind.i64.wrap (-((m : Int) + 1)) = -((m : Int) + 1) := by
  rw [wrapEq, IntWalk.wrap64_in _ ⟨by omega, by omega⟩]
theorem k_far {w w1 : World} {row : Option Nat} {o : Obj} {a : Addr} {v : Value} (hg : (w.alloc o).drew.grownBy w1 row) (hlt : a.block < w.heap.size) (hne : row ≠ some a.block) (h : w.cell? a = some v) : w1.cell? a = some v := by
  have h1 : w1.heap[a.block]? = w.heap[a.block]? := (hg.block a.block (by simp; omega) (Ne.symm hne)).trans (Below.heap_alloc w o a.block hlt)
  rw [World.cell?_of_block (w := w) h1, h]
theorem z_far {w w1 : World} {row : Option Nat} {o : Obj} {a : Addr} (hg : (w.alloc o).drew.grownBy w1 row) (hlt : a.block < w.heap.size) (hne : row ≠ some a.block) (h : w.frozen? a = false) : w1.frozen? a = false := by
  have h1 : w1.heap[a.block]? = w.heap[a.block]? := (hg.block a.block (by simp; omega) (Ne.symm hne)).trans (Below.heap_alloc w o a.block hlt)
  rw [World.frozen?_of_block (w := w) h1, h]
theorem k_far' {w w1 : World} {row : Option Nat} {o : Obj} {a : Addr} {v : Value} (hg : (w.alloc o).grownBy w1 row) (hlt : a.block < w.heap.size) (hne : row ≠ some a.block) (h : w.cell? a = some v) : w1.cell? a = some v := by
  have h1 : w1.heap[a.block]? = w.heap[a.block]? := (hg.block a.block (by simp; omega) (Ne.symm hne)).trans (Below.heap_alloc w o a.block hlt)
  rw [World.cell?_of_block (w := w) h1, h]
theorem z_far' {w w1 : World} {row : Option Nat} {o : Obj} {a : Addr} (hg : (w.alloc o).grownBy w1 row) (hlt : a.block < w.heap.size) (hne : row ≠ some a.block) (h : w.frozen? a = false) : w1.frozen? a = false := by
  have h1 : w1.heap[a.block]? = w.heap[a.block]? := (hg.block a.block (by simp; omega) (Ne.symm hne)).trans (Below.heap_alloc w o a.block hlt)
  rw [World.frozen?_of_block (w := w) h1, h]
theorem fz_keep {w : World} {o : Obj} {a : Addr} (hlt : a.block < w.heap.size) (h : w.frozen? a = false) : (w.alloc o).frozen? a = false := by
  rw [World.frozen?_of_block (w := w) (Below.heap_alloc w o a.block hlt), h]
set_option maxRecDepth 100000 in
set_option maxHeartbeats 2000000 in
theorem whole_some (B gW : Nat) (ρ : Nat → Nat) (s : LawSt) (g gl cl : Nat) (w : World) (h : Inv B gW 0 ρ s w) (hv : s.vl = .slice (some ⟨gl, 0, none⟩) s.lens.length cl) (hrow : w.rowIs g 3 (s.lens.length + 8) (fun i => .int .i64 (lentAt s.lens i))) (hρ : ρ g = 6) (hBg : B ≤ g) (hbl : s.books.length ≤ 1000000000) (hmk : s.mks < 1000000000) :
    Calls Tryz.prog 85 #[.pointer (some ⟨gW, 0, none⟩), .slice (some ⟨g, 0, none⟩) s.lens.length (s.lens.length + 8), .slice (some ⟨gl, 0, none⟩) s.lens.length cl] w fun e w' => e = .returned (.bool true) ∧ Below B w w' ∧ ∃ (ρ' : Nat → Nat) (vb' : Value), Inv B gW 0 ρ' (sWhole s g vb') w' ∧ Kp (fun r => r = 4 ∨ r = 5 ∨ r = 6) ρ w w' ∧ w'.rowIs g 3 (s.lens.length + 8) (fun _ => .int .i64 (-((s.mks : Int) + 1))) ∧ (∀ k, k < w.heap.size → k ≠ g → ρ' k = ρ k) := by
  have hne := eqNilOf (some ⟨gl, 0, none⟩) s.lens.length cl
  simp only [Option.isNone_some] at hne
  have HI : Hid (Inv B gW 0 ρ s w) := h
  have hgl : gW < w.heap.size := h.row.lt
  have c4 : w.cell? ⟨gW, 4, none⟩ = some (.int .i64 s.mks) := h.row.cell (i := 4) (by omega)
  have f4 := h.row.frozen 4
  have hlB := h.lnB
  have hgg : g ≠ gW := fun e => by have := h.rW; rw [← e, hρ] at this; omega
  have R1 : (w.setCell ⟨gW, 4, none⟩ (.int .i64 (s.mks + 1))).rowIs g 3 (s.lens.length + 8) (fun i => .int .i64 (markTo s.lens (-((s.mks : Int) + 1)) 0 i)) := (hrow.setOther (by simpa using hgg) _).congr (fun i _ => by simp [markTo])
  have R2 : (w.setCell ⟨gW, 4, none⟩ (.int .i64 (s.mks + 1))).rowIs gW 75 9 (fld { s with mks := s.mks + 1 }) := (h.row.set 4 _).congr (fun i hi => by
    have : i = 0 ∨ i = 1 ∨ i = 2 ∨ i = 3 ∨ i = 4 ∨ i = 5 ∨ i = 6 ∨ i = 7 ∨ i = 8 := by omega
    rcases this with rfl | rfl | rfl | rfl | rfl | rfl | rfl | rfl | rfl <;> simp [fld])
  have R3 : Kp (fun r => r = 5 ∨ r = 6) ρ w (w.setCell ⟨gW, 4, none⟩ (.int .i64 (s.mks + 1))) := Kp.of_set w _ _ (Or.inl h.rW)
  have R4 : Below B w (w.setCell ⟨gW, 4, none⟩ (.int .i64 (s.mks + 1))) := (Below.refl _ _).setCell h.gB _
  clear h hrow
  go_enter Tryz.func85, Tryz.ntmps85
  go_wp2_with fail
  go_loopw [9, 10] (fun ok i wr => ∃ k : Nat, k ≤ s.lens.length + 8 ∧ i = .int .i64 k ∧ ok = .bool true ∧ wr.rowIs g 3 (s.lens.length + 8) (fun i => .int .i64 (markTo s.lens (-((s.mks : Int) + 1)) k i)) ∧ wr.rowIs gW 75 9 (fld { s with mks := s.mks + 1 }) ∧ Kp (fun r => r = 5 ∨ r = 6) ρ w wr ∧ Below B w wr) (fun _ i _ => s.lens.length + 8 - (intOf i).toNat)
  case atStart => exact ⟨0, by omega, rfl, rfl, R1, R2, R3, R4⟩
  case round =>
    clear R1 R2 R3 R4
    obtain ⟨k, hk, rfl, rfl, hrow, hrW, hkp, hbel⟩ := hrel
    have c4' : wr.cell? ⟨gW, 4, none⟩ = some (.int .i64 (s.mks + 1)) := by rw [hrW.cell (i := 4) (by omega)]; simp [fld]
    clear c4
    by_cases hlt : k < s.lens.length + 8
    · have g1 := hrow.cell hlt
      rw [mark_at] at g1
      have g2 := hrow.frozen k
      have S1 := mark_step hrow
      have S2 := hrW.setOther (a := ⟨g, k, none⟩) (by simpa using (Ne.symm hgg)) (.int .i64 (-((s.mks : Int) + 1)))
      have S3 := hkp.trans (Kp.of_set wr ⟨g, k, none⟩ (.int .i64 (-((s.mks : Int) + 1))) (Or.inr hρ))
      have S4 := hbel.setCell (p := ⟨g, k, none⟩) hBg (.int .i64 (-((s.mks : Int) + 1)))
      by_cases hin : k < s.lens.length
      · obtain ⟨x, hx⟩ : ∃ x, s.lens.getD k 0 = x := ⟨_, rfl⟩
        have g3 : wr.cell? ⟨gl, k, none⟩ = some (.int .i64 x) := by
          have h1 := HI.out.len
          rw [hv] at h1
          have h2 : w.cell? ⟨gl, k, none⟩ = some (.int .i64 x) := by
            rw [World.ownsRow.cellAt h1 k (by omega), ← hx]; simp [ivals, hin]
          have h3 : wr.heap[gl]? = w.heap[gl]? := hkp.block gl (World.block_lt_of_cell? w _ h2) (by have := HI.out.rl gl (by rw [hv]; rfl); omega)
          rw [World.cell?_of_block (w := w) h3, h2]
        have e1 : lentAt s.lens k = x := by unfold lentAt; rw [if_pos hin, hx]
        rw [e1] at g1
        clear e1 hx
        go_wp2_with fail
        go_roundw
        case rel => exact ⟨k + 1, by omega, by go_num, rfl, S1, S2, S3, S4⟩
        case measure => simp [intOf]; omega
      · have e1 : lentAt s.lens k = 77 := by unfold lentAt; rw [if_neg hin]
        rw [e1] at g1
        clear e1
        go_wp2_with fail
        go_roundw
        case rel => exact ⟨k + 1, by omega, by go_num, rfl, S1, S2, S3, S4⟩
        case measure => simp [intOf]; omega
    · obtain rfl : k = s.lens.length + 8 := by omega
      obtain ⟨i0, hi, hz0, hz1, hz2⟩ := info_parts info_book
      have c7 : wr.cell? ⟨gW, 7, none⟩ = some s.vb := by rw [hrW.cell (i := 7) (by omega)]; simp [fld]
      have f7 := hrW.frozen 7
      have hwl := hrW.lt
      have hbk : wr.ownsRow B 143 5 s.vb s.books.length (s.books.flatMap bookCells) := own_kp HI.out.bks hkp (fun g' hg' => by have := HI.out.rb g' hg'; omega)
      have hsz := hbel.size
      have hBs := HI.out.hB
      have ag : s.vb.ownBlock ≠ some gW := fun e => by have h1 := HI.out.rb gW e; have h2 := HI.out.rW; omega
      have hwrap : IntKind.i64.wrap (-((s.mks : Int) + 1)) = -((s.mks : Int) + 1) := wrap_neg hmk
      go_wp2_with fail
      go_region_law
        ((refine step_append_lies _ (by rfl) _ _ _ (by rfl) B 143 i0 _ 5 104 Tryz.underlying72 hi hz0 hz1 hz2 rfl (by omega) s.vb s.books.length (s.books.flatMap bookCells) (by rfl) ((hbk.alloc _).drew)
            ⟨wr.heap.size, 0, none⟩ 1 1 [.int .i64 (-((s.mks : Int) + 1)), .slice (some ⟨g, 0, none⟩) (s.lens.length + 8) (s.lens.length + 8), .slice none 0 0, .slice none 0 0, .slice none 0 0] (by rfl) (by rfl) (World.news_of_block (cs := #[.int .i64 (-((s.mks : Int) + 1)), .slice (some ⟨g, 0, none⟩) (s.lens.length + 8) (s.lens.length + 8), .slice none 0 0, .slice none 0 0, .slice none 0 0]) (t := 143) (fr := (0, 0)) (heap_alloc_new wr _)) (by simp [Value.oneCell'])
            (by omega) (by unfold maxLen; omega) (by omega) (by simp; omega) (wr.heap.size + 1) (by simp) ?_; intro gg cap w1 hown1 hgrow hat hlt; have k7 := k_far hgrow hwl ag c7; have z7 := z_far hgrow hwl ag f7))
      all_goals go_wp2_with fail
      all_goals go_ret
      all_goals
        have T := whole_done HI.out hρ hBg hmk hrow hrW hkp hbel hgrow hown1 hat
        exact ⟨rfl, T.1, T.2⟩
end Go.Proofs.YtbcjmakpempkiaaGreatDoor
