/- The contract of words at a Codes, of no lengths. -/
import Derived.Test.YtbcjmakpempkiaaGreatDoorLg
namespace Go.Proofs.YtbcjmakpempkiaaGreatDoor
open Go.RowKit
theorem neNil (w : World) : (binOp .neq 69 (.slice none 0 0) (.slice none 0 0)).run Tryz.prog w = .ok (.bool false) w := by
  rw [run_neq_slice_nil_any w 69 3 none 0 0 0 0 Tryz.underlying69]; rfl
theorem cellsO_nil (w : World) (ad : Option Addr) : CellsO w ad [] := fun k hk => by simp at hk
theorem refCodes_empty (w : World) : Calls Tryz.prog 84 #[.slice none 0 0] w fun e w' => e = .returned (.tuple #[.slice none 0 0, .int .i64 10]) ∧ Below w.heap.size w w' := by
  refine (refCodes_near none 0 [] w (by simp) (cellsO_nil w _)).mono ?_
  rintro e w' (⟨h, _⟩ | ⟨_, h⟩)
  · exact absurd h (by decide)
  · exact h
theorem same_nil (w : World) : Calls Tryz.prog 62 #[.slice none 0 0, .slice none 0 0] w fun e w' => e = .returned (.bool true) ∧ ∃ q, w' = w.drewN q :=
  same_true none none 0 0 [] w (by simp) (cellsO_nil w _) (cellsO_nil w _)
theorem below_drewN {B : Nat} {w w2 : World} (h : Below B w w2) (q : Nat) : Below B w (w2.drewN q) := ⟨h.os, h.tape, h.output, h.size, h.block⟩
set_option maxRecDepth 100000 in
set_option maxHeartbeats 4000000 in
theorem words_codes_nil (B gW : Nat) (ρ : Nat → Nat) (s : LawSt) (a b c : Int) (t : ByteArray) (ap : Option Addr) (np cp : Nat) (w : World) (h : Inv B gW 0 ρ s w) (hv : s.vl = .slice none 0 0) (hwl : s.waits.length ≤ 100000000) :
    Calls Tryz.prog 59 #[.pointer (some ⟨gW, 0, none⟩), .agg (opV 4 a b c t (.slice ap np cp))] w fun e w' => e = .returned (.bool true) ∧ Below B w w' ∧ ∃ (ρ' : Nat → Nat) (s' : LawSt), Inv B gW 0 ρ' s' w' ∧ s'.still = s.still ∧ s'.vcs = s.vcs ∧ s'.vss = s.vss ∧ s'.vl = s.vl ∧ s'.lens = s.lens ∧ s'.mks ≤ s.mks + 1 ∧ s'.waits.length = s.waits.length + 2 ∧ s'.books.length ≤ s.books.length + 1 := by
  have HI : Hid (Inv B gW 0 ρ s w) := h
  have hgl : gW < w.heap.size := h.row.lt
  have c2 : w.cell? ⟨gW, 2, none⟩ = some (.slice none 0 0) := by rw [h.row.cell (i := 2) (by omega)]; simp [fld, hv]
  have hlw := h.lenw
  have HLW : Hid (s.weres.length = s.waits.length) := hlw
  have HV : Hid (s.vl = .slice none 0 0) := hv
  clear h hlw hv
  have hne := neNil
  unfold opV
  go_enter Tryz.func59, Tryz.ntmps59
  go_wp2_with (go_at_call 82; refine (lent_nil _).mono ?_; rintro e w' ⟨rfl, rfl⟩)
  have B0 : Below w.heap.size w (w.alloc (.cells #[.int .i64 4, .int .i64 a, .int .i64 b, .int .i64 c, .string t, .slice ap np cp] 79)) := (Below.refl _ _).alloc (Nat.le_refl _) _
  refine (codes_empty none 0 _).mono ?_
  rintro e w1 ⟨rfl, hb1⟩
  have B1 := grow2 B0 hb1
  clear B0 hb1
  go_wp2_with fail
  refine (codes_empty none 0 _).mono ?_
  rintro e w2 ⟨rfl, hb2⟩
  have B2 := grow2 B1 hb2
  have c2' : w2.cell? ⟨gW, 2, none⟩ = some (.slice none 0 0) := (B2.cell (p := ⟨gW, 2, none⟩) hgl).trans c2
  clear B1 hb2
  go_wp2_with fail
  refine (refCodes_empty _).mono ?_
  rintro e w3 ⟨rfl, hb3⟩
  have B3 := grow2 B2 hb3
  have c2'' : w3.cell? ⟨gW, 2, none⟩ = some (.slice none 0 0) := (B3.cell (p := ⟨gW, 2, none⟩) hgl).trans c2
  clear B2 hb3 c2'
  go_wp2_with fail
  refine (whole_nil gW _ _).mono ?_
  rintro e w' ⟨rfl, rfl⟩
  go_wp2_with fail
  refine (same_nil _).mono ?_
  rintro e w' ⟨rfl, q, rfl⟩
  go_wp2_with fail
  refine (same_nil _).mono ?_
  rintro e w' ⟨rfl, q2, rfl⟩
  go_wp2_with (go_at_call 86; refine (num_any _ _).mono ?_; rintro e w' ⟨rfl, rfl⟩)
  have B4 := below_drewN B3 (q + q2)
  refine (codes_empty none 0 _).mono ?_
  rintro e w4 ⟨rfl, hb4⟩
  have B5 := grow2 B4 hb4
  clear B3 B4 hb4 c2''
  go_wp2_with fail
  refine (refCodes_empty _).mono ?_
  rintro e w5 ⟨rfl, hb5⟩
  have B6 := grow2 B5 hb5
  clear B5 hb5
  go_wp2_with fail
  refine (same_nil _).mono ?_
  rintro e w' ⟨rfl, q3, rfl⟩
  have B7 := below_drewN B6 q3
  have hI7 := HI.out.below B7
  have HB7 : Hid (Below B w (w5.drewN q3)) := B7.mono HI.out.hB
  clear B6 B7
  go_wp2_with (go_at_call 86; refine (num_any _ _).mono ?_; rintro e w' ⟨rfl, rfl⟩)
  refine (keep_nil B gW ρ s _ hI7 (by have := HLW.out; omega) (by omega)).mono ?_
  rintro e w6 ⟨rfl, hb8, ρ8, vw, vr, u, hI8, _, _⟩
  have HI8 : Hid _ := hI8
  have HB8 : Hid (Below B w w6) := HB7.out.trans hb8
  clear hI7 hI8 hb8
  go_wp2_with fail
  refine (keep_nil B gW ρ8 _ _ HI8.out (by have := HLW.out; simp; omega) (by simp; omega)).mono ?_
  rintro e w7 ⟨rfl, hb9, ρ9, vw9, vr9, u9, hI9, _, _⟩
  have HI9 : Hid _ := hI9
  have HB9 : Hid (Below B w w7) := HB8.out.trans hb9
  clear hI9 hb9
  go_wp2_with fail
  go_ret
  exact ⟨rfl, HB9.out, ρ9, _, HI9.out, rfl, rfl, rfl, rfl, rfl, by simp, by simp, by simp⟩
end Go.Proofs.YtbcjmakpempkiaaGreatDoor
