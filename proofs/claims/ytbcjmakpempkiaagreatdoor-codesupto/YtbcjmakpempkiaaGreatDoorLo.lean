/- The law of Codes: the script that came in, and the walk. -/
import Derived.Test.YtbcjmakpempkiaaGreatDoorRows
import Derived.Test.YtbcjmakpempkiaaGreatDoorLn
import Derived.Deep.Slices
namespace Go.Proofs.YtbcjmakpempkiaaGreatDoor
open Go.RowKit Go.Deep

theorem cells_int : Tryz.prog.cellsOf 3 = 1 := by kernel_rfl
theorem cells_str : Tryz.prog.cellsOf 9 = 1 := by kernel_rfl
theorem cells_strs : Tryz.prog.cellsOf 30 = 1 := by kernel_rfl
theorem cells_op : Tryz.prog.cellsOf 79 = 6 := by kernel_rfl

theorem bulk_one {H : Type} (d : DataW H) : 1 ≤ Rows.uptoBulk d := by
  cases d with
  | lit l => cases l <;> simp [Rows.uptoBulk]
  | _ => simp [Rows.uptoBulk]
theorem bulk_length {H : Type} (l : List (DataW H)) : l.length ≤ Rows.uptoBulkAll l := by
  induction l with
  | nil => simp [Rows.uptoBulkAll]
  | cons x r ih => have := bulk_one x; simp only [Rows.uptoBulkAll, List.length_cons]; omega


set_option maxRecDepth 100000 in
theorem op_of {H : Type} {enc : TypeId × Value → H} {W : World} {base : Nat} {spare : Nat → Bool} {held : Bool} {n : Nat} {cs : List Value} {x : DataW H × List MemPlace} (h : DataW.trod enc Tryz.prog W base spare held n 79 cs = some x) :
    ∃ (kd a b c : Int) (t : ByteArray) (ap : Option Addr) (np cp : Nat), cs = [.int .i64 kd, .int .i64 a, .int .i64 b, .int .i64 c, .string t, .slice ap np cp] ∧ t.size ≤ maxLen := by
  obtain ⟨xs, k, hk, hxy, hlen, hxl, hf⟩ := DataW.trod_struct Tryz.underlying79 h
  rw [cells_op] at hlen
  have hxl6 : xs.length = 6 := hxl
  match xs, hxl6, cs, hlen with
  | [y0, y1, y2, y3, y4, y5], _, [v0, v1, v2, v3, v4, v5], _ =>
    have g0 := hf 0 _ rfl
    have g1 := hf 1 _ rfl
    have g2 := hf 2 _ rfl
    have g3 := hf 3 _ rfl
    have g4 := hf 4 _ rfl
    have g5 := hf 5 _ rfl
    simp [cells_int, cells_str, cells_strs] at g0 g1 g2 g3 g4 g5
    obtain ⟨z0, e0, _, _⟩ := DataW.trod_int Tryz.underlying3 g0
    obtain ⟨z1, e1, _, _⟩ := DataW.trod_int Tryz.underlying3 g1
    obtain ⟨z2, e2, _, _⟩ := DataW.trod_int Tryz.underlying3 g2
    obtain ⟨z3, e3, _, _⟩ := DataW.trod_int Tryz.underlying3 g3
    obtain ⟨t, e4, _, ht⟩ := DataW.trod_string Tryz.underlying9 g4
    obtain ⟨ap, np, cp, e5⟩ : ∃ ap np cp, v5 = .slice ap np cp := by
      rcases DataW.trod_slice Tryz.underlying30 g5 with ⟨e, _⟩ | ⟨a, len, cap, _, _, _, _, e, _⟩
      · exact ⟨none, 0, 0, by simpa using e⟩
      · exact ⟨some a, len, cap, by simpa using e⟩
    simp at e0 e1 e2 e3 e4
    exact ⟨z0, z1, z2, z3, t, ap, np, cp, by rw [e0, e1, e2, e3, e4, e5], ht⟩


set_option maxRecDepth 100000 in
theorem script_of {H : Type} {enc : TypeId × Value → H} {W : World} {base : Nat} {spare : Nat → Bool} {held : Bool} {fuel : Nat} {ad : Option Addr} {n cap : Nat} {x : DataW H × List MemPlace} (h : DataW.trod enc Tryz.prog W base spare held fuel 22 [.slice ad n cap] = some x) :
    Script W ad n ∧ n ≤ Rows.uptoBulk x.1 := by
  rcases open_slice Tryz.underlying22 h with ⟨hcs, rfl⟩ | ⟨a, len, cp, m, f, D, Pl, hcs, hb, hl, hm, hmm, rfl, hx⟩
  · simp at hcs
    obtain ⟨rfl, rfl, rfl⟩ := hcs
    exact ⟨fun k hk => by omega, Nat.zero_le _⟩
  · simp at hcs
    obtain ⟨rfl, rfl, rfl⟩ := hcs
    have hlm : n ≤ m := by rw [hmm]; split <;> omega
    refine ⟨fun k hk => ?_, ?_⟩
    · obtain ⟨cs', h1, h2⟩ := hx k (by omega)
      obtain ⟨kd, xa, xb, xc, t, ap, np, cp, rfl, ht⟩ := op_of h2
      rw [cells_op] at h1
      obtain ⟨_, _, hcell⟩ := World.cells?_some h1
      simp only [add_add] at hcell
      obtain ⟨b0, o0, spot⟩ := a
      have hspot : spot = none := by
        obtain ⟨cs0, h10, h20⟩ := hx 0 (by omega)
        rw [cells_op] at h10
        obtain ⟨_, _, hcell0⟩ := World.cells?_some h10
        obtain ⟨_, _, _, _, _, _, _, _, rfl, _⟩ := op_of h20
        have := hcell0 0 (by omega)
        simp [add_add] at this
        simpa [Addr.add] using World.cell?_spot this
      subst hspot
      have e0 := hcell 0 (by omega)
      have e1 := hcell 1 (by omega)
      have e2 := hcell 2 (by omega)
      have e3 := hcell 3 (by omega)
      have e4 := hcell 4 (by omega)
      have e5 := hcell 5 (by omega)
      rw [Go.WideShapes.add_plain] at e0 e1 e2 e3 e4 e5
      simp only [← Nat.add_assoc] at e1 e2 e3 e4 e5
      refine ⟨b0, o0, kd, xa, xb, xc, t, ap, np, cp, rfl, World.block_lt_of_cell? W _ e0, ?_, ?_, ?_, ?_, ?_, ?_, ht⟩
      · simpa using e0
      · simpa using e1
      · simpa using e2
      · simpa using e3
      · simpa using e4
      · simpa using e5
    · have := bulk_length ((List.range n).map D)
      simp only [Rows.uptoBulk]
      simp at this
      omega
/-- THE WALK. -/
theorem codes_walk (ad : Option Addr) (n cap : Nat) (w : World) (hn : n ≤ 1048576) (hsc : Script w ad n) :
    Calls Tryz.prog 3 #[.slice ad n cap] w fun e w' => e = .returned (.bool true) ∧ Below w.heap.size w w' := by
  have HSC : Hid (Script w ad n) := hsc
  clear hsc
  go_enter Tryz.func3, Tryz.ntmps3
  go_wp2_with fail
  refine (plays_codes ad n cap w hn HSC.out).mono ?_
  rintro e w' ⟨rfl, hb⟩
  go_wp2_with fail
  go_ret
  exact ⟨rfl, hb⟩
end Go.Proofs.YtbcjmakpempkiaaGreatDoor
