/- The contract of words at a Codes of a set that has codes. -/
import Derived.Test.YtbcjmakpempkiaaGreatDoorLi
namespace Go.Proofs.YtbcjmakpempkiaaGreatDoor
open Go.RowKit
theorem oi_base {w : World} {B B' n c g : Nat} {l : List Int} (h : w.ownsRow B' 3 1 (.slice (some ⟨g, 0, none⟩) n c) l.length (ivals l)) (hB : B ≤ B') : OI w B (.slice (some ⟨g, 0, none⟩) n c) l := by
  refine ⟨h.1, ?_⟩
  rcases h.2 with hn | ⟨g, cap, cur, e, hb, rest⟩
  · exact .inl hn
  · exact .inr ⟨g, cap, cur, e, Nat.le_trans hB hb, rest⟩
theorem oi_below {w w' : World} {B : Nat} {v : Value} {l : List Int} (h : OI w B v l) (hb : Below w.heap.size w w') : OI w' B v l := own_kp (R := fun _ => False) (ρ := fun _ => 0) h (Kp.of_below hb) (fun _ _ x => x)
theorem oi_drewN {w : World} {B : Nat} {v : Value} {l : List Int} (h : OI w B v l) (q : Nat) : OI (w.drewN q) B v l := h
theorem oi_cells {w : World} {B n c : Nat} {ad : Option Addr} {l : List Int} (h : OI w B (.slice ad n c) l) : CellsO w ad l := by
  obtain ⟨ad', cap, e, hc⟩ := h.cells
  simp only [Value.slice.injEq] at e
  rw [e.1]; exact hc
theorem accepts_le {l : List Int} (h : accepts l = true) : l.length ≤ 269 := by simp [accepts] at h; exact h.1.1
theorem codes_yes' (ad : Option Addr) (cap : Nat) (l : List Int) (w : World) (hl : l.length ≤ 9223372036854775807) (hc : CellsO w ad l) (h : accepts l = true) :
    Calls Tryz.prog 83 #[.slice ad l.length cap] w fun e w' => ∃ g, e = .returned (.tuple #[.slice (some ⟨g, 0, none⟩) l.length l.length, .int .i64 0]) ∧ w.heap.size ≤ g ∧ w'.ownsRow w.heap.size 3 1 (.slice (some ⟨g, 0, none⟩) l.length l.length) (codesOf l).length (ivals (codesOf l)) ∧ Below w.heap.size w w' := by
  refine (codes_at ad cap l w hl hc).mono ?_
  rintro e w' (⟨_, g, he, hg, hrow, hb⟩ | ⟨h', _⟩)
  · refine ⟨g, he, hg, ?_, hb⟩
    have hn := codesOf_length l
    have := OI.of_row (w := w') (B := w.heap.size) (g := g) (l := codesOf l) (n := l.length) hg hn (by have := accepts_le h; unfold maxLen; omega) (hrow.congr (fun i hi => by rw [codesOf_getD l i hi]))
    unfold OI at this
    rw [hn] at this ⊢
    exact this
  · rw [h] at h'; simp at h'
theorem refCodes_yes (ad : Option Addr) (cap : Nat) (l : List Int) (w : World) (hc : CellsO w ad l) (h : accepts l = true) :
    Calls Tryz.prog 84 #[.slice ad l.length cap] w fun e w' => ∃ g c, e = .returned (.tuple #[.slice (some ⟨g, 0, none⟩) l.length c, .int .i64 0]) ∧ w.heap.size ≤ g ∧ w'.ownsRow w.heap.size 3 1 (.slice (some ⟨g, 0, none⟩) l.length c) (codesOf l).length (ivals (codesOf l)) ∧ Below w.heap.size w w' := by
  refine (refCodes_near ad cap l w (accepts_le h) hc).mono ?_
  rintro e w' (⟨_, v, he, hv, hb⟩ | ⟨h', _⟩)
  · have hr : inRange l = true := by simp [accepts] at h; exact h.1.2
    have hpos : 0 < l.length := by
      rcases Nat.eq_zero_or_pos l.length with e0 | e0
      · have : l = [] := List.length_eq_zero_iff.1 e0
        subst this; rw [accepts_empty] at h; simp at h
      · exact e0
    obtain ⟨g, c, e1, hg, _⟩ := hv.form hpos
    have e2 : rvals l l.length = codesOf l := by
      unfold rvals codesOf
      apply List.map_congr_left
      intro i hi
      exact rv_eq hr (by simpa using hi)
    refine ⟨g, c, by rw [he, e1], hg, ?_, hb⟩
    rw [e2, e1] at hv
    rw [codesOf_length]
    exact hv
  · rw [h] at h'; simp at h'
theorem same_n (ad bd : Option Addr) (cap cap' n : Nat) (l : List Int) (w : World) (hn : l.length = n) (hl : n ≤ 9223372036854775807) (hc : CellsO w ad l) (hd : CellsO w bd l) :
    Calls Tryz.prog 62 #[.slice ad n cap, .slice bd n cap'] w fun e w' => e = .returned (.bool true) ∧ ∃ q, w' = w.drewN q := by
  subst hn; exact same_true ad bd cap cap' l w hl hc hd
theorem keep_some_n (B gW : Nat) (ρ : Nat → Nat) (s : LawSt) (g n : Nat) (l : List Int) (w : World) (hn : l.length = n) (h : Inv B gW 0 ρ s w) (hO : OI w B (.slice (some ⟨g, 0, none⟩) n n) l) (hl : 0 < n) (hl2 : n ≤ 269) (hρ : 5 < ρ g ∧ ρ g < 10) (hwl : s.weres.length ≤ 1000000000) (hwl2 : s.waits.length ≤ 1000000000) :
    Calls Tryz.prog 87 #[.pointer (some ⟨gW, 0, none⟩), .slice (some ⟨g, 0, none⟩) n n] w fun e w' => e = .returned (.tuple #[]) ∧ Below B w w' ∧ ∃ (ρ' : Nat → Nat) (vw vr u : Value), Inv B gW 0 ρ' { s with vw := vw, waits := s.waits ++ [(.slice (some ⟨g, 0, none⟩) n n, l)], vr := vr, weres := s.weres ++ [u] } w' ∧ Kp (fun r => r = 2 ∨ r = 3 ∨ r = 5) ρ w w' ∧ (∀ k, k < w.heap.size → k ≠ g → ρ' k = ρ k) := by
  subst hn; exact keep_some B gW ρ s g l w h hO hl hl2 hρ hwl hwl2

set_option maxRecDepth 100000 in
set_option maxHeartbeats 4000000 in
theorem words_codes_yes (B gW : Nat) (ρ : Nat → Nat) (s : LawSt) (a b c : Int) (t : ByteArray) (ap : Option Addr) (np cp gl cl : Nat) (w : World) (h : Inv B gW 0 ρ s w) (hv : s.vl = .slice (some ⟨gl, 0, none⟩) s.lens.length cl) (hn : 0 < s.lens.length) (hacc : accepts s.lens = true) (hwl : s.waits.length ≤ 100000000) (hbl : s.books.length ≤ 900000000) (hmk : s.mks ≤ 900000000) :
    Calls Tryz.prog 59 #[.pointer (some ⟨gW, 0, none⟩), .agg (opV 4 a b c t (.slice ap np cp))] w fun e w' => e = .returned (.bool true) ∧ Below B w w' ∧ ∃ (ρ' : Nat → Nat) (s' : LawSt), Inv B gW 0 ρ' s' w' ∧ s'.still = s.still ∧ s'.vcs = s.vcs ∧ s'.vss = s.vss ∧ s'.vl = s.vl ∧ s'.lens = s.lens ∧ s'.mks ≤ s.mks + 1 ∧ s'.waits.length = s.waits.length + 2 ∧ s'.books.length ≤ s.books.length + 1 := by
  have HI : Hid (Inv B gW 0 ρ s w) := h
  have hgl : gW < w.heap.size := h.row.lt
  have c2 : w.cell? ⟨gW, 2, none⟩ = some (.slice (some ⟨gl, 0, none⟩) s.lens.length cl) := by rw [h.row.cell (i := 2) (by omega)]; simp [fld, hv]
  have hln := h.lnB
  have HLW : Hid (s.weres.length = s.waits.length) := h.lenw
  have HV : Hid (s.vl = .slice (some ⟨gl, 0, none⟩) s.lens.length cl) := hv
  have hcl : CellsO w (some ⟨gl, 0, none⟩) s.lens := by
    obtain ⟨ad, cap, e, hc⟩ := h.len.cells
    have := hv.symm.trans e
    simp only [Value.slice.injEq] at this
    rw [this.1]; exact hc
  have HC : Hid (CellsO w (some ⟨gl, 0, none⟩) s.lens) := hcl
  have hBs := h.hB
  clear h hv hcl
  have hne := neNil
  unfold opV
  go_enter Tryz.func59, Tryz.ntmps59
  go_wp2_with fail
  have B0 : Below w.heap.size w (w.alloc (.cells #[.int .i64 4, .int .i64 a, .int .i64 b, .int .i64 c, .string t, .slice ap np cp] 79)) := (Below.refl _ _).alloc (Nat.le_refl _) _
  refine (lent_some gl 0 cl s.lens _ (by omega) (HC.out.below B0 (Nat.le_refl _))).mono ?_
  rintro e w1 ⟨rfl, hrow1, hb1⟩
  obtain ⟨g, hg⟩ : ∃ g, g = (w.alloc (.cells #[.int .i64 4, .int .i64 a, .int .i64 b, .int .i64 c, .string t, .slice ap np cp] 79)).heap.size := ⟨_, rfl⟩
  have hgw : w.heap.size < g := by rw [hg]; simp
  have B1 := grow2 B0 hb1
  rw [← hg] at hrow1 ⊢
  clear B0 hb1 hg
  go_wp2_with fail
  refine (codes_yes' (some ⟨g, 0, none⟩) (s.lens.length + 8) s.lens _ (by omega) (row_lent hrow1) hacc).mono ?_
  rintro e w2 ⟨gc, rfl, hgc, hO2, hb2⟩
  have B2 := grow2 B1 hb2
  have hrow2 := hrow1.of_block (hb2.block g hrow1.lt)
  have hglt := hrow1.lt
  have hBw1 : B ≤ w1.heap.size := Nat.le_trans hBs B1.size
  have hgclt : gc < w2.heap.size := own_lt hO2 rfl
  clear B1 hb2 hrow1
  go_wp2_with fail
  refine (codes_yes' (some ⟨g, 0, none⟩) (s.lens.length + 8) s.lens _ (by omega) (row_lent hrow2) hacc).mono ?_
  rintro e w3 ⟨gb, rfl, hgb, hO3, hb3⟩
  have B3 := grow2 B2 hb3
  have hrow3 := hrow2.of_block (hb3.block g hrow2.lt)
  have hO2' : OI w3 B (.slice (some ⟨gc, 0, none⟩) s.lens.length s.lens.length) (codesOf s.lens) := own_kp (R := fun _ => False) (ρ := ρ) (oi_base hO2 hBw1) (Kp.of_below hb3) (fun _ _ x => x)
  have hO3' : OI w3 B (.slice (some ⟨gb, 0, none⟩) s.lens.length s.lens.length) (codesOf s.lens) := oi_base hO3 (Nat.le_trans hBs B2.size)
  have c2' : w3.cell? ⟨gW, 2, none⟩ = some (.slice (some ⟨gl, 0, none⟩) s.lens.length cl) := (B3.cell (p := ⟨gW, 2, none⟩) hgl).trans c2
  have hgblt : gb < w3.heap.size := own_lt hO3 rfl
  have hs23 := hb3.size
  clear B2 hb3 hrow2 hO2 hO3
  go_wp2_with fail
  refine (refCodes_yes (some ⟨gl, 0, none⟩) cl s.lens _ (HC.out.below B3 (Nat.le_refl _)) hacc).mono ?_
  rintro e w4 ⟨gd, cd, rfl, hgd, hO4, hb4⟩
  have B4 := grow2 B3 hb4
  have hrow4 := hrow3.of_block (hb4.block g hrow3.lt)
  have c2'' : w4.cell? ⟨gW, 2, none⟩ = some (.slice (some ⟨gl, 0, none⟩) s.lens.length cl) := (B4.cell (p := ⟨gW, 2, none⟩) hgl).trans c2
  have hC4 : OI w4 B (.slice (some ⟨gc, 0, none⟩) s.lens.length s.lens.length) (codesOf s.lens) := own_kp (R := fun _ => False) (ρ := ρ) hO2' (Kp.of_below hb4) (fun _ _ x => x)
  have hD4 : OI w4 B (.slice (some ⟨gb, 0, none⟩) s.lens.length s.lens.length) (codesOf s.lens) := own_kp (R := fun _ => False) (ρ := ρ) hO3' (Kp.of_below hb4) (fun _ _ x => x)
  have hE4 : OI w4 B (.slice (some ⟨gd, 0, none⟩) s.lens.length cd) (codesOf s.lens) := oi_base hO4 (Nat.le_trans hBs B3.size)
  have hs34 := hb4.size
  clear B3 hb4 hrow3 c2' hO2' hO3' hO4
  obtain ⟨ρ1, hρ1⟩ : ∃ ρ1 : Nat → Nat, ρ1 = setρ (setρ (setρ (setρ ρ g 6) gc 7) gb 8) gd 9 := ⟨_, rfl⟩
  have r1 : ρ1 g = 6 := by rw [hρ1, setρ_ne (by omega), setρ_ne (by omega), setρ_ne (by omega), setρ_at]
  have r2 : ρ1 gc = 7 := by rw [hρ1, setρ_ne (by omega), setρ_ne (by omega), setρ_at]
  have r3 : ρ1 gb = 8 := by rw [hρ1, setρ_ne (by omega), setρ_at]
  have r4 : ρ1 gd = 9 := by rw [hρ1, setρ_at]
  have hI4 : Inv B gW 0 ρ1 s w4 := (HI.out.turn (ρ' := ρ1) (fun k hk _ => by rw [hρ1, setρ_ne (by omega), setρ_ne (by omega), setρ_ne (by omega), setρ_ne (by omega)])).below B4
  have HB4 : Hid (Below B w w4) := B4.mono hBs
  clear B4 hρ1
  go_wp2_with fail
  refine (whole_some B gW ρ1 s g gl cl _ hI4 HV.out hrow4 r1 (by omega) (by omega) (by omega)).mono ?_
  rintro e w5 ⟨rfl, hb5, ρ5, vb5, hI5, hk5, hrow5, hρ5⟩
  have HB5 : Hid (Below B w w5) := HB4.out.trans hb5
  have HI5 : Hid (Inv B gW 0 ρ5 (sWhole s g vb5) w5) := hI5
  have hC5 : OI w5 B (.slice (some ⟨gc, 0, none⟩) s.lens.length s.lens.length) (codesOf s.lens) := own_kp hC4 hk5 (fun x hx => by simp [Value.ownBlock] at hx; subst hx; omega)
  have hD5 : OI w5 B (.slice (some ⟨gb, 0, none⟩) s.lens.length s.lens.length) (codesOf s.lens) := own_kp hD4 hk5 (fun x hx => by simp [Value.ownBlock] at hx; subst hx; omega)
  have hE5 : OI w5 B (.slice (some ⟨gd, 0, none⟩) s.lens.length cd) (codesOf s.lens) := own_kp hE4 hk5 (fun x hx => by simp [Value.ownBlock] at hx; subst hx; omega)
  have p2 : ρ5 gc = 7 := by rw [hρ5 gc (own_lt hC4 rfl) (by omega)]; exact r2
  have p3 : ρ5 gb = 8 := by rw [hρ5 gb (own_lt hD4 rfl) (by omega)]; exact r3
  have kc := oi_cells hC5
  have kb := oi_cells hD5
  have kd := oi_cells hE5
  have HC5 : Hid (OI w5 B (.slice (some ⟨gc, 0, none⟩) s.lens.length s.lens.length) (codesOf s.lens)) := hC5
  have HD5 : Hid (OI w5 B (.slice (some ⟨gb, 0, none⟩) s.lens.length s.lens.length) (codesOf s.lens)) := hD5
  have HP : Hid (ρ5 gc = 7 ∧ ρ5 gb = 8) := ⟨p2, p3⟩
  have hgcb : gc ≠ gb := by omega
  clear hI4 hI5 hb5 hrow4 c2'' hC4 hD4 hE4 hC5 hD5 hE5 hk5 hρ5 r1 r2 r3 r4 p2 p3
  go_wp2_with fail
  refine (same_n (some ⟨gc, 0, none⟩) (some ⟨gd, 0, none⟩) s.lens.length cd s.lens.length (codesOf s.lens) _ (codesOf_length _) (by omega) kc kd).mono ?_
  rintro e w' ⟨rfl, q, rfl⟩
  go_wp2_with fail
  refine (same_n (some ⟨gb, 0, none⟩) (some ⟨gd, 0, none⟩) s.lens.length cd s.lens.length (codesOf s.lens) (w5.drewN q) (codesOf_length _) (by omega) (kb.same rfl) (kd.same rfl)).mono ?_
  rintro e w' ⟨rfl, q2, rfl⟩
  obtain ⟨m, hm⟩ : ∃ m, -((s.mks : Int) + 1) = m := ⟨_, rfl⟩
  have hm0 : m < 0 := by omega
  rw [hm] at hrow5
  clear hm
  have hrow6 : (w5.drewN (q + q2)).rowIs g 3 (s.lens.length + 8) (fun _ => .int .i64 m) := hrow5
  have hgs : g < (w5.drewN (q + q2)).heap.size := hrow6.lt
  obtain ⟨i0, hi, hz0, hz1, hz2⟩ := info_parts info3
  have hc6 := row_marked hrow6
  go_upto_region 16 with (first | (go_at_call 86; refine (num_any _ _).mono ?_; rintro e w' ⟨rfl, rfl⟩) | (at_builtin; refine wpList_append_grows _ rfl (.const (.slice none 0 0)) (.tmp 106) 69 rfl 3 i0 (.int .i64 0) 1 8 Tryz.underlying69 hi hz0 hz1 hz2 rfl (by decide) none 0 0 [] rfl (fun _ => ⟨rfl, rfl⟩) rfl (by intro _ e; simp at e) ⟨g, 0, none⟩ s.lens.length (s.lens.length + 8) (ivals (List.replicate s.lens.length m)) rfl (by simp [ivals]) (cells_news hc6) (lent4 _) (by omega) (by unfold maxLen; omega) (by omega) ?_; intro v7 w7 hown7 hgrow7))
  have hown7' : w7.ownsRow (w5.drewN (q + q2)).heap.size 3 1 v7 s.lens.length (ivals (List.replicate s.lens.length m)) := by simpa using hown7
  obtain ⟨g7, p7, rfl, _, _⟩ := hown7'.form (by omega)
  have hb7 : Below (w5.drewN (q + q2)).heap.size (w5.drewN (q + q2)) w7 := (Below.refl _ _).grown hgrow7 (Nat.le_refl _) (fun x hx => by simp at hx)
  have hc7 := hc6.below hb7 (Nat.le_refl _)
  have ht7 : CellsO w7 (some ⟨g7, 0, none⟩) (List.replicate s.lens.length m) := by
    obtain ⟨ad, cap, e, hc⟩ := OI.cells (w := w7) (B := (w5.drewN (q + q2)).heap.size) (v := .slice (some ⟨g7, 0, none⟩) s.lens.length p7) (l := List.replicate s.lens.length m) (by unfold OI; rw [List.length_replicate]; exact hown7')
    simp only [Value.slice.injEq] at e
    rw [e.1]; exact hc
  have HB7 : Hid (Below B w w7) := (below_drewN HB5.out (q + q2)).trans (hb7.mono (HI5.out.drewN (q + q2)).hB)
  have HI7 : Hid (Inv B gW 0 ρ5 (sWhole s g vb5) w7) := (HI5.out.drewN (q + q2)).below hb7
  have hacc7 := accepts_marked hn hm0
  have HC7 : Hid (OI w7 B (.slice (some ⟨gc, 0, none⟩) s.lens.length s.lens.length) (codesOf s.lens)) := oi_below (oi_drewN HC5.out (q + q2)) hb7
  have HD7 : Hid (OI w7 B (.slice (some ⟨gb, 0, none⟩) s.lens.length s.lens.length) (codesOf s.lens)) := oi_below (oi_drewN HD5.out (q + q2)) hb7
  clear hown7 hown7' hgrow7 hc6 hrow6 hrow5 hgs hb7 kc kb kd
  go_wp2_with fail
  refine (codes_no_n (some ⟨g, 0, none⟩) (s.lens.length + 8) s.lens.length (List.replicate s.lens.length m) _ List.length_replicate (by omega) hc7 hacc7).mono ?_
  rintro e w8 ⟨rfl, hb8⟩
  have ht8 := ht7.below hb8 (Nat.le_refl _)
  have HB8 : Hid (Below B w w8) := HB7.out.trans (hb8.mono HI7.out.hB)
  have HI8 : Hid (Inv B gW 0 ρ5 (sWhole s g vb5) w8) := HI7.out.below hb8
  have HC8 : Hid (OI w8 B (.slice (some ⟨gc, 0, none⟩) s.lens.length s.lens.length) (codesOf s.lens)) := oi_below HC7.out hb8
  have HD8 : Hid (OI w8 B (.slice (some ⟨gb, 0, none⟩) s.lens.length s.lens.length) (codesOf s.lens)) := oi_below HD7.out hb8
  clear ht7 hc7 hb8
  go_wp2_with fail
  refine (refCodes_no_n (some ⟨g7, 0, none⟩) p7 s.lens.length (List.replicate s.lens.length m) _ List.length_replicate (by omega) ht8 hacc7).mono ?_
  rintro e w9 ⟨rfl, hb9⟩
  have HB9 : Hid (Below B w w9) := HB8.out.trans (hb9.mono HI8.out.hB)
  have HI9 : Hid (Inv B gW 0 ρ5 (sWhole s g vb5) w9) := HI8.out.below hb9
  have HC9 : Hid (OI w9 B (.slice (some ⟨gc, 0, none⟩) s.lens.length s.lens.length) (codesOf s.lens)) := oi_below HC8.out hb9
  have HD9 : Hid (OI w9 B (.slice (some ⟨gb, 0, none⟩) s.lens.length s.lens.length) (codesOf s.lens)) := oi_below HD8.out hb9
  clear ht8 hb9
  go_wp2_with fail
  refine (same_nil _).mono ?_
  rintro e w' ⟨rfl, q3, rfl⟩
  go_wp2_with (go_at_call 86; refine (num_any _ _).mono ?_; rintro e w' ⟨rfl, rfl⟩)
  refine (keep_some_n B gW ρ5 (sWhole s g vb5) gc s.lens.length (codesOf s.lens) _ (codesOf_length _) (HI9.out.drewN q3) (oi_drewN HC9.out q3) hn (accepts_le hacc) (by rw [HP.out.1]; omega) (by have := HLW.out; simp [sWhole]; omega) (by simp [sWhole]; omega)).mono ?_
  rintro e w10 ⟨rfl, hb10, ρ10, vw10, vr10, u10, hI10, hk10, hρ10⟩
  have HI10 : Hid _ := hI10
  have HB10 : Hid (Below B w w10) := (below_drewN HB9.out q3).trans hb10
  have HD10 : Hid (OI w10 B (.slice (some ⟨gb, 0, none⟩) s.lens.length s.lens.length) (codesOf s.lens)) := own_kp (oi_drewN HD9.out q3) hk10 (fun x hx => by simp [Value.ownBlock] at hx; subst hx; rw [HP.out.2]; omega)
  have p10 : ρ10 gb = 8 := by rw [hρ10 gb (own_lt (oi_drewN HD9.out q3) rfl) (Ne.symm hgcb)]; exact HP.out.2
  clear hI10 hb10 hk10 hρ10
  go_wp2_with fail
  refine (keep_some_n B gW ρ10 _ gb s.lens.length (codesOf s.lens) _ (codesOf_length _) HI10.out HD10.out hn (accepts_le hacc) (by rw [p10]; omega) (by have := HLW.out; simp [sWhole]; omega) (by simp [sWhole]; omega)).mono ?_
  rintro e w11 ⟨rfl, hb11, ρ11, vw11, vr11, u11, hI11, _, _⟩
  have HI11 : Hid _ := hI11
  have HB11 : Hid (Below B w w11) := HB10.out.trans hb11
  clear hI11 hb11
  go_wp2_with fail
  go_ret
  exact ⟨rfl, HB11.out, ρ11, _, HI11.out, rfl, rfl, rfl, rfl, rfl, by simp [sWhole], by simp [sWhole], by simp [sWhole]⟩
end Go.Proofs.YtbcjmakpempkiaaGreatDoor
