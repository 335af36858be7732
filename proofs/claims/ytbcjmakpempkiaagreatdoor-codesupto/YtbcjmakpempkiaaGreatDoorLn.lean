/- The contract of plays, as the law of Codes calls it. -/
import Derived.Test.YtbcjmakpempkiaaGreatDoorLm
namespace Go.Proofs.YtbcjmakpempkiaaGreatDoor
open Go.RowKit
set_option maxRecDepth 100000 in
set_option maxHeartbeats 4000000 in
theorem plays_codes (ad : Option Addr) (n cap : Nat) (w : World) (hn : n ≤ 1048576) (hsc : Script w ad n) :
    Calls Tryz.prog 12 #[.slice none 0 0, .slice none 0 0, .slice ad n cap, .int .i64 3, .int .i64 4] w fun e w' => e = .returned (.bool true) ∧ Below w.heap.size w w' := by
  have HSC : Hid (Script w ad n) := hsc
  clear hsc
  obtain ⟨i0, hi, hz0, hz1, hz2⟩ := info_parts info_config
  obtain ⟨W0, hW0⟩ : ∃ W0, W0 = w.alloc (.cells #[.slice none 0 0, .slice none 0 0, .slice none 0 0, .slice none 0 0, .int .i64 0, .slice none 0 0, .slice none 0 0, .slice none 0 0, .slice none 0 0] 75) := ⟨_, rfl⟩
  have R0 : W0.rowIs w.heap.size 75 9 zeroF := by rw [hW0]; exact zero_row w
  have B0 : Below w.heap.size w W0 := by rw [hW0]; exact (Below.refl _ _).alloc (Nat.le_refl _) _
  have hgl : w.heap.size < W0.heap.size := R0.lt
  have c0 : W0.cell? ⟨w.heap.size, 0, none⟩ = some (.slice none 0 0) := R0.cell (i := 0) (by omega)
  have f0 := R0.frozen 0
  go_enter Tryz.func12, Tryz.ntmps12
  go_upto_region 2 with fail
  rw [← hW0]
  clear hW0
  go_cut [11] (fun s wx => s = .pointer (some ⟨w.heap.size, 0, none⟩) ∧ ∃ (g1 p1 : Nat), 1 ≤ p1 ∧ wx.rowIs w.heap.size 75 9 (fld (iniSt (.slice (some ⟨g1, 0, none⟩) 1 p1) (.slice none 0 0) [])) ∧ Below w.heap.size w wx)
  case first =>
    go_region_law
      ((first
        | (refine step_own rfl rfl (by kernel_rfl) ?_)
        | (refine step_append_lies _ (by rfl) _ _ _ (by rfl) w.heap.size 42 i0 _ 7 56 Tryz.underlying39 hi hz0 hz1 hz2 rfl (by omega) (.slice none 0 0) 0 [] (by rfl) (World.ownsRow_nil _ _ _ _)
            ⟨W0.heap.size + 1, 0, none⟩ 1 1 ownC.toList (by rfl) (by rfl) (World.news_of_block (cs := ownC) (t := 42) (fr := (0, 0)) (heap_alloc_new2 W0 _ _)) (by simp [ownC, Value.oneCell']) (by omega) (by unfold maxLen; omega) (by omega) (by simp; omega) (W0.heap.size + 2) (by simp) ?_; intro g1 p1 w1 hown1 hgrow1 hat1 hlt1; have k0 := k_far2 hgrow1 hgl (by simp [Value.ownBlock]) c0; have z0 := z_far2 hgrow1 hgl (by simp [Value.ownBlock]) f0)))
    all_goals
      go_wp2_with fail
      go_meet
      have T := ini_cs (v := .slice (some ⟨g1, 0, none⟩) 1 p1) R0 B0 hgrow1
      exact ⟨rfl, g1, p1, own_cap hown1, T.1, T.2⟩
  case rest =>
  obtain ⟨rfl, g1, p1, hp1, R1, B1⟩ := hcut
  obtain ⟨j0, hj, hy0, hy1, hy2⟩ := info_parts info_string
  clear hi hz0 hz1 hz2 i0 R0 B0 hgl c0 f0 W0
  have hgl : w.heap.size < wc.heap.size := R1.lt
  have c1 : wc.cell? ⟨w.heap.size, 1, none⟩ = some (.slice none 0 0) := R1.cell (i := 1) (by omega)
  have f1 := R1.frozen 1
  go_upto_region 4 with (first | (at_builtin; refine wpList_append_lies _ rfl (.tmp 38) (.tmp 39) 30 rfl w.heap.size 9 j0 (.string ⟨#[]⟩) 1 16 Tryz.underlying30 hj hy0 hy1 hy2 rfl (by decide) (.slice none 0 0) 0 [] rfl (World.ownsRow_nil _ _ _ _) ⟨wc.heap.size, 0, none⟩ 1 1 [.string ⟨#[1, 2, 0, 253, 255, 104, 105]⟩] rfl rfl (World.news_of_block (heap_alloc_new wc _)) (by simp [Value.oneCell']) (by omega) (by unfold maxLen; omega) (by omega) (by simp; omega) (wc.heap.size + 1) (by simp) ?_))
  intro g2 p2 w2 hown2 hgrow2 hat2 hlt2
  have k1 := k_far' hgrow2 hgl (by simp [Value.ownBlock]) c1
  have z1 := z_far' hgrow2 hgl (by simp [Value.ownBlock]) f1
  have T := ini_ss (v := .slice (some ⟨g2, 0, none⟩) 1 p2) R1 B1 hgrow2
  have hp2 : 1 ≤ p2 := own_cap hown2
  clear R1 B1 c1 f1 hown2 hgrow2 hat2 hgl
  go_upto_region 4 with fail
  obtain ⟨W3, hW3⟩ : ∃ W3, W3 = w2.setCell ⟨w.heap.size, 1, none⟩ (.slice (some ⟨g2, 0, none⟩) 1 p2) := ⟨_, rfl⟩
  rw [← hW3] at T ⊢
  clear hW3 k1 z1 hlt2
  have T2 := ini_open T.1 T.2
  clear T
  go_wp2_with (first | (go_at_call 33; refine (opening_any W3).mono ?_; rintro e w' ⟨rfl, rfl⟩))
  have HT : Hid _ := T2
  obtain ⟨gh, hgh⟩ : ∃ gh, gh = W3.heap.size := ⟨_, rfl⟩
  rw [← hgh] at HT ⊢
  clear T2 hgh hj hy0 hy1 hy2 j0
  go_loopw [13] (fun i wr => ∃ (k : Nat) (ρ : Nat → Nat) (s : LawSt), k ≤ 18 ∧ i = .int .i64 k ∧ Inv w.heap.size w.heap.size 0 ρ s wr ∧ s.still = [(gh, .cells openC 79 (0, 0))] ∧ s.vcs = .slice (some ⟨g1, 0, none⟩) 1 p1 ∧ s.vss = .slice (some ⟨g2, 0, none⟩) 1 p2 ∧ s.lens.length ≤ k ∧ s.mks ≤ k ∧ s.waits.length ≤ 2 * k ∧ s.books.length ≤ k ∧ Below w.heap.size w wr) (fun i _ => 18 - (intOf i).toNat)
  case atStart => exact ⟨0, _, _, Nat.zero_le _, rfl, HT.out.1, rfl, rfl, rfl, by simp [iniSt], by simp [iniSt], by simp [iniSt], by simp [iniSt], HT.out.2⟩
  case round =>
    obtain ⟨k, ρ, s, hk, rfl, hI, hst, hcs, hss, hln, hmk, hwt, hbk, hbel⟩ := hrel
    clear HT
    have HI : Hid (Inv w.heap.size w.heap.size 0 ρ s wr) := hI
    have HC : Hid (s.vcs = .slice (some ⟨g1, 0, none⟩) 1 p1 ∧ s.vss = .slice (some ⟨g2, 0, none⟩) 1 p2) := ⟨hcs, hss⟩
    have HS : Hid (s.still = [(gh, .cells openC 79 (0, 0))]) := hst
    have HB : Hid (Below w.heap.size w wr) := hbel
    have hh : wr.heap[gh]? = some (.cells openC 79 (0, 0)) := hI.stl (gh, .cells openC 79 (0, 0)) (by rw [hst]; exact List.mem_singleton.2 rfl)
    clear hI hcs hss hst hbel
    by_cases hlt : k < 18
    · obtain ⟨kd, a, b, c, t, e0, e1, e2, e3, e4, e5, ht⟩ := open_at k hlt
      have d0 : wr.cell? ⟨gh, k * 6, none⟩ = some (.int .i64 kd) := by rw [cell_of_row _ _ (k * 6) _ _ _ hh]; exact e0
      have d1 : wr.cell? ⟨gh, k * 6 + 1, none⟩ = some (.int .i64 a) := by rw [cell_of_row _ _ (k * 6 + 1) _ _ _ hh]; exact e1
      have d2 : wr.cell? ⟨gh, k * 6 + 2, none⟩ = some (.int .i64 b) := by rw [cell_of_row _ _ (k * 6 + 2) _ _ _ hh]; exact e2
      have d3 : wr.cell? ⟨gh, k * 6 + 3, none⟩ = some (.int .i64 c) := by rw [cell_of_row _ _ (k * 6 + 3) _ _ _ hh]; exact e3
      have d4 : wr.cell? ⟨gh, k * 6 + 4, none⟩ = some (.string t) := by rw [cell_of_row _ _ (k * 6 + 4) _ _ _ hh]; exact e4
      have d5 : wr.cell? ⟨gh, k * 6 + 5, none⟩ = some (.slice none 0 0) := by rw [cell_of_row _ _ (k * 6 + 5) _ _ _ hh]; exact e5
      clear e0 e1 e2 e3 e4 e5 hh
      by_cases hkd : 4 < kd
      · have t1 : decide (kd < 3) = false := by simp; omega
        have t2 : decide (3 ≤ kd) = true := by simp; omega
        have t3 : decide (kd ≤ 4) = false := by simp; omega
        go_wp2_with fail
        go_roundw
        case rel => exact ⟨k + 1, ρ, s, by omega, by go_num, HI.out, HS.out, HC.out.1, HC.out.2, by omega, by omega, by omega, by omega, HB.out⟩
        case measure => simp [intOf]; omega
      · have t0 : (decide (kd < 3) = true) ∨ (decide (kd < 3) = false ∧ decide (3 ≤ kd) = true ∧ decide (kd ≤ 4) = true) := by simp; omega
        rcases t0 with t1 | ⟨t1, t2, t3⟩
        all_goals
          go_wp2_with fail
          refine (step_any w.heap.size w.heap.size ρ s kd a b c t none 0 0 wr HI.out (by omega) ht (by omega) (by omega) (by omega) (by omega)).mono ?_
          rintro e w' ⟨rfl, hb', ρ', s', hI', hn'⟩
          have HI' : Hid (Inv w.heap.size w.heap.size 0 ρ' s' w') := hI'
          have HN' : Hid (Nxt s s') := hn'
          have HB' : Hid (Below w.heap.size w w') := HB.out.trans hb'
          clear hI' hn' hb'
          go_wp2_with fail
          go_roundw
          case rel => exact ⟨k + 1, ρ', s', by omega, by go_num, HI'.out, HN'.out.st.trans HS.out, HN'.out.cs.trans HC.out.1, HN'.out.ss.trans HC.out.2, by have := HN'.out.ln; omega, by have := HN'.out.mks; omega, by have := HN'.out.wt; omega, by have := HN'.out.bk; omega, HB'.out⟩
          case measure => simp [intOf]; omega
    · obtain rfl : k = 18 := by omega
      clear hh HS
      have c0 : wr.cell? ⟨w.heap.size, 0, none⟩ = some (.slice (some ⟨g1, 0, none⟩) 1 p1) := by rw [HI.out.row.cell (i := 0) (by omega), show fld s 0 = s.vcs from rfl, HC.out.1]
      have f0 := HI.out.row.frozen 0
      have c1 : wr.cell? ⟨w.heap.size, 1, none⟩ = some (.slice (some ⟨g2, 0, none⟩) 1 p2) := by rw [HI.out.row.cell (i := 1) (by omega), show fld s 1 = s.vss from rfl, HC.out.2]
      have f1 := HI.out.row.frozen 1
      go_upto_region 14 with fail
      have HF : Hid (Few 0 s) := ⟨by omega, by omega, by omega, by omega⟩
      have T0 := HI.out.same (i := 0)
      have T1 := T0.1.same (i := 1)
      rw [show fld s 0 = s.vcs from rfl, HC.out.1] at T0 T1
      rw [show fld s 1 = s.vss from rfl, HC.out.2] at T1
      obtain ⟨W5, hW5⟩ : ∃ W5, W5 = (wr.setCell ⟨w.heap.size, 0, none⟩ (.slice (some ⟨g1, 0, none⟩) 1 p1)).setCell ⟨w.heap.size, 1, none⟩ (.slice (some ⟨g2, 0, none⟩) 1 p2) := ⟨_, rfl⟩
      rw [← hW5] at T1 ⊢
      have HI5 : Hid (Inv w.heap.size w.heap.size 0 ρ s W5) := T1.1
      have HB5 : Hid (Below w.heap.size w W5) := (HB.out.trans T0.2).trans T1.2
      clear hW5 c0 f0 c1 f1 T0 T1 hln hmk hwt hbk hlt hk
      rw [show ((18 : Nat) : Int) = 18 from rfl]
      go_wp2_with fail
      go_loopw [15] (fun i wr => ∃ (k : Nat) (ρ : Nat → Nat) (s : LawSt), k ≤ n ∧ i = .int .i64 k ∧ Inv w.heap.size w.heap.size 0 ρ s wr ∧ Few k s ∧ Below w.heap.size w wr) (fun i _ => n - (intOf i).toNat)
      case atStart => exact ⟨0, _, _, Nat.zero_le _, rfl, HI5.out, HF.out, HB5.out⟩
      case round =>
        clear HI5 HF HB5 HC HI HB
        obtain ⟨k, ρ, s, hk, rfl, hI, hF, hbel⟩ := hrel
        have HI : Hid (Inv w.heap.size w.heap.size 0 ρ s wr) := hI
        have HF : Hid (Few k s) := hF
        have HB : Hid (Below w.heap.size w wr) := hbel
        clear hI hF hbel
        by_cases hlt : k < n
        · obtain ⟨b0, o0, kd, a, b, c, t, ap, np, cp, rfl, hb0, e0, e1, e2, e3, e4, e5, ht⟩ := HSC.out k hlt
          have m0 : decide ((k : Int) < 1152921504606846976) = true := by simp; omega
          have d0 := (HB.out.cell (p := ⟨b0, o0 + k * 6, none⟩) hb0).trans e0
          have d1 := (HB.out.cell (p := ⟨b0, o0 + k * 6 + 1, none⟩) hb0).trans e1
          have d2 := (HB.out.cell (p := ⟨b0, o0 + k * 6 + 2, none⟩) hb0).trans e2
          have d3 := (HB.out.cell (p := ⟨b0, o0 + k * 6 + 3, none⟩) hb0).trans e3
          have d4 := (HB.out.cell (p := ⟨b0, o0 + k * 6 + 4, none⟩) hb0).trans e4
          have d5 := (HB.out.cell (p := ⟨b0, o0 + k * 6 + 5, none⟩) hb0).trans e5
          clear e0 e1 e2 e3 e4 e5
          have hal : Below wr.heap.size wr (wr.alloc (.cells #[.int .i64 kd, .int .i64 a, .int .i64 b, .int .i64 c, .string t, .slice ap np cp] 79)) := (Below.refl _ _).alloc (Nat.le_refl _) _
          have HI6 : Hid (Inv w.heap.size w.heap.size 0 ρ s (wr.alloc (.cells #[.int .i64 kd, .int .i64 a, .int .i64 b, .int .i64 c, .string t, .slice ap np cp] 79))) := HI.out.below hal
          have HB6 : Hid (Below w.heap.size w (wr.alloc (.cells #[.int .i64 kd, .int .i64 a, .int .i64 b, .int .i64 c, .string t, .slice ap np cp] 79))) := HB.out.trans (hal.mono HB.out.size)
          clear hal HI HB
          by_cases hkd : 4 < kd
          · have t1 : decide (kd < 3) = false := by simp; omega
            have t2 : decide (3 ≤ kd) = true := by simp; omega
            have t3 : decide (4 < kd) = true := by simp; omega
            go_wp2_with fail
            go_roundw
            case rel => exact ⟨k + 1, ρ, s, by omega, by go_num, HI6.out, HF.out.mono (by omega), HB6.out⟩
            case measure => simp [intOf]; omega
          · have t3 : decide (4 < kd) = false := by simp; omega
            have t0 : (decide (3 ≤ kd) = false) ∨ (decide (kd < 3) = false ∧ decide (3 ≤ kd) = true) := by simp; omega
            have hq1 := HF.out.ln
            have hq2 := HF.out.wt
            have hq3 := HF.out.mm
            have hq4 := HF.out.bk
            go_upto_region 18 with fail
            clear d0 d1 d2 d3 d4 d5
            go_cut [16, 128] (fun s16 s128 wx => s16 = .pointer (some ⟨wr.heap.size, 0, none⟩) ∧ s128 = .bool false ∧ wx = wr.alloc (.cells #[.int .i64 kd, .int .i64 a, .int .i64 b, .int .i64 c, .string t, .slice ap np cp] 79))
            case first =>
              rcases t0 with t1 | ⟨t1, t2⟩
              all_goals
                go_wp2_with fail
                go_meet
                exact ⟨rfl, rfl, rfl⟩
            case rest =>
            obtain ⟨rfl, rfl, rfl⟩ := hcut
            clear t0 t3
            go_wp2_with fail
            refine (step_any w.heap.size w.heap.size ρ s kd a b c t ap np cp _ HI6.out (by omega) ht (by omega) (by omega) (by omega) (by omega)).mono ?_
            rintro e w' ⟨rfl, hb', ρ', s', hI', hn'⟩
            have HI' : Hid (Inv w.heap.size w.heap.size 0 ρ' s' w') := hI'
            have HF' : Hid (Few (k + 1) s') := HF.out.next hn'
            have HB' : Hid (Below w.heap.size w w') := HB6.out.trans hb'
            clear hI' hn' hb' HI6 HF HB6 hq1 hq2 hq3 hq4
            have hq2 := HF'.out.wt
            have hq3 := HF'.out.mm
            have hq4 := HF'.out.bk
            go_upto_if 136 with fail
            go_cut [18] (fun s18 wx => s18 = .bool true ∧ ∃ (ρ : Nat → Nat) (s : LawSt), Inv w.heap.size w.heap.size 0 ρ s wx ∧ Few (k + 1) s ∧ Below w.heap.size w wx)
            case first =>
              cases hm1 : ((k : Int) % 3 == 2)
              · go_wp2_with fail
                go_meet
                exact ⟨rfl, ρ', s', HI'.out, HF'.out, HB'.out⟩
              · go_wp2_with fail
                refine (settle_true w.heap.size w.heap.size ρ' s' w' HI'.out (by omega) (by omega) (by omega)).mono ?_
                rintro e w'' ⟨rfl, hb2, ρ2, vb, bs, hI2, hbs⟩
                have HI2 : Hid _ := hI2
                have HF2 : Hid _ := HF'.out.settled (vb := vb) hbs
                have HB2 : Hid _ := HB'.out.trans hb2
                clear hI2 hbs hb2
                go_wp2_with fail
                go_meet
                exact ⟨rfl, ρ2, _, HI2.out, HF2.out, HB2.out⟩
            case rest =>
            obtain ⟨rfl, ρ3, s3, hI3, hF3, hB3⟩ := hcut
            have HI3 : Hid (Inv w.heap.size w.heap.size 0 ρ3 s3 wc) := hI3
            have HF3 : Hid (Few (k + 1) s3) := hF3
            have HB3 : Hid (Below w.heap.size w wc) := hB3
            have hq5 := hF3.bk
            clear hI3 hF3 hB3 HI' HF' HB'
            go_wp2_with fail
            refine (looks_true w.heap.size w.heap.size 0 ρ3 s3 wc HI3.out (by omega)).mono ?_
            rintro e w4 ⟨rfl, hb4⟩
            have HI4 : Hid (Inv w.heap.size w.heap.size 0 ρ3 s3 w4) := HI3.out.below hb4
            have HB4 : Hid (Below w.heap.size w w4) := HB3.out.trans (hb4.mono HB3.out.size)
            clear hb4
            go_wp2_with fail
            go_roundw
            case rel => exact ⟨k + 1, ρ3, s3, by omega, by go_num, HI4.out, HF3.out, HB4.out⟩
            case measure => simp [intOf]; omega
        · obtain rfl : k = n := by omega
          have hq2 := HF.out.wt
          have hq3 := HF.out.mm
          have hq4 := HF.out.bk
          go_wp2_with fail
          refine (settle_true w.heap.size w.heap.size ρ s wr HI.out (by omega) (by omega) (by omega)).mono ?_
          rintro e w'' ⟨rfl, hb2, ρ2, vb, bs, hI2, hbs⟩
          have HI2 : Hid _ := hI2
          have HB2 : Hid _ := HB.out.trans hb2
          have hbs' : bs.length ≤ 1000000000 := by omega
          clear hI2 hbs hb2
          go_wp2_with fail
          refine (looks_true w.heap.size w.heap.size 0 ρ2 _ w'' HI2.out hbs').mono ?_
          rintro e w4 ⟨rfl, hb4⟩
          have HB4 : Hid (Below w.heap.size w w4) := HB2.out.trans (hb4.mono HB2.out.size)
          clear hb4
          go_wp2_with fail
          go_ret
          exact ⟨rfl, HB4.out⟩
end Go.Proofs.YtbcjmakpempkiaaGreatDoor
