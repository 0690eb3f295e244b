/- The contracts of the methods that say whether an envelope is right. -/
import Derived.Test.YtmgiojdipheokaaEnv0
namespace Go.Proofs.Ytmgiojdipheokaa
set_option linter.unusedVariables false
set_option linter.unusedSimpArgs false
open Go.RowKit

set_option maxRecDepth 100000 in
set_option maxHeartbeats 1000000 in
theorem rpp_run (nd sl sq t kd bc pc qc lo hi : Int) (bi pi qi n1 k1 n2 k2 : Nat) (A1 A2 : Option Addr) (w : World) (hp : pi ≤ 4) (hq : qi ≤ 4) :
    Calls Try.prog 126 #[.agg #[.int .i64 nd, .int .i64 sl, .int .i64 sq, .int .i64 t, .slice A1 n1 k1, .slice A2 n2 k2, .int .i64 kd, .int .i64 bc, .string (valOf bi), .int .i64 pc, .string (valOf pi), .int .i64 qc, .string (valOf qi), .int .i64 lo, .int .i64 hi]] w fun e w' => e = .returned (.bool (rppB pc pi qc qi)) ∧ Below w.heap.size w w' := by
  obtain ⟨R, hR⟩ : ∃ R, rppB pc pi qc qi = R := ⟨_, rfl⟩
  rw [hR]
  have HR := Lib.hid hR
  have J0 := Lib.hid (EV.new w #[.int .i64 nd, .int .i64 sl, .int .i64 sq, .int .i64 t, .slice A1 n1 k1, .slice A2 n2 k2, .int .i64 kd, .int .i64 bc, .string (valOf bi), .int .i64 pc, .string (valOf pi), .int .i64 qc, .string (valOf qi), .int .i64 lo, .int .i64 hi] 91)
  clear hR
  go_enter Try.func126, Try.ntmps126
  go_upto_region 1 with fail
  generalize w.alloc (.cells #[.int .i64 nd, .int .i64 sl, .int .i64 sq, .int .i64 t, .slice A1 n1 k1, .slice A2 n2 k2, .int .i64 kd, .int .i64 bc, .string (valOf bi), .int .i64 pc, .string (valOf pi), .int .i64 qc, .string (valOf qi), .int .i64 lo, .int .i64 hi] 91) = W0 at *
  generalize hg : w.heap.size = g at *
  have HG := Lib.hid hg
  clear hg
  have x11 : W0.cell? ⟨g, 11, none⟩ = some (.int .i64 qc) := cell_of_row _ _ 11 _ _ (0, 0) J0.out.e
  have x12 : W0.cell? ⟨g, 12, none⟩ = some (.string (valOf qi)) := cell_of_row _ _ 12 _ _ (0, 0) J0.out.e
  go_wp2_with fail
  refine (zero_run _ _ _ hq).mono ?_
  rintro e W1 ⟨rfl, hb⟩
  have J1 := Lib.hid (J0.out.bl hb)
  clear x11 x12
  clear hb
  cases z1 : zeroB qc qi
  · --z1 false
    have x9 : W1.cell? ⟨g, 9, none⟩ = some (.int .i64 pc) := cell_of_row _ _ 9 _ _ (0, 0) J1.out.e
    have x10 : W1.cell? ⟨g, 10, none⟩ = some (.string (valOf pi)) := cell_of_row _ _ 10 _ _ (0, 0) J1.out.e
    go_wp2_with fail
    refine (valid_run _ _ _ hp).mono ?_
    rintro e W2 ⟨rfl, hb⟩
    have J2 := Lib.hid (J1.out.bl hb)
    clear x9 x10
    clear hb
    cases z2 : validB pc pi
    · --z2 false
      obtain rfl : R = false := by rw [← HR.out]; unfold rppB; first | (simp only [z1, z2, Bool.false_eq_true, if_false, if_true, Bool.not_true, Bool.not_false, Bool.and_true, Bool.true_and, Bool.and_false, Bool.false_and, Bool.or_false, Bool.or_true, Bool.false_or, Bool.true_or]; done) | (simp [z1, z2]; done)
      clear HR
      go_wp2_with fail
      go_ret
      exact ⟨rfl, by rw [HG.out]; exact J2.out.bel⟩
    · --z2 true
      have x11 : W2.cell? ⟨g, 11, none⟩ = some (.int .i64 qc) := cell_of_row _ _ 11 _ _ (0, 0) J2.out.e
      have x12 : W2.cell? ⟨g, 12, none⟩ = some (.string (valOf qi)) := cell_of_row _ _ 12 _ _ (0, 0) J2.out.e
      go_wp2_with fail
      refine (valid_run _ _ _ hq).mono ?_
      rintro e W3 ⟨rfl, hb⟩
      have J3 := Lib.hid (J2.out.bl hb)
      clear x11 x12
      clear hb
      cases z3 : validB qc qi
      · --z3 false
        obtain rfl : R = false := by rw [← HR.out]; unfold rppB; first | (simp only [z1, z2, z3, Bool.false_eq_true, if_false, if_true, Bool.not_true, Bool.not_false, Bool.and_true, Bool.true_and, Bool.and_false, Bool.false_and, Bool.or_false, Bool.or_true, Bool.false_or, Bool.true_or]; done) | (simp [z1, z2, z3]; done)
        clear HR
        go_wp2_with fail
        go_ret
        exact ⟨rfl, by rw [HG.out]; exact J3.out.bel⟩
      · --z3 true
        have x9 : W3.cell? ⟨g, 9, none⟩ = some (.int .i64 pc) := cell_of_row _ _ 9 _ _ (0, 0) J3.out.e
        have x10 : W3.cell? ⟨g, 10, none⟩ = some (.string (valOf pi)) := cell_of_row _ _ 10 _ _ (0, 0) J3.out.e
        have x11 : W3.cell? ⟨g, 11, none⟩ = some (.int .i64 qc) := cell_of_row _ _ 11 _ _ (0, 0) J3.out.e
        have x12 : W3.cell? ⟨g, 12, none⟩ = some (.string (valOf qi)) := cell_of_row _ _ 12 _ _ (0, 0) J3.out.e
        go_wp2_with fail
        refine (less_run _ _ _ _ _ hq hp).mono ?_
        rintro e W4 ⟨rfl, hb⟩
        have J4 := Lib.hid (J3.out.bl hb)
        clear x9 x10 x11 x12
        clear hb
        cases z4 : lessB qc qi pc pi
        · --z4 false
          obtain rfl : R = false := by rw [← HR.out]; unfold rppB; first | (simp only [z1, z2, z3, z4, Bool.false_eq_true, if_false, if_true, Bool.not_true, Bool.not_false, Bool.and_true, Bool.true_and, Bool.and_false, Bool.false_and, Bool.or_false, Bool.or_true, Bool.false_or, Bool.true_or]; done) | (simp [z1, z2, z3, z4]; done)
          clear HR
          go_wp2_with fail
          go_ret
          exact ⟨rfl, by rw [HG.out]; exact J4.out.bel⟩
        · --z4 true
          have x9 : W4.cell? ⟨g, 9, none⟩ = some (.int .i64 pc) := cell_of_row _ _ 9 _ _ (0, 0) J4.out.e
          have x10 : W4.cell? ⟨g, 10, none⟩ = some (.string (valOf pi)) := cell_of_row _ _ 10 _ _ (0, 0) J4.out.e
          have x11 : W4.cell? ⟨g, 11, none⟩ = some (.int .i64 qc) := cell_of_row _ _ 11 _ _ (0, 0) J4.out.e
          have x12 : W4.cell? ⟨g, 12, none⟩ = some (.string (valOf qi)) := cell_of_row _ _ 12 _ _ (0, 0) J4.out.e
          go_wp2_with fail
          refine (compat_run _ _ _ _ _ hq hp).mono ?_
          rintro e W5 ⟨rfl, hb⟩
          have J5 := Lib.hid (J4.out.bl hb)
          clear x9 x10 x11 x12
          clear hb
          cases z5 : decide (qi = pi)
          · --z5 false
            obtain rfl : R = true := by rw [← HR.out]; unfold rppB; first | (simp only [z1, z2, z3, z4, z5, Bool.false_eq_true, if_false, if_true, Bool.not_true, Bool.not_false, Bool.and_true, Bool.true_and, Bool.and_false, Bool.false_and, Bool.or_false, Bool.or_true, Bool.false_or, Bool.true_or]; done) | (simp [z1, z2, z3, z4, z5]; done)
            clear HR
            go_wp2_with fail
            go_ret
            exact ⟨rfl, by rw [HG.out]; exact J5.out.bel⟩
          · --z5 true
            obtain rfl : R = false := by rw [← HR.out]; unfold rppB; first | (simp only [z1, z2, z3, z4, z5, Bool.false_eq_true, if_false, if_true, Bool.not_true, Bool.not_false, Bool.and_true, Bool.true_and, Bool.and_false, Bool.false_and, Bool.or_false, Bool.or_true, Bool.false_or, Bool.true_or]; done) | (simp [z1, z2, z3, z4, z5]; done)
            clear HR
            go_wp2_with fail
            go_ret
            exact ⟨rfl, by rw [HG.out]; exact J5.out.bel⟩
  · --z1 true
    have x9 : W1.cell? ⟨g, 9, none⟩ = some (.int .i64 pc) := cell_of_row _ _ 9 _ _ (0, 0) J1.out.e
    have x10 : W1.cell? ⟨g, 10, none⟩ = some (.string (valOf pi)) := cell_of_row _ _ 10 _ _ (0, 0) J1.out.e
    go_wp2_with fail
    refine (zero_run _ _ _ hp).mono ?_
    rintro e W6 ⟨rfl, hb⟩
    have J6 := Lib.hid (J1.out.bl hb)
    clear x9 x10
    clear hb
    cases z2 : zeroB pc pi
    · --z2 false
      have x9 : W6.cell? ⟨g, 9, none⟩ = some (.int .i64 pc) := cell_of_row _ _ 9 _ _ (0, 0) J6.out.e
      have x10 : W6.cell? ⟨g, 10, none⟩ = some (.string (valOf pi)) := cell_of_row _ _ 10 _ _ (0, 0) J6.out.e
      go_wp2_with fail
      refine (valid_run _ _ _ hp).mono ?_
      rintro e W7 ⟨rfl, hb⟩
      have J7 := Lib.hid (J6.out.bl hb)
      clear x9 x10
      clear hb
      cases z3 : validB pc pi
      · --z3 false
        obtain rfl : R = false := by rw [← HR.out]; unfold rppB; first | (simp only [z1, z2, z3, Bool.false_eq_true, if_false, if_true, Bool.not_true, Bool.not_false, Bool.and_true, Bool.true_and, Bool.and_false, Bool.false_and, Bool.or_false, Bool.or_true, Bool.false_or, Bool.true_or]; done) | (simp [z1, z2, z3]; done)
        clear HR
        go_wp2_with fail
        go_ret
        exact ⟨rfl, by rw [HG.out]; exact J7.out.bel⟩
      · --z3 true
        obtain rfl : R = true := by rw [← HR.out]; unfold rppB; first | (simp only [z1, z2, z3, Bool.false_eq_true, if_false, if_true, Bool.not_true, Bool.not_false, Bool.and_true, Bool.true_and, Bool.and_false, Bool.false_and, Bool.or_false, Bool.or_true, Bool.false_or, Bool.true_or]; done) | (simp [z1, z2, z3]; done)
        clear HR
        go_wp2_with fail
        go_ret
        exact ⟨rfl, by rw [HG.out]; exact J7.out.bel⟩
    · --z2 true
      obtain rfl : R = true := by rw [← HR.out]; unfold rppB; first | (simp only [z1, z2, Bool.false_eq_true, if_false, if_true, Bool.not_true, Bool.not_false, Bool.and_true, Bool.true_and, Bool.and_false, Bool.false_and, Bool.or_false, Bool.or_true, Bool.false_or, Bool.true_or]; done) | (simp [z1, z2]; done)
      clear HR
      go_wp2_with fail
      go_ret
      exact ⟨rfl, by rw [HG.out]; exact J6.out.bel⟩

set_option maxRecDepth 100000 in
set_option maxHeartbeats 2000000 in
theorem rp_run (nd sl sq t kd bc pc qc lo hi : Int) (bi pi qi n1 k1 n2 k2 : Nat) (A1 A2 : Option Addr) (w : World) (hb : bi ≤ 4) (hp : pi ≤ 4) (hq : qi ≤ 4) :
    Calls Try.prog 102 #[.agg #[.int .i64 nd, .int .i64 sl, .int .i64 sq, .int .i64 t, .slice A1 n1 k1, .slice A2 n2 k2, .int .i64 kd, .int .i64 bc, .string (valOf bi), .int .i64 pc, .string (valOf pi), .int .i64 qc, .string (valOf qi), .int .i64 lo, .int .i64 hi]] w fun e w' => e = .returned (.bool (rpB bc bi pc pi qc qi lo hi)) ∧ Below w.heap.size w w' := by
  obtain ⟨R, hR⟩ : ∃ R, rpB bc bi pc pi qc qi lo hi = R := ⟨_, rfl⟩
  rw [hR]
  have HR := Lib.hid hR
  have J0 := Lib.hid (EV.new w #[.int .i64 nd, .int .i64 sl, .int .i64 sq, .int .i64 t, .slice A1 n1 k1, .slice A2 n2 k2, .int .i64 kd, .int .i64 bc, .string (valOf bi), .int .i64 pc, .string (valOf pi), .int .i64 qc, .string (valOf qi), .int .i64 lo, .int .i64 hi] 91)
  clear hR
  go_enter Try.func102, Try.ntmps102
  go_upto_region 1 with fail
  generalize w.alloc (.cells #[.int .i64 nd, .int .i64 sl, .int .i64 sq, .int .i64 t, .slice A1 n1 k1, .slice A2 n2 k2, .int .i64 kd, .int .i64 bc, .string (valOf bi), .int .i64 pc, .string (valOf pi), .int .i64 qc, .string (valOf qi), .int .i64 lo, .int .i64 hi] 91) = W0 at *
  generalize hg : w.heap.size = g at *
  have HG := Lib.hid hg
  clear hg
  by_cases h1 : bc ≤ 1000
  · --h1 t
    have h1D := Lib.hid (show decide (bc ≤ 1000) = true by simpa using h1)
    have h1t0 : decide (1000 < bc) = false := by first | (rw [decide_eq_false_iff_not]; omega) | (rw [decide_eq_true_iff]; omega) | (rw [bne_iff_ne]; omega) | (rw [beq_iff_eq]; omega) | (rw [beq_eq_false_iff_ne]; omega) | (rw [bne_eq_false_iff_eq]; omega)
    have x0 : W0.cell? ⟨g, 0, none⟩ = some (.int .i64 nd) := cell_of_row _ _ 0 _ _ (0, 0) J0.out.e
    have x1 : W0.cell? ⟨g, 1, none⟩ = some (.int .i64 sl) := cell_of_row _ _ 1 _ _ (0, 0) J0.out.e
    have x2 : W0.cell? ⟨g, 2, none⟩ = some (.int .i64 sq) := cell_of_row _ _ 2 _ _ (0, 0) J0.out.e
    have x3 : W0.cell? ⟨g, 3, none⟩ = some (.int .i64 t) := cell_of_row _ _ 3 _ _ (0, 0) J0.out.e
    have x4 : W0.cell? ⟨g, 4, none⟩ = some (.slice A1 n1 k1) := cell_of_row _ _ 4 _ _ (0, 0) J0.out.e
    have x5 : W0.cell? ⟨g, 5, none⟩ = some (.slice A2 n2 k2) := cell_of_row _ _ 5 _ _ (0, 0) J0.out.e
    have x6 : W0.cell? ⟨g, 6, none⟩ = some (.int .i64 kd) := cell_of_row _ _ 6 _ _ (0, 0) J0.out.e
    have x7 : W0.cell? ⟨g, 7, none⟩ = some (.int .i64 bc) := cell_of_row _ _ 7 _ _ (0, 0) J0.out.e
    have x8 : W0.cell? ⟨g, 8, none⟩ = some (.string (valOf bi)) := cell_of_row _ _ 8 _ _ (0, 0) J0.out.e
    have x9 : W0.cell? ⟨g, 9, none⟩ = some (.int .i64 pc) := cell_of_row _ _ 9 _ _ (0, 0) J0.out.e
    have x10 : W0.cell? ⟨g, 10, none⟩ = some (.string (valOf pi)) := cell_of_row _ _ 10 _ _ (0, 0) J0.out.e
    have x11 : W0.cell? ⟨g, 11, none⟩ = some (.int .i64 qc) := cell_of_row _ _ 11 _ _ (0, 0) J0.out.e
    have x12 : W0.cell? ⟨g, 12, none⟩ = some (.string (valOf qi)) := cell_of_row _ _ 12 _ _ (0, 0) J0.out.e
    have x13 : W0.cell? ⟨g, 13, none⟩ = some (.int .i64 lo) := cell_of_row _ _ 13 _ _ (0, 0) J0.out.e
    have x14 : W0.cell? ⟨g, 14, none⟩ = some (.int .i64 hi) := cell_of_row _ _ 14 _ _ (0, 0) J0.out.e
    go_wp2_with fail
    refine (rpp_run _ _ _ _ _ _ _ _ _ _ _ _ _ _ _ _ _ _ _ _ hp hq).mono ?_
    rintro e W1 ⟨rfl, hb⟩
    have J1 := Lib.hid (J0.out.bl hb)
    clear x0 x1 x2 x3 x4 x5 x6 x7 x8 x9 x10 x11 x12 x13 x14
    clear hb
    cases z1 : rppB pc pi qc qi
    · --z1 false
      obtain rfl : R = false := by rw [← HR.out]; unfold rpB; first | (simp only [h1D.out, h1, z1, Bool.false_eq_true, if_false, if_true, Bool.not_true, Bool.not_false, Bool.and_true, Bool.true_and, Bool.and_false, Bool.false_and, Bool.or_false, Bool.or_true, Bool.false_or, Bool.true_or]; done) | (simp [h1D.out, h1, z1]; done)
      clear HR
      go_wp2_with fail
      go_ret
      exact ⟨rfl, by rw [HG.out]; exact J1.out.bel⟩
    · --z1 true
      by_cases h2 : 0 ≤ lo
      · --h2 t
        have h2D := Lib.hid (show decide (0 ≤ lo) = true by simpa using h2)
        have h2t0 : decide (lo < 0) = false := by first | (rw [decide_eq_false_iff_not]; omega) | (rw [decide_eq_true_iff]; omega) | (rw [bne_iff_ne]; omega) | (rw [beq_iff_eq]; omega) | (rw [beq_eq_false_iff_ne]; omega) | (rw [bne_eq_false_iff_eq]; omega)
        by_cases h3 : lo ≤ hi
        · --h3 t
          have h3D := Lib.hid (show decide (lo ≤ hi) = true by simpa using h3)
          have h3t0 : decide (hi < lo) = false := by first | (rw [decide_eq_false_iff_not]; omega) | (rw [decide_eq_true_iff]; omega) | (rw [bne_iff_ne]; omega) | (rw [beq_iff_eq]; omega) | (rw [beq_eq_false_iff_ne]; omega) | (rw [bne_eq_false_iff_eq]; omega)
          by_cases h4 : hi ≤ bc
          · --h4 t
            have h4D := Lib.hid (show decide (hi ≤ bc) = true by simpa using h4)
            have h4t0 : decide (bc < hi) = false := by first | (rw [decide_eq_false_iff_not]; omega) | (rw [decide_eq_true_iff]; omega) | (rw [bne_iff_ne]; omega) | (rw [beq_iff_eq]; omega) | (rw [beq_eq_false_iff_ne]; omega) | (rw [bne_eq_false_iff_eq]; omega)
            have x13 : W1.cell? ⟨g, 13, none⟩ = some (.int .i64 lo) := cell_of_row _ _ 13 _ _ (0, 0) J1.out.e
            have x14 : W1.cell? ⟨g, 14, none⟩ = some (.int .i64 hi) := cell_of_row _ _ 14 _ _ (0, 0) J1.out.e
            have x7 : W1.cell? ⟨g, 7, none⟩ = some (.int .i64 bc) := cell_of_row _ _ 7 _ _ (0, 0) J1.out.e
            have x8 : W1.cell? ⟨g, 8, none⟩ = some (.string (valOf bi)) := cell_of_row _ _ 8 _ _ (0, 0) J1.out.e
            go_upto_region 6 with fail
            have J2 := Lib.hid (J1.out.bl (balloc (bref W1) (.cells #[.int .i64 hi, .string (valOf bi)] 26)))
            have HXh_2 := Lib.hid (BalAt.new W1 hi bi)
            clear x13 x14 x7 x8
            generalize W1.alloc (.cells #[.int .i64 hi, .string (valOf bi)] 26) = W2 at *
            generalize W1.heap.size = rh at *
            by_cases h5 : hi = 0
            · --h5 t
              have h5D := Lib.hid (show decide (hi = 0) = true by simpa using h5)
              have h5t0 : (hi != 0) = false := by first | (rw [decide_eq_false_iff_not]; omega) | (rw [decide_eq_true_iff]; omega) | (rw [bne_iff_ne]; omega) | (rw [beq_iff_eq]; omega) | (rw [beq_eq_false_iff_ne]; omega) | (rw [bne_eq_false_iff_eq]; omega)
              clear h5
              have x14 : W2.cell? ⟨g, 14, none⟩ = some (.int .i64 hi) := cell_of_row _ _ 14 _ _ (0, 0) J2.out.e
              have x13 : W2.cell? ⟨g, 13, none⟩ = some (.int .i64 lo) := cell_of_row _ _ 13 _ _ (0, 0) J2.out.e
              have x8 : W2.cell? ⟨g, 8, none⟩ = some (.string (valOf bi)) := cell_of_row _ _ 8 _ _ (0, 0) J2.out.e
              go_upto_region 9 with fail
              have J3 := Lib.hid (J2.out.bl (balloc (bref W2) (.cells #[.int .i64 lo, .string (valOf bi)] 26)))
              have HXl_3 := Lib.hid (BalAt.new W2 lo bi)
              have HXh_3 := Lib.hid (HXh_2.out.alloc (.cells #[.int .i64 lo, .string (valOf bi)] 26))
              clear x13 x8 x14
              generalize W2.alloc (.cells #[.int .i64 lo, .string (valOf bi)] 26) = W3 at *
              generalize W2.heap.size = rl at *
              by_cases h6 : lo = 0
              · --h6 t
                have h6D := Lib.hid (show decide (lo = 0) = true by simpa using h6)
                have h6t0 : (lo == 0) = true := by first | (rw [decide_eq_false_iff_not]; omega) | (rw [decide_eq_true_iff]; omega) | (rw [bne_iff_ne]; omega) | (rw [beq_iff_eq]; omega) | (rw [beq_eq_false_iff_ne]; omega) | (rw [bne_eq_false_iff_eq]; omega)
                clear h6
                obtain rfl : R = true := by rw [← HR.out]; unfold rpB; first | (simp only [h1D.out, h1, z1, h2D.out, h2, h3D.out, h3, h4D.out, h4, h5D.out, h6D.out, Bool.false_eq_true, if_false, if_true, Bool.not_true, Bool.not_false, Bool.and_true, Bool.true_and, Bool.and_false, Bool.false_and, Bool.or_false, Bool.or_true, Bool.false_or, Bool.true_or]; done) | (simp [h1D.out, h1, z1, h2D.out, h2, h3D.out, h3, h4D.out, h4, h5D.out, h6D.out]; done)
                clear HR
                have x13 : W3.cell? ⟨g, 13, none⟩ = some (.int .i64 lo) := cell_of_row _ _ 13 _ _ (0, 0) J3.out.e
                go_wp2_with fail
                go_ret
                exact ⟨rfl, by rw [HG.out]; exact J3.out.bel⟩
              · --h6 f
                have h6D := Lib.hid (show decide (lo = 0) = false by simpa using h6)
                have h6f0 : (lo == 0) = false := by first | (rw [decide_eq_false_iff_not]; omega) | (rw [decide_eq_true_iff]; omega) | (rw [bne_iff_ne]; omega) | (rw [beq_iff_eq]; omega) | (rw [beq_eq_false_iff_ne]; omega) | (rw [bne_eq_false_iff_eq]; omega)
                clear h6
                have x9 : W3.cell? ⟨g, 9, none⟩ = some (.int .i64 pc) := cell_of_row _ _ 9 _ _ (0, 0) J3.out.e
                have x10 : W3.cell? ⟨g, 10, none⟩ = some (.string (valOf pi)) := cell_of_row _ _ 10 _ _ (0, 0) J3.out.e
                have x13 : W3.cell? ⟨g, 13, none⟩ = some (.int .i64 lo) := cell_of_row _ _ 13 _ _ (0, 0) J3.out.e
                obtain ⟨yl0, yl1⟩ := HXl_3.out.cs
                go_wp2_with fail
                refine (aborts_run _ _ _ _ _ hp hb).mono ?_
                rintro e W4 ⟨rfl, hb⟩
                have J4 := Lib.hid (J3.out.bl hb)
                have HXh_4 := Lib.hid (HXh_3.out.below hb)
                have HXl_4 := Lib.hid (HXl_3.out.below hb)
                clear x9 x10 x13 yl0 yl1
                clear hb
                cases z3 : abB pc pi lo bi
                · --z3 false
                  have x11 : W4.cell? ⟨g, 11, none⟩ = some (.int .i64 qc) := cell_of_row _ _ 11 _ _ (0, 0) J4.out.e
                  have x12 : W4.cell? ⟨g, 12, none⟩ = some (.string (valOf qi)) := cell_of_row _ _ 12 _ _ (0, 0) J4.out.e
                  obtain ⟨yl0, yl1⟩ := HXl_4.out.cs
                  go_wp2_with fail
                  refine (aborts_run _ _ _ _ _ hq hb).mono ?_
                  rintro e W5 ⟨rfl, hb⟩
                  have J5 := Lib.hid (J4.out.bl hb)
                  have HXh_5 := Lib.hid (HXh_4.out.below hb)
                  have HXl_5 := Lib.hid (HXl_4.out.below hb)
                  clear x11 x12 yl0 yl1
                  clear hb
                  cases z4 : abB qc qi lo bi
                  · --z4 false
                    obtain rfl : R = true := by rw [← HR.out]; unfold rpB; first | (simp only [h1D.out, h1, z1, h2D.out, h2, h3D.out, h3, h4D.out, h4, h5D.out, h6D.out, z3, z4, Bool.false_eq_true, if_false, if_true, Bool.not_true, Bool.not_false, Bool.and_true, Bool.true_and, Bool.and_false, Bool.false_and, Bool.or_false, Bool.or_true, Bool.false_or, Bool.true_or]; done) | (simp [h1D.out, h1, z1, h2D.out, h2, h3D.out, h3, h4D.out, h4, h5D.out, h6D.out, z3, z4]; done)
                    clear HR
                    go_wp2_with fail
                    go_ret
                    exact ⟨rfl, by rw [HG.out]; exact J5.out.bel⟩
                  · --z4 true
                    obtain rfl : R = false := by rw [← HR.out]; unfold rpB; first | (simp only [h1D.out, h1, z1, h2D.out, h2, h3D.out, h3, h4D.out, h4, h5D.out, h6D.out, z3, z4, Bool.false_eq_true, if_false, if_true, Bool.not_true, Bool.not_false, Bool.and_true, Bool.true_and, Bool.and_false, Bool.false_and, Bool.or_false, Bool.or_true, Bool.false_or, Bool.true_or]; done) | (simp [h1D.out, h1, z1, h2D.out, h2, h3D.out, h3, h4D.out, h4, h5D.out, h6D.out, z3, z4]; done)
                    clear HR
                    go_wp2_with fail
                    go_ret
                    exact ⟨rfl, by rw [HG.out]; exact J5.out.bel⟩
                · --z3 true
                  obtain rfl : R = false := by rw [← HR.out]; unfold rpB; first | (simp only [h1D.out, h1, z1, h2D.out, h2, h3D.out, h3, h4D.out, h4, h5D.out, h6D.out, z3, Bool.false_eq_true, if_false, if_true, Bool.not_true, Bool.not_false, Bool.and_true, Bool.true_and, Bool.and_false, Bool.false_and, Bool.or_false, Bool.or_true, Bool.false_or, Bool.true_or]; done) | (simp [h1D.out, h1, z1, h2D.out, h2, h3D.out, h3, h4D.out, h4, h5D.out, h6D.out, z3]; done)
                  clear HR
                  go_wp2_with fail
                  go_ret
                  exact ⟨rfl, by rw [HG.out]; exact J4.out.bel⟩
            · --h5 f
              have h5D := Lib.hid (show decide (hi = 0) = false by simpa using h5)
              have h5f0 : (hi != 0) = true := by first | (rw [decide_eq_false_iff_not]; omega) | (rw [decide_eq_true_iff]; omega) | (rw [bne_iff_ne]; omega) | (rw [beq_iff_eq]; omega) | (rw [beq_eq_false_iff_ne]; omega) | (rw [bne_eq_false_iff_eq]; omega)
              clear h5
              have x9 : W2.cell? ⟨g, 9, none⟩ = some (.int .i64 pc) := cell_of_row _ _ 9 _ _ (0, 0) J2.out.e
              have x10 : W2.cell? ⟨g, 10, none⟩ = some (.string (valOf pi)) := cell_of_row _ _ 10 _ _ (0, 0) J2.out.e
              have x11 : W2.cell? ⟨g, 11, none⟩ = some (.int .i64 qc) := cell_of_row _ _ 11 _ _ (0, 0) J2.out.e
              have x12 : W2.cell? ⟨g, 12, none⟩ = some (.string (valOf qi)) := cell_of_row _ _ 12 _ _ (0, 0) J2.out.e
              have x14 : W2.cell? ⟨g, 14, none⟩ = some (.int .i64 hi) := cell_of_row _ _ 14 _ _ (0, 0) J2.out.e
              obtain ⟨yh0, yh1⟩ := HXh_2.out.cs
              go_wp2_with fail
              refine (prepares_run _ _ _ _ _ _ _ hp hq hb).mono ?_
              rintro e W6 ⟨rfl, hb⟩
              have J6 := Lib.hid (J2.out.bl hb)
              have HXh_6 := Lib.hid (HXh_2.out.below hb)
              clear x9 x10 x11 x12 x14 yh0 yh1
              clear hb
              cases z2 : prepB pc pi qc qi hi bi
              · --z2 false
                obtain rfl : R = false := by rw [← HR.out]; unfold rpB; first | (simp only [h1D.out, h1, z1, h2D.out, h2, h3D.out, h3, h4D.out, h4, h5D.out, z2, Bool.false_eq_true, if_false, if_true, Bool.not_true, Bool.not_false, Bool.and_true, Bool.true_and, Bool.and_false, Bool.false_and, Bool.or_false, Bool.or_true, Bool.false_or, Bool.true_or]; done) | (simp [h1D.out, h1, z1, h2D.out, h2, h3D.out, h3, h4D.out, h4, h5D.out, z2]; done)
                clear HR
                go_wp2_with fail
                go_ret
                exact ⟨rfl, by rw [HG.out]; exact J6.out.bel⟩
              · --z2 true
                have x13 : W6.cell? ⟨g, 13, none⟩ = some (.int .i64 lo) := cell_of_row _ _ 13 _ _ (0, 0) J6.out.e
                have x8 : W6.cell? ⟨g, 8, none⟩ = some (.string (valOf bi)) := cell_of_row _ _ 8 _ _ (0, 0) J6.out.e
                go_upto_region 9 with fail
                have J7 := Lib.hid (J6.out.bl (balloc (bref W6) (.cells #[.int .i64 lo, .string (valOf bi)] 26)))
                have HXl_7 := Lib.hid (BalAt.new W6 lo bi)
                have HXh_7 := Lib.hid (HXh_6.out.alloc (.cells #[.int .i64 lo, .string (valOf bi)] 26))
                clear x13 x8
                generalize W6.alloc (.cells #[.int .i64 lo, .string (valOf bi)] 26) = W7 at *
                generalize W6.heap.size = rl at *
                by_cases h6 : lo = 0
                · --h6 t
                  have h6D := Lib.hid (show decide (lo = 0) = true by simpa using h6)
                  have h6t0 : (lo == 0) = true := by first | (rw [decide_eq_false_iff_not]; omega) | (rw [decide_eq_true_iff]; omega) | (rw [bne_iff_ne]; omega) | (rw [beq_iff_eq]; omega) | (rw [beq_eq_false_iff_ne]; omega) | (rw [bne_eq_false_iff_eq]; omega)
                  clear h6
                  obtain rfl : R = true := by rw [← HR.out]; unfold rpB; first | (simp only [h1D.out, h1, z1, h2D.out, h2, h3D.out, h3, h4D.out, h4, h5D.out, z2, h6D.out, Bool.false_eq_true, if_false, if_true, Bool.not_true, Bool.not_false, Bool.and_true, Bool.true_and, Bool.and_false, Bool.false_and, Bool.or_false, Bool.or_true, Bool.false_or, Bool.true_or]; done) | (simp [h1D.out, h1, z1, h2D.out, h2, h3D.out, h3, h4D.out, h4, h5D.out, z2, h6D.out]; done)
                  clear HR
                  have x13 : W7.cell? ⟨g, 13, none⟩ = some (.int .i64 lo) := cell_of_row _ _ 13 _ _ (0, 0) J7.out.e
                  go_wp2_with fail
                  go_ret
                  exact ⟨rfl, by rw [HG.out]; exact J7.out.bel⟩
                · --h6 f
                  have h6D := Lib.hid (show decide (lo = 0) = false by simpa using h6)
                  have h6f0 : (lo == 0) = false := by first | (rw [decide_eq_false_iff_not]; omega) | (rw [decide_eq_true_iff]; omega) | (rw [bne_iff_ne]; omega) | (rw [beq_iff_eq]; omega) | (rw [beq_eq_false_iff_ne]; omega) | (rw [bne_eq_false_iff_eq]; omega)
                  clear h6
                  have x9 : W7.cell? ⟨g, 9, none⟩ = some (.int .i64 pc) := cell_of_row _ _ 9 _ _ (0, 0) J7.out.e
                  have x10 : W7.cell? ⟨g, 10, none⟩ = some (.string (valOf pi)) := cell_of_row _ _ 10 _ _ (0, 0) J7.out.e
                  have x13 : W7.cell? ⟨g, 13, none⟩ = some (.int .i64 lo) := cell_of_row _ _ 13 _ _ (0, 0) J7.out.e
                  obtain ⟨yl0, yl1⟩ := HXl_7.out.cs
                  go_wp2_with fail
                  refine (aborts_run _ _ _ _ _ hp hb).mono ?_
                  rintro e W8 ⟨rfl, hb⟩
                  have J8 := Lib.hid (J7.out.bl hb)
                  have HXh_8 := Lib.hid (HXh_7.out.below hb)
                  have HXl_8 := Lib.hid (HXl_7.out.below hb)
                  clear x9 x10 x13 yl0 yl1
                  clear hb
                  cases z3 : abB pc pi lo bi
                  · --z3 false
                    have x11 : W8.cell? ⟨g, 11, none⟩ = some (.int .i64 qc) := cell_of_row _ _ 11 _ _ (0, 0) J8.out.e
                    have x12 : W8.cell? ⟨g, 12, none⟩ = some (.string (valOf qi)) := cell_of_row _ _ 12 _ _ (0, 0) J8.out.e
                    obtain ⟨yl0, yl1⟩ := HXl_8.out.cs
                    go_wp2_with fail
                    refine (aborts_run _ _ _ _ _ hq hb).mono ?_
                    rintro e W9 ⟨rfl, hb⟩
                    have J9 := Lib.hid (J8.out.bl hb)
                    have HXh_9 := Lib.hid (HXh_8.out.below hb)
                    have HXl_9 := Lib.hid (HXl_8.out.below hb)
                    clear x11 x12 yl0 yl1
                    clear hb
                    cases z4 : abB qc qi lo bi
                    · --z4 false
                      obtain rfl : R = true := by rw [← HR.out]; unfold rpB; first | (simp only [h1D.out, h1, z1, h2D.out, h2, h3D.out, h3, h4D.out, h4, h5D.out, z2, h6D.out, z3, z4, Bool.false_eq_true, if_false, if_true, Bool.not_true, Bool.not_false, Bool.and_true, Bool.true_and, Bool.and_false, Bool.false_and, Bool.or_false, Bool.or_true, Bool.false_or, Bool.true_or]; done) | (simp [h1D.out, h1, z1, h2D.out, h2, h3D.out, h3, h4D.out, h4, h5D.out, z2, h6D.out, z3, z4]; done)
                      clear HR
                      go_wp2_with fail
                      go_ret
                      exact ⟨rfl, by rw [HG.out]; exact J9.out.bel⟩
                    · --z4 true
                      obtain rfl : R = false := by rw [← HR.out]; unfold rpB; first | (simp only [h1D.out, h1, z1, h2D.out, h2, h3D.out, h3, h4D.out, h4, h5D.out, z2, h6D.out, z3, z4, Bool.false_eq_true, if_false, if_true, Bool.not_true, Bool.not_false, Bool.and_true, Bool.true_and, Bool.and_false, Bool.false_and, Bool.or_false, Bool.or_true, Bool.false_or, Bool.true_or]; done) | (simp [h1D.out, h1, z1, h2D.out, h2, h3D.out, h3, h4D.out, h4, h5D.out, z2, h6D.out, z3, z4]; done)
                      clear HR
                      go_wp2_with fail
                      go_ret
                      exact ⟨rfl, by rw [HG.out]; exact J9.out.bel⟩
                  · --z3 true
                    obtain rfl : R = false := by rw [← HR.out]; unfold rpB; first | (simp only [h1D.out, h1, z1, h2D.out, h2, h3D.out, h3, h4D.out, h4, h5D.out, z2, h6D.out, z3, Bool.false_eq_true, if_false, if_true, Bool.not_true, Bool.not_false, Bool.and_true, Bool.true_and, Bool.and_false, Bool.false_and, Bool.or_false, Bool.or_true, Bool.false_or, Bool.true_or]; done) | (simp [h1D.out, h1, z1, h2D.out, h2, h3D.out, h3, h4D.out, h4, h5D.out, z2, h6D.out, z3]; done)
                    clear HR
                    go_wp2_with fail
                    go_ret
                    exact ⟨rfl, by rw [HG.out]; exact J8.out.bel⟩
          · --h4 f
            have h4D := Lib.hid (show decide (hi ≤ bc) = false by simpa using h4)
            have h4f0 : decide (bc < hi) = true := by first | (rw [decide_eq_false_iff_not]; omega) | (rw [decide_eq_true_iff]; omega) | (rw [bne_iff_ne]; omega) | (rw [beq_iff_eq]; omega) | (rw [beq_eq_false_iff_ne]; omega) | (rw [bne_eq_false_iff_eq]; omega)
            obtain rfl : R = false := by rw [← HR.out]; unfold rpB; first | (simp only [h1D.out, h1, z1, h2D.out, h2, h3D.out, h3, h4D.out, h4, Bool.false_eq_true, if_false, if_true, Bool.not_true, Bool.not_false, Bool.and_true, Bool.true_and, Bool.and_false, Bool.false_and, Bool.or_false, Bool.or_true, Bool.false_or, Bool.true_or]; done) | (simp [h1D.out, h1, z1, h2D.out, h2, h3D.out, h3, h4D.out, h4]; done)
            clear HR
            have x13 : W1.cell? ⟨g, 13, none⟩ = some (.int .i64 lo) := cell_of_row _ _ 13 _ _ (0, 0) J1.out.e
            have x14 : W1.cell? ⟨g, 14, none⟩ = some (.int .i64 hi) := cell_of_row _ _ 14 _ _ (0, 0) J1.out.e
            have x7 : W1.cell? ⟨g, 7, none⟩ = some (.int .i64 bc) := cell_of_row _ _ 7 _ _ (0, 0) J1.out.e
            go_wp2_with fail
            go_ret
            exact ⟨rfl, by rw [HG.out]; exact J1.out.bel⟩
        · --h3 f
          have h3D := Lib.hid (show decide (lo ≤ hi) = false by simpa using h3)
          have h3f0 : decide (hi < lo) = true := by first | (rw [decide_eq_false_iff_not]; omega) | (rw [decide_eq_true_iff]; omega) | (rw [bne_iff_ne]; omega) | (rw [beq_iff_eq]; omega) | (rw [beq_eq_false_iff_ne]; omega) | (rw [bne_eq_false_iff_eq]; omega)
          obtain rfl : R = false := by rw [← HR.out]; unfold rpB; first | (simp only [h1D.out, h1, z1, h2D.out, h2, h3D.out, h3, Bool.false_eq_true, if_false, if_true, Bool.not_true, Bool.not_false, Bool.and_true, Bool.true_and, Bool.and_false, Bool.false_and, Bool.or_false, Bool.or_true, Bool.false_or, Bool.true_or]; done) | (simp [h1D.out, h1, z1, h2D.out, h2, h3D.out, h3]; done)
          clear HR
          have x13 : W1.cell? ⟨g, 13, none⟩ = some (.int .i64 lo) := cell_of_row _ _ 13 _ _ (0, 0) J1.out.e
          have x14 : W1.cell? ⟨g, 14, none⟩ = some (.int .i64 hi) := cell_of_row _ _ 14 _ _ (0, 0) J1.out.e
          have x7 : W1.cell? ⟨g, 7, none⟩ = some (.int .i64 bc) := cell_of_row _ _ 7 _ _ (0, 0) J1.out.e
          go_wp2_with fail
          go_ret
          exact ⟨rfl, by rw [HG.out]; exact J1.out.bel⟩
      · --h2 f
        have h2D := Lib.hid (show decide (0 ≤ lo) = false by simpa using h2)
        have h2f0 : decide (lo < 0) = true := by first | (rw [decide_eq_false_iff_not]; omega) | (rw [decide_eq_true_iff]; omega) | (rw [bne_iff_ne]; omega) | (rw [beq_iff_eq]; omega) | (rw [beq_eq_false_iff_ne]; omega) | (rw [bne_eq_false_iff_eq]; omega)
        obtain rfl : R = false := by rw [← HR.out]; unfold rpB; first | (simp only [h1D.out, h1, z1, h2D.out, h2, Bool.false_eq_true, if_false, if_true, Bool.not_true, Bool.not_false, Bool.and_true, Bool.true_and, Bool.and_false, Bool.false_and, Bool.or_false, Bool.or_true, Bool.false_or, Bool.true_or]; done) | (simp [h1D.out, h1, z1, h2D.out, h2]; done)
        clear HR
        have x13 : W1.cell? ⟨g, 13, none⟩ = some (.int .i64 lo) := cell_of_row _ _ 13 _ _ (0, 0) J1.out.e
        have x14 : W1.cell? ⟨g, 14, none⟩ = some (.int .i64 hi) := cell_of_row _ _ 14 _ _ (0, 0) J1.out.e
        have x7 : W1.cell? ⟨g, 7, none⟩ = some (.int .i64 bc) := cell_of_row _ _ 7 _ _ (0, 0) J1.out.e
        go_wp2_with fail
        go_ret
        exact ⟨rfl, by rw [HG.out]; exact J1.out.bel⟩
  · --h1 f
    have h1D := Lib.hid (show decide (bc ≤ 1000) = false by simpa using h1)
    have h1f0 : decide (1000 < bc) = true := by first | (rw [decide_eq_false_iff_not]; omega) | (rw [decide_eq_true_iff]; omega) | (rw [bne_iff_ne]; omega) | (rw [beq_iff_eq]; omega) | (rw [beq_eq_false_iff_ne]; omega) | (rw [bne_eq_false_iff_eq]; omega)
    obtain rfl : R = false := by rw [← HR.out]; unfold rpB; first | (simp only [h1D.out, h1, Bool.false_eq_true, if_false, if_true, Bool.not_true, Bool.not_false, Bool.and_true, Bool.true_and, Bool.and_false, Bool.false_and, Bool.or_false, Bool.or_true, Bool.false_or, Bool.true_or]; done) | (simp [h1D.out, h1]; done)
    clear HR
    have x7 : W0.cell? ⟨g, 7, none⟩ = some (.int .i64 bc) := cell_of_row _ _ 7 _ _ (0, 0) J0.out.e
    go_wp2_with fail
    go_ret
    exact ⟨rfl, by rw [HG.out]; exact J0.out.bel⟩

set_option maxRecDepth 100000 in
set_option maxHeartbeats 2000000 in
theorem rc_run (nd sl sq t kd bc pc qc lo hi : Int) (bi pi qi n1 k1 n2 k2 : Nat) (A1 A2 : Option Addr) (w : World) (hb : bi ≤ 4) (hp : pi ≤ 4) (hq : qi ≤ 4) :
    Calls Try.prog 103 #[.agg #[.int .i64 nd, .int .i64 sl, .int .i64 sq, .int .i64 t, .slice A1 n1 k1, .slice A2 n2 k2, .int .i64 kd, .int .i64 bc, .string (valOf bi), .int .i64 pc, .string (valOf pi), .int .i64 qc, .string (valOf qi), .int .i64 lo, .int .i64 hi]] w fun e w' => e = .returned (.bool (rcB bc bi pc pi qc qi lo hi)) ∧ Below w.heap.size w w' := by
  obtain ⟨R, hR⟩ : ∃ R, rcB bc bi pc pi qc qi lo hi = R := ⟨_, rfl⟩
  rw [hR]
  have HR := Lib.hid hR
  have J0 := Lib.hid (EV.new w #[.int .i64 nd, .int .i64 sl, .int .i64 sq, .int .i64 t, .slice A1 n1 k1, .slice A2 n2 k2, .int .i64 kd, .int .i64 bc, .string (valOf bi), .int .i64 pc, .string (valOf pi), .int .i64 qc, .string (valOf qi), .int .i64 lo, .int .i64 hi] 91)
  clear hR
  go_enter Try.func103, Try.ntmps103
  go_upto_region 1 with fail
  generalize w.alloc (.cells #[.int .i64 nd, .int .i64 sl, .int .i64 sq, .int .i64 t, .slice A1 n1 k1, .slice A2 n2 k2, .int .i64 kd, .int .i64 bc, .string (valOf bi), .int .i64 pc, .string (valOf pi), .int .i64 qc, .string (valOf qi), .int .i64 lo, .int .i64 hi] 91) = W0 at *
  generalize hg : w.heap.size = g at *
  have HG := Lib.hid hg
  clear hg
  by_cases h1 : bc ≤ 1000
  · --h1 t
    have h1D := Lib.hid (show decide (bc ≤ 1000) = true by simpa using h1)
    have h1t0 : decide (bc ≤ 1000) = true := by first | (rw [decide_eq_false_iff_not]; omega) | (rw [decide_eq_true_iff]; omega) | (rw [bne_iff_ne]; omega) | (rw [beq_iff_eq]; omega) | (rw [beq_eq_false_iff_ne]; omega) | (rw [bne_eq_false_iff_eq]; omega)
    have x7 : W0.cell? ⟨g, 7, none⟩ = some (.int .i64 bc) := cell_of_row _ _ 7 _ _ (0, 0) J0.out.e
    have x9 : W0.cell? ⟨g, 9, none⟩ = some (.int .i64 pc) := cell_of_row _ _ 9 _ _ (0, 0) J0.out.e
    have x10 : W0.cell? ⟨g, 10, none⟩ = some (.string (valOf pi)) := cell_of_row _ _ 10 _ _ (0, 0) J0.out.e
    go_wp2_with fail
    refine (valid_run _ _ _ hp).mono ?_
    rintro e W1 ⟨rfl, hb⟩
    have J1 := Lib.hid (J0.out.bl hb)
    clear x7 x9 x10
    clear hb
    cases z1 : validB pc pi
    · --z1 false
      obtain rfl : R = false := by rw [← HR.out]; unfold rcB; first | (simp only [h1D.out, h1, z1, Bool.false_eq_true, if_false, if_true, Bool.not_true, Bool.not_false, Bool.and_true, Bool.true_and, Bool.and_false, Bool.false_and, Bool.or_false, Bool.or_true, Bool.false_or, Bool.true_or]; done) | (simp [h1D.out, h1, z1]; done)
      clear HR
      go_wp2_with fail
      go_ret
      exact ⟨rfl, by rw [HG.out]; exact J1.out.bel⟩
    · --z1 true
      have x9 : W1.cell? ⟨g, 9, none⟩ = some (.int .i64 pc) := cell_of_row _ _ 9 _ _ (0, 0) J1.out.e
      have x10 : W1.cell? ⟨g, 10, none⟩ = some (.string (valOf pi)) := cell_of_row _ _ 10 _ _ (0, 0) J1.out.e
      have x7 : W1.cell? ⟨g, 7, none⟩ = some (.int .i64 bc) := cell_of_row _ _ 7 _ _ (0, 0) J1.out.e
      have x8 : W1.cell? ⟨g, 8, none⟩ = some (.string (valOf bi)) := cell_of_row _ _ 8 _ _ (0, 0) J1.out.e
      go_wp2_with fail
      refine (compat_run _ _ _ _ _ hp hb).mono ?_
      rintro e W2 ⟨rfl, hb⟩
      have J2 := Lib.hid (J1.out.bl hb)
      clear x9 x10 x7 x8
      clear hb
      cases z2 : decide (pi = bi)
      · --z2 false
        obtain rfl : R = false := by rw [← HR.out]; unfold rcB; first | (simp only [h1D.out, h1, z1, z2, Bool.false_eq_true, if_false, if_true, Bool.not_true, Bool.not_false, Bool.and_true, Bool.true_and, Bool.and_false, Bool.false_and, Bool.or_false, Bool.or_true, Bool.false_or, Bool.true_or]; done) | (simp [h1D.out, h1, z1, z2]; done)
        clear HR
        go_wp2_with fail
        go_ret
        exact ⟨rfl, by rw [HG.out]; exact J2.out.bel⟩
      · --z2 true
        have x11 : W2.cell? ⟨g, 11, none⟩ = some (.int .i64 qc) := cell_of_row _ _ 11 _ _ (0, 0) J2.out.e
        have x12 : W2.cell? ⟨g, 12, none⟩ = some (.string (valOf qi)) := cell_of_row _ _ 12 _ _ (0, 0) J2.out.e
        go_wp2_with fail
        refine (zero_run _ _ _ hq).mono ?_
        rintro e W3 ⟨rfl, hb⟩
        have J3 := Lib.hid (J2.out.bl hb)
        clear x11 x12
        clear hb
        cases z3 : zeroB qc qi
        · --z3 false
          obtain rfl : R = false := by rw [← HR.out]; unfold rcB; first | (simp only [h1D.out, h1, z1, z2, z3, Bool.false_eq_true, if_false, if_true, Bool.not_true, Bool.not_false, Bool.and_true, Bool.true_and, Bool.and_false, Bool.false_and, Bool.or_false, Bool.or_true, Bool.false_or, Bool.true_or]; done) | (simp [h1D.out, h1, z1, z2, z3]; done)
          clear HR
          go_wp2_with fail
          go_ret
          exact ⟨rfl, by rw [HG.out]; exact J3.out.bel⟩
        · --z3 true
          by_cases h2 : pc ≤ 1000
          · --h2 t
            have h2D := Lib.hid (show decide (pc ≤ 1000) = true by simpa using h2)
            have x13 : W3.cell? ⟨g, 13, none⟩ = some (.int .i64 lo) := cell_of_row _ _ 13 _ _ (0, 0) J3.out.e
            have x14 : W3.cell? ⟨g, 14, none⟩ = some (.int .i64 hi) := cell_of_row _ _ 14 _ _ (0, 0) J3.out.e
            have x9 : W3.cell? ⟨g, 9, none⟩ = some (.int .i64 pc) := cell_of_row _ _ 9 _ _ (0, 0) J3.out.e
            go_wp2_with fail
            refine (isRange_run _ _ _ _).mono ?_
            rintro e w2 ⟨rfl, rfl⟩
            clear x13 x14 x9
            cases z4 : rngB lo hi pc
            · --z4 false
              obtain rfl : R = false := by rw [← HR.out]; unfold rcB; first | (simp only [h1D.out, h1, z1, z2, z3, h2D.out, h2, z4, Bool.false_eq_true, if_false, if_true, Bool.not_true, Bool.not_false, Bool.and_true, Bool.true_and, Bool.and_false, Bool.false_and, Bool.or_false, Bool.or_true, Bool.false_or, Bool.true_or]; done) | (simp [h1D.out, h1, z1, z2, z3, h2D.out, h2, z4]; done)
              clear HR
              go_wp2_with fail
              go_ret
              exact ⟨rfl, by rw [HG.out]; exact J3.out.bel⟩
            · --z4 true
              obtain rfl : R = true := by rw [← HR.out]; unfold rcB; first | (simp only [h1D.out, h1, z1, z2, z3, h2D.out, h2, z4, Bool.false_eq_true, if_false, if_true, Bool.not_true, Bool.not_false, Bool.and_true, Bool.true_and, Bool.and_false, Bool.false_and, Bool.or_false, Bool.or_true, Bool.false_or, Bool.true_or]; done) | (simp [h1D.out, h1, z1, z2, z3, h2D.out, h2, z4]; done)
              clear HR
              go_wp2_with fail
              go_ret
              exact ⟨rfl, by rw [HG.out]; exact J3.out.bel⟩
          · --h2 f
            have h2D := Lib.hid (show decide (pc ≤ 1000) = false by simpa using h2)
            have x13 : W3.cell? ⟨g, 13, none⟩ = some (.int .i64 lo) := cell_of_row _ _ 13 _ _ (0, 0) J3.out.e
            have x14 : W3.cell? ⟨g, 14, none⟩ = some (.int .i64 hi) := cell_of_row _ _ 14 _ _ (0, 0) J3.out.e
            have x9 : W3.cell? ⟨g, 9, none⟩ = some (.int .i64 pc) := cell_of_row _ _ 9 _ _ (0, 0) J3.out.e
            go_wp2_with fail
            refine (isRange_run _ _ _ _).mono ?_
            rintro e w2 ⟨rfl, rfl⟩
            clear x13 x14 x9
            cases z4 : rngB lo hi 1000
            · --z4 false
              obtain rfl : R = false := by rw [← HR.out]; unfold rcB; first | (simp only [h1D.out, h1, z1, z2, z3, h2D.out, h2, z4, Bool.false_eq_true, if_false, if_true, Bool.not_true, Bool.not_false, Bool.and_true, Bool.true_and, Bool.and_false, Bool.false_and, Bool.or_false, Bool.or_true, Bool.false_or, Bool.true_or]; done) | (simp [h1D.out, h1, z1, z2, z3, h2D.out, h2, z4]; done)
              clear HR
              go_wp2_with fail
              go_ret
              exact ⟨rfl, by rw [HG.out]; exact J3.out.bel⟩
            · --z4 true
              obtain rfl : R = true := by rw [← HR.out]; unfold rcB; first | (simp only [h1D.out, h1, z1, z2, z3, h2D.out, h2, z4, Bool.false_eq_true, if_false, if_true, Bool.not_true, Bool.not_false, Bool.and_true, Bool.true_and, Bool.and_false, Bool.false_and, Bool.or_false, Bool.or_true, Bool.false_or, Bool.true_or]; done) | (simp [h1D.out, h1, z1, z2, z3, h2D.out, h2, z4]; done)
              clear HR
              go_wp2_with fail
              go_ret
              exact ⟨rfl, by rw [HG.out]; exact J3.out.bel⟩
  · --h1 f
    have h1D := Lib.hid (show decide (bc ≤ 1000) = false by simpa using h1)
    have h1f0 : decide (bc ≤ 1000) = false := by first | (rw [decide_eq_false_iff_not]; omega) | (rw [decide_eq_true_iff]; omega) | (rw [bne_iff_ne]; omega) | (rw [beq_iff_eq]; omega) | (rw [beq_eq_false_iff_ne]; omega) | (rw [bne_eq_false_iff_eq]; omega)
    obtain rfl : R = false := by rw [← HR.out]; unfold rcB; first | (simp only [h1D.out, h1, Bool.false_eq_true, if_false, if_true, Bool.not_true, Bool.not_false, Bool.and_true, Bool.true_and, Bool.and_false, Bool.false_and, Bool.or_false, Bool.or_true, Bool.false_or, Bool.true_or]; done) | (simp [h1D.out, h1]; done)
    clear HR
    have x7 : W0.cell? ⟨g, 7, none⟩ = some (.int .i64 bc) := cell_of_row _ _ 7 _ _ (0, 0) J0.out.e
    go_wp2_with fail
    go_ret
    exact ⟨rfl, by rw [HG.out]; exact J0.out.bel⟩
end Go.Proofs.Ytmgiojdipheokaa
