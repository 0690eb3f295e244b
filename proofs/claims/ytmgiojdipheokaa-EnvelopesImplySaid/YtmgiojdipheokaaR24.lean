/- The reference's Valid of envelopes of kind prepare. -/
import Derived.Test.YtmgiojdipheokaaEnv2
import Derived.BigRegion
namespace Go.Proofs.Ytmgiojdipheokaa
set_option linter.unusedVariables false
set_option linter.unusedSimpArgs false
open Go.RowKit

set_option maxHeartbeats 2000000 in
theorem rvalid_fine (P : Nat → Prop) (n : Int) (hn10 : n ≤ 10) (d : Nat) (hd : d ≤ 4) (T : Tree) (v0 v1 v2 : Value) (w : World) (h : TAt P d w v0 v1 v2 T) (hW : WF n d T) (hs : sizeT d T ≤ 200) :
    Calls Try.prog 74 #[.agg #[v0, v1, v2]] w fun e w' => e = .returned (.int .i64 0) ∧ Below w.heap.size w w' := by
  obtain ⟨t', A', n', ca, B', m', cb, rfl, rfl, rfl⟩ := h.form
  have hT := Lib.hid (h.below (balloc (bref w) (.cells #[.int .i64 t', .slice A' n' ca, .slice B' m' cb] 41)))
  have HW := Lib.hid hW
  have hdl := Nat.le_trans (depthT_le d T) hd
  have hsz := hW.size4 hd
  clear h hW
  go_enter Try.func74, Try.ntmps74
  have hbox : (w.alloc (.cells #[.int .i64 t', .slice A' n' ca, .slice B' m' cb] 41)).heap[w.heap.size]? = some (.cells #[.int .i64 t', .slice A' n' ca, .slice B' m' cb] 41 (0, 0)) := heap_alloc_new _ _
  have HBX := Lib.hid hbox
  have HB1 := Lib.hid (balloc (bref w) (.cells #[.int .i64 t', .slice A' n' ca, .slice B' m' cb] 41))
  clear hbox
  go_upto_region 1 with fail
  generalize w.alloc (.cells #[.int .i64 t', .slice A' n' ca, .slice B' m' cb] 41) = W1 at *
  generalize hg : w.heap.size = g at *
  have hgw := Lib.hid hg
  clear hg
  have c0 : W1.cell? ⟨g, 0, none⟩ = some (.int .i64 t') := cell_of_row _ _ 0 _ _ (0, 0) HBX.out
  have c1 : W1.cell? ⟨g, 1, none⟩ = some (.slice A' n' ca) := cell_of_row _ _ 1 _ _ (0, 0) HBX.out
  have c2 : W1.cell? ⟨g, 2, none⟩ = some (.slice B' m' cb) := cell_of_row _ _ 2 _ _ (0, 0) HBX.out
  have hgl : g < W1.heap.size := cell_lt c0
  generalize hdz : depthT d T = dz at *
  generalize hzz : sizeT d T = zz at *
  have HDZ := Lib.hid hdz
  have HZZ := Lib.hid hzz
  clear hdz hzz
  go_wp2_with fail
  refine (rdepth_run P d T _ _ _ _ (by omega) hT.out).mono ?_
  rintro e w2 ⟨rfl, hb2⟩
  rw [HDZ.out]
  have a0 := (hb2.cell (p := ⟨g, 0, none⟩) hgl).trans c0
  have a1 := (hb2.cell (p := ⟨g, 1, none⟩) hgl).trans c1
  have a2 := (hb2.cell (p := ⟨g, 2, none⟩) hgl).trans c2
  have hT2 := Lib.hid (hT.out.below hb2)
  have HB2 := Lib.hid hb2
  have hgl2 := cell_lt a0
  clear hb2
  go_wp2_with fail
  refine (rsize_run P d T _ _ _ _ hT2.out (by rw [HZZ.out]; omega)).mono ?_
  rintro e w3 ⟨rfl, hb3⟩
  rw [HZZ.out]
  have d0 := (hb3.cell (p := ⟨g, 0, none⟩) hgl2).trans a0
  have d1 := (hb3.cell (p := ⟨g, 1, none⟩) hgl2).trans a1
  have d2 := (hb3.cell (p := ⟨g, 2, none⟩) hgl2).trans a2
  have hT3 := Lib.hid (hT2.out.below hb3)
  have HB3 := Lib.hid (bstep HB2.out hb3)
  have HBW : Hid (∀ x : World, Below W1.heap.size W1 x → Below w.heap.size w x) := Lib.hid (fun x hx => by have h1 := HB1.out; rw [← hgw.out] at h1; exact bstep h1 hx)
  clear hb3
  by_cases hz2 : zz ≤ 200
  · go_wp2_with fail
    refine (rcheck_run P n hn10 d T _ _ _ _ hT3.out HW.out).mono ?_
    rintro e w4 ⟨rfl, hb4⟩
    go_wp2_with fail
    go_ret
    rw [← hgw.out]
    exact ⟨rfl, HBW.out _ (bstep HB3.out hb4)⟩
  · exact absurd hs hz2

set_option maxHeartbeats 2000000 in
theorem r23valid_run (c : Int) (i : Nat) (w : World) (hi : i ≤ 4) :
    Calls Try.prog 105 #[.agg #[.int .i64 c, .string (valOf i)]] w fun e w' => e = .returned (.bool (validB c i)) ∧ Below w.heap.size w w' := by
  by_cases h0 : i = 0
  · subst h0
    have HL := Lib.hid (show validB c 0 = false by unfold validB; simp)
    have hs : (valOf 0).size = 0 := rfl
    by_cases h1 : 1 ≤ c <;> by_cases h2 : c ≤ 1000 <;> by_cases h3 : c = 1000000
    all_goals first | (exfalso; omega) | skip
    all_goals first | (have h4 : (c == 1000000) = true := by simpa using h3) | (have h4 : (c == 1000000) = false := by simpa using h3)
    all_goals
      clear h3
      go_enter Try.func105, Try.ntmps105
      go_wp2
      go_ret
      exact ⟨by rw [HL.out]; rfl, balloc (bref _) _⟩
  · obtain ⟨s0, s1⟩ := valOf_size (i := i) (by omega) hi
    have t0 : (1 : Int) ≤ ((valOf i).size : Int) := by omega
    have t1 : ((valOf i).size : Int) ≤ 200 := by omega
    clear s0 s1
    cases hval : validB c i
    all_goals
      have hv : validB c i = true ↔ (1 ≤ c ∧ c ≤ 1000) ∨ c = 1000000 := by unfold validB; simp; omega
      rw [hval] at hv
      have HL := Lib.hid hval
      clear hval
      by_cases h1 : 1 ≤ c <;> by_cases h2 : c ≤ 1000 <;> by_cases h3 : c = 1000000
    all_goals simp only [reduceCtorEq, false_iff, true_iff] at hv
    all_goals first | (exfalso; omega) | skip
    all_goals first | (have h4 : (c == 1000000) = true := by simpa using h3) | (have h4 : (c == 1000000) = false := by simpa using h3)
    all_goals
      clear h3 hv
      go_enter Try.func105, Try.ntmps105
      go_wp2
      go_ret
      exact ⟨rfl, balloc (bref _) _⟩

theorem zero_valid {c : Int} {i : Nat} (h : zeroB c i = true) : validB c i = false := by unfold zeroB at h; unfold validB; simp at h ⊢; omega

set_option maxRecDepth 100000 in
set_option maxHeartbeats 8000000 in
theorem r24_run {P : Nat → Prop} {T : Tree} (nd sl sq t kd bc pc qc lo hi : Int) (bi pi qi n1 k1 n2 k2 : Nat) (A1 A2 : Option Addr) (w : World) (hn0 : 0 ≤ nd) (hn1 : nd < 10) (hs0 : 1 ≤ sl) (hs1 : sl ≤ 1000000) (hq0 : 1 ≤ sq) (hq1 : sq ≤ 1000000) (hk : kd = 1) (hb : bi ≤ 4) (hp : pi ≤ 4) (hq : qi ≤ 4) (hvb : validB bc bi = true) (hT : TAt P 2 w (.int .i64 t) (.slice A1 n1 k1) (.slice A2 n2 k2) T) (hF : Fine 5 2 T) :
    Calls Try.prog 73 #[.agg #[.int .i64 nd, .int .i64 sl, .int .i64 sq, .int .i64 t, .slice A1 n1 k1, .slice A2 n2 k2, .int .i64 kd, .int .i64 bc, .string (valOf bi), .int .i64 pc, .string (valOf pi), .int .i64 qc, .string (valOf qi), .int .i64 lo, .int .i64 hi]] w fun e w' => e = .returned (.bool (rpB bc bi pc pi qc qi lo hi)) ∧ Below w.heap.size w w' := by
  obtain ⟨R, hR⟩ : ∃ R, rpB bc bi pc pi qc qi lo hi = R := ⟨_, rfl⟩
  rw [hR]
  have HR := Lib.hid hR
  have J0 := Lib.hid (EV.new w #[.int .i64 nd, .int .i64 sl, .int .i64 sq, .int .i64 t, .slice A1 n1 k1, .slice A2 n2 k2, .int .i64 kd, .int .i64 bc, .string (valOf bi), .int .i64 pc, .string (valOf pi), .int .i64 qc, .string (valOf qi), .int .i64 lo, .int .i64 hi] 44)
  have HT := Lib.hid (hT.below (balloc (bref w) (.cells #[.int .i64 nd, .int .i64 sl, .int .i64 sq, .int .i64 t, .slice A1 n1 k1, .slice A2 n2 k2, .int .i64 kd, .int .i64 bc, .string (valOf bi), .int .i64 pc, .string (valOf pi), .int .i64 qc, .string (valOf qi), .int .i64 lo, .int .i64 hi] 44)))
  have HF := Lib.hid hF
  have HVB := Lib.hid hvb
  have e1 : (kd == 1) = true := by rw [beq_iff_eq]; exact hk
  have HE1 := Lib.hid e1
  have d0 : decide (nd < 0) = false := by rw [decide_eq_false_iff_not]; omega
  have d1 : decide (9 < nd) = false := by rw [decide_eq_false_iff_not]; omega
  have d2 : decide (sl < 1) = false := by rw [decide_eq_false_iff_not]; omega
  have d3 : decide (1000000 < sl) = false := by rw [decide_eq_false_iff_not]; omega
  have d4 : decide (sq < 1) = false := by rw [decide_eq_false_iff_not]; omega
  have d5 : decide (1000000 < sq) = false := by rw [decide_eq_false_iff_not]; omega
  clear hR hT hF hvb hk e1
  go_enter Try.func73, Try.ntmps73
  go_upto_region 1 with fail
  generalize w.alloc (.cells #[.int .i64 nd, .int .i64 sl, .int .i64 sq, .int .i64 t, .slice A1 n1 k1, .slice A2 n2 k2, .int .i64 kd, .int .i64 bc, .string (valOf bi), .int .i64 pc, .string (valOf pi), .int .i64 qc, .string (valOf qi), .int .i64 lo, .int .i64 hi] 44) = W0 at *
  generalize hg : w.heap.size = g at *
  have HG := Lib.hid hg
  clear hg
  have x0 : W0.cell? ⟨g, 0, none⟩ = some (.int .i64 nd) := cell_of_row _ _ 0 _ _ (0, 0) J0.out.e
  have x1 : W0.cell? ⟨g, 1, none⟩ = some (.int .i64 sl) := cell_of_row _ _ 1 _ _ (0, 0) J0.out.e
  have x2 : W0.cell? ⟨g, 2, none⟩ = some (.int .i64 sq) := cell_of_row _ _ 2 _ _ (0, 0) J0.out.e
  have x3 : W0.cell? ⟨g, 3, none⟩ = some (.int .i64 t) := cell_of_row _ _ 3 _ _ (0, 0) J0.out.e
  have x4 : W0.cell? ⟨g, 4, none⟩ = some (.slice A1 n1 k1) := cell_of_row _ _ 4 _ _ (0, 0) J0.out.e
  have x5 : W0.cell? ⟨g, 5, none⟩ = some (.slice A2 n2 k2) := cell_of_row _ _ 5 _ _ (0, 0) J0.out.e
  go_wp2_with fail
  refine (rvalid_fine _ 5 (by omega) 2 (by omega) T _ _ _ _ HT.out HF.out.1 HF.out.2).mono ?_
  rintro e W1 ⟨rfl, hb1⟩
  have J1 := Lib.hid (J0.out.bl hb1)
  clear x0 x1 x2 x3 x4 x5 hb1 J0 HT
  have x7 : W1.cell? ⟨g, 7, none⟩ = some (.int .i64 bc) := cell_of_row _ _ 7 _ _ (0, 0) J1.out.e
  have x8 : W1.cell? ⟨g, 8, none⟩ = some (.string (valOf bi)) := cell_of_row _ _ 8 _ _ (0, 0) J1.out.e
  go_wp2_with fail
  refine (r23valid_run _ _ _ hb).mono ?_
  rintro e W2 ⟨rfl, hb1⟩
  rw [HVB.out]
  have J2 := Lib.hid (J1.out.bl hb1)
  clear x7 x8 hb1 J1 d0 d1 d2 d3 d4 d5
  have x9 : W2.cell? ⟨g, 9, none⟩ = some (.int .i64 pc) := cell_of_row _ _ 9 _ _ (0, 0) J2.out.e
  have x10 : W2.cell? ⟨g, 10, none⟩ = some (.string (valOf pi)) := cell_of_row _ _ 10 _ _ (0, 0) J2.out.e
  go_wp2_with fail
  refine (rzero_run _ _ _ hp).mono ?_
  rintro e W3 ⟨rfl, hb1⟩
  have J3 := Lib.hid (J2.out.bl hb1)
  clear x9 x10 hb1 J2
  have x8 : W3.cell? ⟨g, 8, none⟩ = some (.string (valOf bi)) := cell_of_row _ _ 8 _ _ (0, 0) J3.out.e
  have x13 : W3.cell? ⟨g, 13, none⟩ = some (.int .i64 lo) := cell_of_row _ _ 13 _ _ (0, 0) J3.out.e
  have x14 : W3.cell? ⟨g, 14, none⟩ = some (.int .i64 hi) := cell_of_row _ _ 14 _ _ (0, 0) J3.out.e
  have hgl := J3.out.lt
  go_upto_region 4 with fail
  go_cut [4, 5] (fun a b W => ∃ rl rh : Nat, a = .pointer (some ⟨rl, 0, none⟩) ∧ b = .pointer (some ⟨rh, 0, none⟩) ∧ Hid (EV w g #[.int .i64 nd, .int .i64 sl, .int .i64 sq, .int .i64 t, .slice A1 n1 k1, .slice A2 n2 k2, .int .i64 kd, .int .i64 bc, .string (valOf bi), .int .i64 pc, .string (valOf pi), .int .i64 qc, .string (valOf qi), .int .i64 lo, .int .i64 hi] 44 W) ∧ Hid (BalAt W rl lo bi) ∧ Hid (BalAt W rh hi bi))
  case first =>
    have A1 := Lib.hid (J3.out.bl (bdrew (balloc (balloc (bref W3) (.cells #[.int .i64 lo, .string (valOf bi)] 26)) (.cells #[.int .i64 hi, .string (valOf bi)] 26))))
    have A2 := Lib.hid (show BalAt ((W3.alloc (.cells #[.int .i64 lo, .string (valOf bi)] 26)).alloc (.cells #[.int .i64 hi, .string (valOf bi)] 26)).drew W3.heap.size lo bi from (BalAt.new W3 lo bi).alloc _)
    have A3 := Lib.hid (show BalAt ((W3.alloc (.cells #[.int .i64 lo, .string (valOf bi)] 26)).alloc (.cells #[.int .i64 hi, .string (valOf bi)] 26)).drew (W3.heap.size + 1) hi bi by have := BalAt.new (W3.alloc (.cells #[.int .i64 lo, .string (valOf bi)] 26)) hi bi; rw [World.size_alloc] at this; exact this)
    have B1 := Lib.hid (J3.out.bl (bdrew (balloc (balloc (bref W3) (.cells #[.int .i64 hi, .string (valOf bi)] 26)) (.cells #[.int .i64 lo, .string (valOf bi)] 26))))
    have B2 := Lib.hid (show BalAt ((W3.alloc (.cells #[.int .i64 hi, .string (valOf bi)] 26)).alloc (.cells #[.int .i64 lo, .string (valOf bi)] 26)).drew (W3.heap.size + 1) lo bi by have := BalAt.new (W3.alloc (.cells #[.int .i64 hi, .string (valOf bi)] 26)) lo bi; rw [World.size_alloc] at this; exact this)
    have B3 := Lib.hid (show BalAt ((W3.alloc (.cells #[.int .i64 hi, .string (valOf bi)] 26)).alloc (.cells #[.int .i64 lo, .string (valOf bi)] 26)).drew W3.heap.size hi bi from (BalAt.new W3 hi bi).alloc _)
    go_region
    all_goals
      try go_wp2_with fail
      go_meet
      first | exact ⟨_, _, rfl, rfl, A1, A2, A3⟩ | exact ⟨_, _, rfl, rfl, B1, B2, B3⟩
  case rest =>
    obtain ⟨rl, rh, rfl, rfl, J4, HXl, HXh⟩ := hcut
    clear x8 x13 x14 hgl J3
    have e1 := HE1.out
    cases z0 : zeroB pc pi
    · --false
      by_cases h1 : bc ≤ 1000
      · --h1 t
        have h1D := Lib.hid (show decide (bc ≤ 1000) = true by simpa using h1)
        have h1t0 : decide (1000 < bc) = false := by first | (rw [decide_eq_false_iff_not]; omega) | (rw [decide_eq_true_iff]; omega) | (rw [bne_iff_ne]; omega) | (rw [beq_iff_eq]; omega) | (rw [beq_eq_false_iff_ne]; omega) | (rw [bne_eq_false_iff_eq]; omega)
        have x6 : wc.cell? ⟨g, 6, none⟩ = some (.int .i64 kd) := cell_of_row _ _ 6 _ _ (0, 0) J4.out.e
        have x7 : wc.cell? ⟨g, 7, none⟩ = some (.int .i64 bc) := cell_of_row _ _ 7 _ _ (0, 0) J4.out.e
        have x9 : wc.cell? ⟨g, 9, none⟩ = some (.int .i64 pc) := cell_of_row _ _ 9 _ _ (0, 0) J4.out.e
        have x10 : wc.cell? ⟨g, 10, none⟩ = some (.string (valOf pi)) := cell_of_row _ _ 10 _ _ (0, 0) J4.out.e
        go_wp2_with fail
        refine (r23valid_run _ _ _ hp).mono ?_
        rintro e W5 ⟨rfl, hb⟩
        have J5 := Lib.hid (J4.out.bl hb)
        have HXl_5 := Lib.hid (HXl.out.below hb)
        have HXh_5 := Lib.hid (HXh.out.below hb)
        clear x6 x7 x9 x10
        clear hb
        cases zv : validB pc pi
        · --zv false
          obtain rfl : false = R := by rw [← HR.out]; unfold rpB; symm; first | (simp only [rppB, z0, h1D.out, h1, zv, Bool.false_eq_true, if_false, if_true, Bool.not_true, Bool.not_false, Bool.and_true, Bool.true_and, Bool.and_false, Bool.false_and, Bool.or_false, Bool.or_true, Bool.false_or, Bool.true_or]; done) | (simp [rppB, z0, h1D.out, h1, zv]; done)
          clear HR
          go_wp2_with fail
          go_ret
          exact ⟨rfl, by rw [HG.out]; exact J5.out.bel⟩
        · --zv true
          have x11 : W5.cell? ⟨g, 11, none⟩ = some (.int .i64 qc) := cell_of_row _ _ 11 _ _ (0, 0) J5.out.e
          have x12 : W5.cell? ⟨g, 12, none⟩ = some (.string (valOf qi)) := cell_of_row _ _ 12 _ _ (0, 0) J5.out.e
          have x6 : W5.cell? ⟨g, 6, none⟩ = some (.int .i64 kd) := cell_of_row _ _ 6 _ _ (0, 0) J5.out.e
          have x7 : W5.cell? ⟨g, 7, none⟩ = some (.int .i64 bc) := cell_of_row _ _ 7 _ _ (0, 0) J5.out.e
          go_wp2_with fail
          refine (rzero_run _ _ _ hq).mono ?_
          rintro e W6 ⟨rfl, hb⟩
          have J6 := Lib.hid (J5.out.bl hb)
          have HXl_6 := Lib.hid (HXl_5.out.below hb)
          have HXh_6 := Lib.hid (HXh_5.out.below hb)
          clear x11 x12 x6 x7
          clear hb
          cases z1 : zeroB qc qi
          · --z1 false
            have x11 : W6.cell? ⟨g, 11, none⟩ = some (.int .i64 qc) := cell_of_row _ _ 11 _ _ (0, 0) J6.out.e
            have x12 : W6.cell? ⟨g, 12, none⟩ = some (.string (valOf qi)) := cell_of_row _ _ 12 _ _ (0, 0) J6.out.e
            go_wp2_with fail
            refine (r23valid_run _ _ _ hq).mono ?_
            rintro e W7 ⟨rfl, hb⟩
            have J7 := Lib.hid (J6.out.bl hb)
            have HXl_7 := Lib.hid (HXl_6.out.below hb)
            have HXh_7 := Lib.hid (HXh_6.out.below hb)
            clear x11 x12
            clear hb
            cases z2 : validB qc qi
            · --z2 false
              obtain rfl : false = R := by rw [← HR.out]; unfold rpB; symm; first | (simp only [rppB, z0, h1D.out, h1, zv, z1, z2, Bool.false_eq_true, if_false, if_true, Bool.not_true, Bool.not_false, Bool.and_true, Bool.true_and, Bool.and_false, Bool.false_and, Bool.or_false, Bool.or_true, Bool.false_or, Bool.true_or]; done) | (simp [rppB, z0, h1D.out, h1, zv, z1, z2]; done)
              clear HR
              go_wp2_with fail
              go_ret
              exact ⟨rfl, by rw [HG.out]; exact J7.out.bel⟩
            · --z2 true
              have x9 : W7.cell? ⟨g, 9, none⟩ = some (.int .i64 pc) := cell_of_row _ _ 9 _ _ (0, 0) J7.out.e
              have x10 : W7.cell? ⟨g, 10, none⟩ = some (.string (valOf pi)) := cell_of_row _ _ 10 _ _ (0, 0) J7.out.e
              have x11 : W7.cell? ⟨g, 11, none⟩ = some (.int .i64 qc) := cell_of_row _ _ 11 _ _ (0, 0) J7.out.e
              have x12 : W7.cell? ⟨g, 12, none⟩ = some (.string (valOf qi)) := cell_of_row _ _ 12 _ _ (0, 0) J7.out.e
              go_wp2_with fail
              refine (rless_run _ _ _ _ _ hq hp).mono ?_
              rintro e W8 ⟨rfl, hb⟩
              have J8 := Lib.hid (J7.out.bl hb)
              have HXl_8 := Lib.hid (HXl_7.out.below hb)
              have HXh_8 := Lib.hid (HXh_7.out.below hb)
              clear x9 x10 x11 x12
              clear hb
              cases z3 : lessB qc qi pc pi
              · --z3 false
                obtain rfl : false = R := by rw [← HR.out]; unfold rpB; symm; first | (simp only [rppB, z0, h1D.out, h1, zv, z1, z2, z3, Bool.false_eq_true, if_false, if_true, Bool.not_true, Bool.not_false, Bool.and_true, Bool.true_and, Bool.and_false, Bool.false_and, Bool.or_false, Bool.or_true, Bool.false_or, Bool.true_or]; done) | (simp [rppB, z0, h1D.out, h1, zv, z1, z2, z3]; done)
                clear HR
                go_wp2_with fail
                go_ret
                exact ⟨rfl, by rw [HG.out]; exact J8.out.bel⟩
              · --z3 true
                have x9 : W8.cell? ⟨g, 9, none⟩ = some (.int .i64 pc) := cell_of_row _ _ 9 _ _ (0, 0) J8.out.e
                have x10 : W8.cell? ⟨g, 10, none⟩ = some (.string (valOf pi)) := cell_of_row _ _ 10 _ _ (0, 0) J8.out.e
                have x11 : W8.cell? ⟨g, 11, none⟩ = some (.int .i64 qc) := cell_of_row _ _ 11 _ _ (0, 0) J8.out.e
                have x12 : W8.cell? ⟨g, 12, none⟩ = some (.string (valOf qi)) := cell_of_row _ _ 12 _ _ (0, 0) J8.out.e
                go_wp2_with fail
                refine (rcompat_run _ _ _ _ _ hq hp).mono ?_
                rintro e W9 ⟨rfl, hb⟩
                have J9 := Lib.hid (J8.out.bl hb)
                have HXl_9 := Lib.hid (HXl_8.out.below hb)
                have HXh_9 := Lib.hid (HXh_8.out.below hb)
                clear x9 x10 x11 x12
                clear hb
                cases z4 : decide (qi = pi)
                · --z4 false
                  by_cases h2 : 0 ≤ lo
                  · --h2 t
                    have h2D := Lib.hid (show decide (0 ≤ lo) = true by simpa using h2)
                    have h2t0 : decide (lo < 0) = false := by first | (rw [decide_eq_false_iff_not]; omega) | (rw [decide_eq_true_iff]; omega) | (rw [bne_iff_ne]; omega) | (rw [beq_iff_eq]; omega) | (rw [beq_eq_false_iff_ne]; omega) | (rw [bne_eq_false_iff_eq]; omega)
                    by_cases h3 : lo ≤ hi
                    · --h3 t
                      have h3D := Lib.hid (show decide (lo ≤ hi) = true by simpa using h3)
                      have h3t0 : decide (hi < lo) = false := by first | (rw [decide_eq_false_iff_not]; omega) | (rw [decide_eq_true_iff]; omega) | (rw [bne_iff_ne]; omega) | (rw [beq_iff_eq]; omega) | (rw [beq_eq_false_iff_ne]; omega) | (rw [bne_eq_false_iff_eq]; omega)
                      by_cases h4 : hi ≤ bc
                      · --h4 t
                        have h4D := Lib.hid (show decide (hi ≤ bc) = true by simpa using h4)
                        have h4t0 : decide (bc < hi) = false := by first | (rw [decide_eq_false_iff_not]; omega) | (rw [decide_eq_true_iff]; omega) | (rw [bne_iff_ne]; omega) | (rw [beq_iff_eq]; omega) | (rw [beq_eq_false_iff_ne]; omega) | (rw [bne_eq_false_iff_eq]; omega)
                        by_cases h5 : hi = 0
                        · --h5 t
                          have h5D := Lib.hid (show decide (hi = 0) = true by simpa using h5)
                          have h5t0 : decide (0 < hi) = false := by first | (rw [decide_eq_false_iff_not]; omega) | (rw [decide_eq_true_iff]; omega) | (rw [bne_iff_ne]; omega) | (rw [beq_iff_eq]; omega) | (rw [beq_eq_false_iff_ne]; omega) | (rw [bne_eq_false_iff_eq]; omega)
                          clear h5
                          have x14 : W9.cell? ⟨g, 14, none⟩ = some (.int .i64 hi) := cell_of_row _ _ 14 _ _ (0, 0) J9.out.e
                          have x7 : W9.cell? ⟨g, 7, none⟩ = some (.int .i64 bc) := cell_of_row _ _ 7 _ _ (0, 0) J9.out.e
                          by_cases h6 : lo = 0
                          · --h6 t
                            have h6D := Lib.hid (show decide (lo = 0) = true by simpa using h6)
                            have h6t0 : (lo == 0) = true := by first | (rw [decide_eq_false_iff_not]; omega) | (rw [decide_eq_true_iff]; omega) | (rw [bne_iff_ne]; omega) | (rw [beq_iff_eq]; omega) | (rw [beq_eq_false_iff_ne]; omega) | (rw [bne_eq_false_iff_eq]; omega)
                            clear h6
                            obtain rfl : true = R := by rw [← HR.out]; unfold rpB; symm; first | (simp only [rppB, z0, h1D.out, h1, zv, z1, z2, z3, z4, h2D.out, h2, h3D.out, h3, h4D.out, h4, h5D.out, h6D.out, Bool.false_eq_true, if_false, if_true, Bool.not_true, Bool.not_false, Bool.and_true, Bool.true_and, Bool.and_false, Bool.false_and, Bool.or_false, Bool.or_true, Bool.false_or, Bool.true_or]; done) | (simp [rppB, z0, h1D.out, h1, zv, z1, z2, z3, z4, h2D.out, h2, h3D.out, h3, h4D.out, h4, h5D.out, h6D.out]; done)
                            clear HR
                            have x13 : W9.cell? ⟨g, 13, none⟩ = some (.int .i64 lo) := cell_of_row _ _ 13 _ _ (0, 0) J9.out.e
                            go_wp2_with fail
                            go_ret
                            exact ⟨rfl, by rw [HG.out]; exact J9.out.bel⟩
                          · --h6 f
                            have h6D := Lib.hid (show decide (lo = 0) = false by simpa using h6)
                            have h6f0 : (lo == 0) = false := by first | (rw [decide_eq_false_iff_not]; omega) | (rw [decide_eq_true_iff]; omega) | (rw [bne_iff_ne]; omega) | (rw [beq_iff_eq]; omega) | (rw [beq_eq_false_iff_ne]; omega) | (rw [bne_eq_false_iff_eq]; omega)
                            clear h6
                            have x9 : W9.cell? ⟨g, 9, none⟩ = some (.int .i64 pc) := cell_of_row _ _ 9 _ _ (0, 0) J9.out.e
                            have x10 : W9.cell? ⟨g, 10, none⟩ = some (.string (valOf pi)) := cell_of_row _ _ 10 _ _ (0, 0) J9.out.e
                            have x13 : W9.cell? ⟨g, 13, none⟩ = some (.int .i64 lo) := cell_of_row _ _ 13 _ _ (0, 0) J9.out.e
                            obtain ⟨yl0, yl1⟩ := HXl_9.out.cs
                            go_wp2_with fail
                            refine (raborts_run _ _ _ _ _ hp hb).mono ?_
                            rintro e W10 ⟨rfl, hb⟩
                            have J10 := Lib.hid (J9.out.bl hb)
                            have HXl_10 := Lib.hid (HXl_9.out.below hb)
                            have HXh_10 := Lib.hid (HXh_9.out.below hb)
                            clear x9 x10 x13 yl0 yl1
                            clear hb
                            cases z6 : abB pc pi lo bi
                            · --z6 false
                              have x11 : W10.cell? ⟨g, 11, none⟩ = some (.int .i64 qc) := cell_of_row _ _ 11 _ _ (0, 0) J10.out.e
                              have x12 : W10.cell? ⟨g, 12, none⟩ = some (.string (valOf qi)) := cell_of_row _ _ 12 _ _ (0, 0) J10.out.e
                              obtain ⟨yl0, yl1⟩ := HXl_10.out.cs
                              go_wp2_with fail
                              refine (raborts_run _ _ _ _ _ hq hb).mono ?_
                              rintro e W11 ⟨rfl, hb⟩
                              have J11 := Lib.hid (J10.out.bl hb)
                              have HXl_11 := Lib.hid (HXl_10.out.below hb)
                              have HXh_11 := Lib.hid (HXh_10.out.below hb)
                              clear x11 x12 yl0 yl1
                              clear hb
                              cases z7 : abB qc qi lo bi
                              · --z7 false
                                obtain rfl : true = R := by rw [← HR.out]; unfold rpB; symm; first | (simp only [rppB, z0, h1D.out, h1, zv, z1, z2, z3, z4, h2D.out, h2, h3D.out, h3, h4D.out, h4, h5D.out, h6D.out, z6, z7, Bool.false_eq_true, if_false, if_true, Bool.not_true, Bool.not_false, Bool.and_true, Bool.true_and, Bool.and_false, Bool.false_and, Bool.or_false, Bool.or_true, Bool.false_or, Bool.true_or]; done) | (simp [rppB, z0, h1D.out, h1, zv, z1, z2, z3, z4, h2D.out, h2, h3D.out, h3, h4D.out, h4, h5D.out, h6D.out, z6, z7]; done)
                                clear HR
                                go_wp2_with fail
                                go_ret
                                exact ⟨rfl, by rw [HG.out]; exact J11.out.bel⟩
                              · --z7 true
                                obtain rfl : false = R := by rw [← HR.out]; unfold rpB; symm; first | (simp only [rppB, z0, h1D.out, h1, zv, z1, z2, z3, z4, h2D.out, h2, h3D.out, h3, h4D.out, h4, h5D.out, h6D.out, z6, z7, Bool.false_eq_true, if_false, if_true, Bool.not_true, Bool.not_false, Bool.and_true, Bool.true_and, Bool.and_false, Bool.false_and, Bool.or_false, Bool.or_true, Bool.false_or, Bool.true_or]; done) | (simp [rppB, z0, h1D.out, h1, zv, z1, z2, z3, z4, h2D.out, h2, h3D.out, h3, h4D.out, h4, h5D.out, h6D.out, z6, z7]; done)
                                clear HR
                                go_wp2_with fail
                                go_ret
                                exact ⟨rfl, by rw [HG.out]; exact J11.out.bel⟩
                            · --z6 true
                              obtain rfl : false = R := by rw [← HR.out]; unfold rpB; symm; first | (simp only [rppB, z0, h1D.out, h1, zv, z1, z2, z3, z4, h2D.out, h2, h3D.out, h3, h4D.out, h4, h5D.out, h6D.out, z6, Bool.false_eq_true, if_false, if_true, Bool.not_true, Bool.not_false, Bool.and_true, Bool.true_and, Bool.and_false, Bool.false_and, Bool.or_false, Bool.or_true, Bool.false_or, Bool.true_or]; done) | (simp [rppB, z0, h1D.out, h1, zv, z1, z2, z3, z4, h2D.out, h2, h3D.out, h3, h4D.out, h4, h5D.out, h6D.out, z6]; done)
                              clear HR
                              go_wp2_with fail
                              go_ret
                              exact ⟨rfl, by rw [HG.out]; exact J10.out.bel⟩
                        · --h5 f
                          have h5D := Lib.hid (show decide (hi = 0) = false by simpa using h5)
                          have h5f0 : decide (0 < hi) = true := by first | (rw [decide_eq_false_iff_not]; omega) | (rw [decide_eq_true_iff]; omega) | (rw [bne_iff_ne]; omega) | (rw [beq_iff_eq]; omega) | (rw [beq_eq_false_iff_ne]; omega) | (rw [bne_eq_false_iff_eq]; omega)
                          clear h5
                          have x9 : W9.cell? ⟨g, 9, none⟩ = some (.int .i64 pc) := cell_of_row _ _ 9 _ _ (0, 0) J9.out.e
                          have x10 : W9.cell? ⟨g, 10, none⟩ = some (.string (valOf pi)) := cell_of_row _ _ 10 _ _ (0, 0) J9.out.e
                          have x11 : W9.cell? ⟨g, 11, none⟩ = some (.int .i64 qc) := cell_of_row _ _ 11 _ _ (0, 0) J9.out.e
                          have x12 : W9.cell? ⟨g, 12, none⟩ = some (.string (valOf qi)) := cell_of_row _ _ 12 _ _ (0, 0) J9.out.e
                          have x14 : W9.cell? ⟨g, 14, none⟩ = some (.int .i64 hi) := cell_of_row _ _ 14 _ _ (0, 0) J9.out.e
                          have x13 : W9.cell? ⟨g, 13, none⟩ = some (.int .i64 lo) := cell_of_row _ _ 13 _ _ (0, 0) J9.out.e
                          have x7 : W9.cell? ⟨g, 7, none⟩ = some (.int .i64 bc) := cell_of_row _ _ 7 _ _ (0, 0) J9.out.e
                          obtain ⟨yh0, yh1⟩ := HXh_9.out.cs
                          go_wp2_with fail
                          refine (rprepares_run _ _ _ _ _ _ _ hp hq hb).mono ?_
                          rintro e W12 ⟨rfl, hb⟩
                          have J12 := Lib.hid (J9.out.bl hb)
                          have HXl_12 := Lib.hid (HXl_9.out.below hb)
                          have HXh_12 := Lib.hid (HXh_9.out.below hb)
                          clear x9 x10 x11 x12 x14 x13 x7 yh0 yh1
                          clear hb
                          cases z5 : prepB pc pi qc qi hi bi
                          · --z5 false
                            obtain rfl : false = R := by rw [← HR.out]; unfold rpB; symm; first | (simp only [rppB, z0, h1D.out, h1, zv, z1, z2, z3, z4, h2D.out, h2, h3D.out, h3, h4D.out, h4, h5D.out, z5, Bool.false_eq_true, if_false, if_true, Bool.not_true, Bool.not_false, Bool.and_true, Bool.true_and, Bool.and_false, Bool.false_and, Bool.or_false, Bool.or_true, Bool.false_or, Bool.true_or]; done) | (simp [rppB, z0, h1D.out, h1, zv, z1, z2, z3, z4, h2D.out, h2, h3D.out, h3, h4D.out, h4, h5D.out, z5]; done)
                            clear HR
                            go_wp2_with fail
                            go_ret
                            exact ⟨rfl, by rw [HG.out]; exact J12.out.bel⟩
                          · --z5 true
                            by_cases h6 : lo = 0
                            · --h6 t
                              have h6D := Lib.hid (show decide (lo = 0) = true by simpa using h6)
                              have h6t0 : (lo == 0) = true := by first | (rw [decide_eq_false_iff_not]; omega) | (rw [decide_eq_true_iff]; omega) | (rw [bne_iff_ne]; omega) | (rw [beq_iff_eq]; omega) | (rw [beq_eq_false_iff_ne]; omega) | (rw [bne_eq_false_iff_eq]; omega)
                              clear h6
                              obtain rfl : true = R := by rw [← HR.out]; unfold rpB; symm; first | (simp only [rppB, z0, h1D.out, h1, zv, z1, z2, z3, z4, h2D.out, h2, h3D.out, h3, h4D.out, h4, h5D.out, z5, h6D.out, Bool.false_eq_true, if_false, if_true, Bool.not_true, Bool.not_false, Bool.and_true, Bool.true_and, Bool.and_false, Bool.false_and, Bool.or_false, Bool.or_true, Bool.false_or, Bool.true_or]; done) | (simp [rppB, z0, h1D.out, h1, zv, z1, z2, z3, z4, h2D.out, h2, h3D.out, h3, h4D.out, h4, h5D.out, z5, h6D.out]; done)
                              clear HR
                              have x13 : W12.cell? ⟨g, 13, none⟩ = some (.int .i64 lo) := cell_of_row _ _ 13 _ _ (0, 0) J12.out.e
                              go_wp2_with fail
                              go_ret
                              exact ⟨rfl, by rw [HG.out]; exact J12.out.bel⟩
                            · --h6 f
                              have h6D := Lib.hid (show decide (lo = 0) = false by simpa using h6)
                              have h6f0 : (lo == 0) = false := by first | (rw [decide_eq_false_iff_not]; omega) | (rw [decide_eq_true_iff]; omega) | (rw [bne_iff_ne]; omega) | (rw [beq_iff_eq]; omega) | (rw [beq_eq_false_iff_ne]; omega) | (rw [bne_eq_false_iff_eq]; omega)
                              clear h6
                              have x9 : W12.cell? ⟨g, 9, none⟩ = some (.int .i64 pc) := cell_of_row _ _ 9 _ _ (0, 0) J12.out.e
                              have x10 : W12.cell? ⟨g, 10, none⟩ = some (.string (valOf pi)) := cell_of_row _ _ 10 _ _ (0, 0) J12.out.e
                              have x13 : W12.cell? ⟨g, 13, none⟩ = some (.int .i64 lo) := cell_of_row _ _ 13 _ _ (0, 0) J12.out.e
                              obtain ⟨yl0, yl1⟩ := HXl_12.out.cs
                              go_wp2_with fail
                              refine (raborts_run _ _ _ _ _ hp hb).mono ?_
                              rintro e W13 ⟨rfl, hb⟩
                              have J13 := Lib.hid (J12.out.bl hb)
                              have HXl_13 := Lib.hid (HXl_12.out.below hb)
                              have HXh_13 := Lib.hid (HXh_12.out.below hb)
                              clear x9 x10 x13 yl0 yl1
                              clear hb
                              cases z6 : abB pc pi lo bi
                              · --z6 false
                                have x11 : W13.cell? ⟨g, 11, none⟩ = some (.int .i64 qc) := cell_of_row _ _ 11 _ _ (0, 0) J13.out.e
                                have x12 : W13.cell? ⟨g, 12, none⟩ = some (.string (valOf qi)) := cell_of_row _ _ 12 _ _ (0, 0) J13.out.e
                                obtain ⟨yl0, yl1⟩ := HXl_13.out.cs
                                go_wp2_with fail
                                refine (raborts_run _ _ _ _ _ hq hb).mono ?_
                                rintro e W14 ⟨rfl, hb⟩
                                have J14 := Lib.hid (J13.out.bl hb)
                                have HXl_14 := Lib.hid (HXl_13.out.below hb)
                                have HXh_14 := Lib.hid (HXh_13.out.below hb)
                                clear x11 x12 yl0 yl1
                                clear hb
                                cases z7 : abB qc qi lo bi
                                · --z7 false
                                  obtain rfl : true = R := by rw [← HR.out]; unfold rpB; symm; first | (simp only [rppB, z0, h1D.out, h1, zv, z1, z2, z3, z4, h2D.out, h2, h3D.out, h3, h4D.out, h4, h5D.out, z5, h6D.out, z6, z7, Bool.false_eq_true, if_false, if_true, Bool.not_true, Bool.not_false, Bool.and_true, Bool.true_and, Bool.and_false, Bool.false_and, Bool.or_false, Bool.or_true, Bool.false_or, Bool.true_or]; done) | (simp [rppB, z0, h1D.out, h1, zv, z1, z2, z3, z4, h2D.out, h2, h3D.out, h3, h4D.out, h4, h5D.out, z5, h6D.out, z6, z7]; done)
                                  clear HR
                                  go_wp2_with fail
                                  go_ret
                                  exact ⟨rfl, by rw [HG.out]; exact J14.out.bel⟩
                                · --z7 true
                                  obtain rfl : false = R := by rw [← HR.out]; unfold rpB; symm; first | (simp only [rppB, z0, h1D.out, h1, zv, z1, z2, z3, z4, h2D.out, h2, h3D.out, h3, h4D.out, h4, h5D.out, z5, h6D.out, z6, z7, Bool.false_eq_true, if_false, if_true, Bool.not_true, Bool.not_false, Bool.and_true, Bool.true_and, Bool.and_false, Bool.false_and, Bool.or_false, Bool.or_true, Bool.false_or, Bool.true_or]; done) | (simp [rppB, z0, h1D.out, h1, zv, z1, z2, z3, z4, h2D.out, h2, h3D.out, h3, h4D.out, h4, h5D.out, z5, h6D.out, z6, z7]; done)
                                  clear HR
                                  go_wp2_with fail
                                  go_ret
                                  exact ⟨rfl, by rw [HG.out]; exact J14.out.bel⟩
                              · --z6 true
                                obtain rfl : false = R := by rw [← HR.out]; unfold rpB; symm; first | (simp only [rppB, z0, h1D.out, h1, zv, z1, z2, z3, z4, h2D.out, h2, h3D.out, h3, h4D.out, h4, h5D.out, z5, h6D.out, z6, Bool.false_eq_true, if_false, if_true, Bool.not_true, Bool.not_false, Bool.and_true, Bool.true_and, Bool.and_false, Bool.false_and, Bool.or_false, Bool.or_true, Bool.false_or, Bool.true_or]; done) | (simp [rppB, z0, h1D.out, h1, zv, z1, z2, z3, z4, h2D.out, h2, h3D.out, h3, h4D.out, h4, h5D.out, z5, h6D.out, z6]; done)
                                clear HR
                                go_wp2_with fail
                                go_ret
                                exact ⟨rfl, by rw [HG.out]; exact J13.out.bel⟩
                      · --h4 f
                        have h4D := Lib.hid (show decide (hi ≤ bc) = false by simpa using h4)
                        have h4f0 : decide (bc < hi) = true := by first | (rw [decide_eq_false_iff_not]; omega) | (rw [decide_eq_true_iff]; omega) | (rw [bne_iff_ne]; omega) | (rw [beq_iff_eq]; omega) | (rw [beq_eq_false_iff_ne]; omega) | (rw [bne_eq_false_iff_eq]; omega)
                        obtain rfl : false = R := by rw [← HR.out]; unfold rpB; symm; first | (simp only [rppB, z0, h1D.out, h1, zv, z1, z2, z3, z4, h2D.out, h2, h3D.out, h3, h4D.out, h4, Bool.false_eq_true, if_false, if_true, Bool.not_true, Bool.not_false, Bool.and_true, Bool.true_and, Bool.and_false, Bool.false_and, Bool.or_false, Bool.or_true, Bool.false_or, Bool.true_or]; done) | (simp [rppB, z0, h1D.out, h1, zv, z1, z2, z3, z4, h2D.out, h2, h3D.out, h3, h4D.out, h4]; done)
                        clear HR
                        have x13 : W9.cell? ⟨g, 13, none⟩ = some (.int .i64 lo) := cell_of_row _ _ 13 _ _ (0, 0) J9.out.e
                        have x14 : W9.cell? ⟨g, 14, none⟩ = some (.int .i64 hi) := cell_of_row _ _ 14 _ _ (0, 0) J9.out.e
                        have x7 : W9.cell? ⟨g, 7, none⟩ = some (.int .i64 bc) := cell_of_row _ _ 7 _ _ (0, 0) J9.out.e
                        go_wp2_with fail
                        go_ret
                        exact ⟨rfl, by rw [HG.out]; exact J9.out.bel⟩
                    · --h3 f
                      have h3D := Lib.hid (show decide (lo ≤ hi) = false by simpa using h3)
                      have h3f0 : decide (hi < lo) = true := by first | (rw [decide_eq_false_iff_not]; omega) | (rw [decide_eq_true_iff]; omega) | (rw [bne_iff_ne]; omega) | (rw [beq_iff_eq]; omega) | (rw [beq_eq_false_iff_ne]; omega) | (rw [bne_eq_false_iff_eq]; omega)
                      obtain rfl : false = R := by rw [← HR.out]; unfold rpB; symm; first | (simp only [rppB, z0, h1D.out, h1, zv, z1, z2, z3, z4, h2D.out, h2, h3D.out, h3, Bool.false_eq_true, if_false, if_true, Bool.not_true, Bool.not_false, Bool.and_true, Bool.true_and, Bool.and_false, Bool.false_and, Bool.or_false, Bool.or_true, Bool.false_or, Bool.true_or]; done) | (simp [rppB, z0, h1D.out, h1, zv, z1, z2, z3, z4, h2D.out, h2, h3D.out, h3]; done)
                      clear HR
                      have x13 : W9.cell? ⟨g, 13, none⟩ = some (.int .i64 lo) := cell_of_row _ _ 13 _ _ (0, 0) J9.out.e
                      have x14 : W9.cell? ⟨g, 14, none⟩ = some (.int .i64 hi) := cell_of_row _ _ 14 _ _ (0, 0) J9.out.e
                      have x7 : W9.cell? ⟨g, 7, none⟩ = some (.int .i64 bc) := cell_of_row _ _ 7 _ _ (0, 0) J9.out.e
                      go_wp2_with fail
                      go_ret
                      exact ⟨rfl, by rw [HG.out]; exact J9.out.bel⟩
                  · --h2 f
                    have h2D := Lib.hid (show decide (0 ≤ lo) = false by simpa using h2)
                    have h2f0 : decide (lo < 0) = true := by first | (rw [decide_eq_false_iff_not]; omega) | (rw [decide_eq_true_iff]; omega) | (rw [bne_iff_ne]; omega) | (rw [beq_iff_eq]; omega) | (rw [beq_eq_false_iff_ne]; omega) | (rw [bne_eq_false_iff_eq]; omega)
                    obtain rfl : false = R := by rw [← HR.out]; unfold rpB; symm; first | (simp only [rppB, z0, h1D.out, h1, zv, z1, z2, z3, z4, h2D.out, h2, Bool.false_eq_true, if_false, if_true, Bool.not_true, Bool.not_false, Bool.and_true, Bool.true_and, Bool.and_false, Bool.false_and, Bool.or_false, Bool.or_true, Bool.false_or, Bool.true_or]; done) | (simp [rppB, z0, h1D.out, h1, zv, z1, z2, z3, z4, h2D.out, h2]; done)
                    clear HR
                    have x13 : W9.cell? ⟨g, 13, none⟩ = some (.int .i64 lo) := cell_of_row _ _ 13 _ _ (0, 0) J9.out.e
                    have x14 : W9.cell? ⟨g, 14, none⟩ = some (.int .i64 hi) := cell_of_row _ _ 14 _ _ (0, 0) J9.out.e
                    have x7 : W9.cell? ⟨g, 7, none⟩ = some (.int .i64 bc) := cell_of_row _ _ 7 _ _ (0, 0) J9.out.e
                    go_wp2_with fail
                    go_ret
                    exact ⟨rfl, by rw [HG.out]; exact J9.out.bel⟩
                · --z4 true
                  obtain rfl : false = R := by rw [← HR.out]; unfold rpB; symm; first | (simp only [rppB, z0, h1D.out, h1, zv, z1, z2, z3, z4, Bool.false_eq_true, if_false, if_true, Bool.not_true, Bool.not_false, Bool.and_true, Bool.true_and, Bool.and_false, Bool.false_and, Bool.or_false, Bool.or_true, Bool.false_or, Bool.true_or]; done) | (simp [rppB, z0, h1D.out, h1, zv, z1, z2, z3, z4]; done)
                  clear HR
                  go_wp2_with fail
                  go_ret
                  exact ⟨rfl, by rw [HG.out]; exact J9.out.bel⟩
          · --z1 true
            by_cases h2 : 0 ≤ lo
            · --h2 t
              have h2D := Lib.hid (show decide (0 ≤ lo) = true by simpa using h2)
              have h2t0 : decide (lo < 0) = false := by first | (rw [decide_eq_false_iff_not]; omega) | (rw [decide_eq_true_iff]; omega) | (rw [bne_iff_ne]; omega) | (rw [beq_iff_eq]; omega) | (rw [beq_eq_false_iff_ne]; omega) | (rw [bne_eq_false_iff_eq]; omega)
              by_cases h3 : lo ≤ hi
              · --h3 t
                have h3D := Lib.hid (show decide (lo ≤ hi) = true by simpa using h3)
                have h3t0 : decide (hi < lo) = false := by first | (rw [decide_eq_false_iff_not]; omega) | (rw [decide_eq_true_iff]; omega) | (rw [bne_iff_ne]; omega) | (rw [beq_iff_eq]; omega) | (rw [beq_eq_false_iff_ne]; omega) | (rw [bne_eq_false_iff_eq]; omega)
                by_cases h4 : hi ≤ bc
                · --h4 t
                  have h4D := Lib.hid (show decide (hi ≤ bc) = true by simpa using h4)
                  have h4t0 : decide (bc < hi) = false := by first | (rw [decide_eq_false_iff_not]; omega) | (rw [decide_eq_true_iff]; omega) | (rw [bne_iff_ne]; omega) | (rw [beq_iff_eq]; omega) | (rw [beq_eq_false_iff_ne]; omega) | (rw [bne_eq_false_iff_eq]; omega)
                  by_cases h5 : hi = 0
                  · --h5 t
                    have h5D := Lib.hid (show decide (hi = 0) = true by simpa using h5)
                    have h5t0 : decide (0 < hi) = false := by first | (rw [decide_eq_false_iff_not]; omega) | (rw [decide_eq_true_iff]; omega) | (rw [bne_iff_ne]; omega) | (rw [beq_iff_eq]; omega) | (rw [beq_eq_false_iff_ne]; omega) | (rw [bne_eq_false_iff_eq]; omega)
                    clear h5
                    have x14 : W6.cell? ⟨g, 14, none⟩ = some (.int .i64 hi) := cell_of_row _ _ 14 _ _ (0, 0) J6.out.e
                    have x7 : W6.cell? ⟨g, 7, none⟩ = some (.int .i64 bc) := cell_of_row _ _ 7 _ _ (0, 0) J6.out.e
                    by_cases h6 : lo = 0
                    · --h6 t
                      have h6D := Lib.hid (show decide (lo = 0) = true by simpa using h6)
                      have h6t0 : (lo == 0) = true := by first | (rw [decide_eq_false_iff_not]; omega) | (rw [decide_eq_true_iff]; omega) | (rw [bne_iff_ne]; omega) | (rw [beq_iff_eq]; omega) | (rw [beq_eq_false_iff_ne]; omega) | (rw [bne_eq_false_iff_eq]; omega)
                      clear h6
                      obtain rfl : true = R := by rw [← HR.out]; unfold rpB; symm; first | (simp only [rppB, z0, h1D.out, h1, zv, z1, h2D.out, h2, h3D.out, h3, h4D.out, h4, h5D.out, h6D.out, Bool.false_eq_true, if_false, if_true, Bool.not_true, Bool.not_false, Bool.and_true, Bool.true_and, Bool.and_false, Bool.false_and, Bool.or_false, Bool.or_true, Bool.false_or, Bool.true_or]; done) | (simp [rppB, z0, h1D.out, h1, zv, z1, h2D.out, h2, h3D.out, h3, h4D.out, h4, h5D.out, h6D.out]; done)
                      clear HR
                      have x13 : W6.cell? ⟨g, 13, none⟩ = some (.int .i64 lo) := cell_of_row _ _ 13 _ _ (0, 0) J6.out.e
                      go_wp2_with fail
                      go_ret
                      exact ⟨rfl, by rw [HG.out]; exact J6.out.bel⟩
                    · --h6 f
                      have h6D := Lib.hid (show decide (lo = 0) = false by simpa using h6)
                      have h6f0 : (lo == 0) = false := by first | (rw [decide_eq_false_iff_not]; omega) | (rw [decide_eq_true_iff]; omega) | (rw [bne_iff_ne]; omega) | (rw [beq_iff_eq]; omega) | (rw [beq_eq_false_iff_ne]; omega) | (rw [bne_eq_false_iff_eq]; omega)
                      clear h6
                      have x9 : W6.cell? ⟨g, 9, none⟩ = some (.int .i64 pc) := cell_of_row _ _ 9 _ _ (0, 0) J6.out.e
                      have x10 : W6.cell? ⟨g, 10, none⟩ = some (.string (valOf pi)) := cell_of_row _ _ 10 _ _ (0, 0) J6.out.e
                      have x13 : W6.cell? ⟨g, 13, none⟩ = some (.int .i64 lo) := cell_of_row _ _ 13 _ _ (0, 0) J6.out.e
                      obtain ⟨yl0, yl1⟩ := HXl_6.out.cs
                      go_wp2_with fail
                      refine (raborts_run _ _ _ _ _ hp hb).mono ?_
                      rintro e W15 ⟨rfl, hb⟩
                      have J15 := Lib.hid (J6.out.bl hb)
                      have HXl_15 := Lib.hid (HXl_6.out.below hb)
                      have HXh_15 := Lib.hid (HXh_6.out.below hb)
                      clear x9 x10 x13 yl0 yl1
                      clear hb
                      cases z6 : abB pc pi lo bi
                      · --z6 false
                        have x11 : W15.cell? ⟨g, 11, none⟩ = some (.int .i64 qc) := cell_of_row _ _ 11 _ _ (0, 0) J15.out.e
                        have x12 : W15.cell? ⟨g, 12, none⟩ = some (.string (valOf qi)) := cell_of_row _ _ 12 _ _ (0, 0) J15.out.e
                        obtain ⟨yl0, yl1⟩ := HXl_15.out.cs
                        go_wp2_with fail
                        refine (raborts_run _ _ _ _ _ hq hb).mono ?_
                        rintro e W16 ⟨rfl, hb⟩
                        have J16 := Lib.hid (J15.out.bl hb)
                        have HXl_16 := Lib.hid (HXl_15.out.below hb)
                        have HXh_16 := Lib.hid (HXh_15.out.below hb)
                        clear x11 x12 yl0 yl1
                        clear hb
                        cases z7 : abB qc qi lo bi
                        · --z7 false
                          obtain rfl : true = R := by rw [← HR.out]; unfold rpB; symm; first | (simp only [rppB, z0, h1D.out, h1, zv, z1, h2D.out, h2, h3D.out, h3, h4D.out, h4, h5D.out, h6D.out, z6, z7, Bool.false_eq_true, if_false, if_true, Bool.not_true, Bool.not_false, Bool.and_true, Bool.true_and, Bool.and_false, Bool.false_and, Bool.or_false, Bool.or_true, Bool.false_or, Bool.true_or]; done) | (simp [rppB, z0, h1D.out, h1, zv, z1, h2D.out, h2, h3D.out, h3, h4D.out, h4, h5D.out, h6D.out, z6, z7]; done)
                          clear HR
                          go_wp2_with fail
                          go_ret
                          exact ⟨rfl, by rw [HG.out]; exact J16.out.bel⟩
                        · --z7 true
                          obtain rfl : false = R := by rw [← HR.out]; unfold rpB; symm; first | (simp only [rppB, z0, h1D.out, h1, zv, z1, h2D.out, h2, h3D.out, h3, h4D.out, h4, h5D.out, h6D.out, z6, z7, Bool.false_eq_true, if_false, if_true, Bool.not_true, Bool.not_false, Bool.and_true, Bool.true_and, Bool.and_false, Bool.false_and, Bool.or_false, Bool.or_true, Bool.false_or, Bool.true_or]; done) | (simp [rppB, z0, h1D.out, h1, zv, z1, h2D.out, h2, h3D.out, h3, h4D.out, h4, h5D.out, h6D.out, z6, z7]; done)
                          clear HR
                          go_wp2_with fail
                          go_ret
                          exact ⟨rfl, by rw [HG.out]; exact J16.out.bel⟩
                      · --z6 true
                        obtain rfl : false = R := by rw [← HR.out]; unfold rpB; symm; first | (simp only [rppB, z0, h1D.out, h1, zv, z1, h2D.out, h2, h3D.out, h3, h4D.out, h4, h5D.out, h6D.out, z6, Bool.false_eq_true, if_false, if_true, Bool.not_true, Bool.not_false, Bool.and_true, Bool.true_and, Bool.and_false, Bool.false_and, Bool.or_false, Bool.or_true, Bool.false_or, Bool.true_or]; done) | (simp [rppB, z0, h1D.out, h1, zv, z1, h2D.out, h2, h3D.out, h3, h4D.out, h4, h5D.out, h6D.out, z6]; done)
                        clear HR
                        go_wp2_with fail
                        go_ret
                        exact ⟨rfl, by rw [HG.out]; exact J15.out.bel⟩
                  · --h5 f
                    have h5D := Lib.hid (show decide (hi = 0) = false by simpa using h5)
                    have h5f0 : decide (0 < hi) = true := by first | (rw [decide_eq_false_iff_not]; omega) | (rw [decide_eq_true_iff]; omega) | (rw [bne_iff_ne]; omega) | (rw [beq_iff_eq]; omega) | (rw [beq_eq_false_iff_ne]; omega) | (rw [bne_eq_false_iff_eq]; omega)
                    clear h5
                    have x9 : W6.cell? ⟨g, 9, none⟩ = some (.int .i64 pc) := cell_of_row _ _ 9 _ _ (0, 0) J6.out.e
                    have x10 : W6.cell? ⟨g, 10, none⟩ = some (.string (valOf pi)) := cell_of_row _ _ 10 _ _ (0, 0) J6.out.e
                    have x11 : W6.cell? ⟨g, 11, none⟩ = some (.int .i64 qc) := cell_of_row _ _ 11 _ _ (0, 0) J6.out.e
                    have x12 : W6.cell? ⟨g, 12, none⟩ = some (.string (valOf qi)) := cell_of_row _ _ 12 _ _ (0, 0) J6.out.e
                    have x14 : W6.cell? ⟨g, 14, none⟩ = some (.int .i64 hi) := cell_of_row _ _ 14 _ _ (0, 0) J6.out.e
                    have x13 : W6.cell? ⟨g, 13, none⟩ = some (.int .i64 lo) := cell_of_row _ _ 13 _ _ (0, 0) J6.out.e
                    have x7 : W6.cell? ⟨g, 7, none⟩ = some (.int .i64 bc) := cell_of_row _ _ 7 _ _ (0, 0) J6.out.e
                    obtain ⟨yh0, yh1⟩ := HXh_6.out.cs
                    go_wp2_with fail
                    refine (rprepares_run _ _ _ _ _ _ _ hp hq hb).mono ?_
                    rintro e W17 ⟨rfl, hb⟩
                    have J17 := Lib.hid (J6.out.bl hb)
                    have HXl_17 := Lib.hid (HXl_6.out.below hb)
                    have HXh_17 := Lib.hid (HXh_6.out.below hb)
                    clear x9 x10 x11 x12 x14 x13 x7 yh0 yh1
                    clear hb
                    cases z5 : prepB pc pi qc qi hi bi
                    · --z5 false
                      obtain rfl : false = R := by rw [← HR.out]; unfold rpB; symm; first | (simp only [rppB, z0, h1D.out, h1, zv, z1, h2D.out, h2, h3D.out, h3, h4D.out, h4, h5D.out, z5, Bool.false_eq_true, if_false, if_true, Bool.not_true, Bool.not_false, Bool.and_true, Bool.true_and, Bool.and_false, Bool.false_and, Bool.or_false, Bool.or_true, Bool.false_or, Bool.true_or]; done) | (simp [rppB, z0, h1D.out, h1, zv, z1, h2D.out, h2, h3D.out, h3, h4D.out, h4, h5D.out, z5]; done)
                      clear HR
                      go_wp2_with fail
                      go_ret
                      exact ⟨rfl, by rw [HG.out]; exact J17.out.bel⟩
                    · --z5 true
                      by_cases h6 : lo = 0
                      · --h6 t
                        have h6D := Lib.hid (show decide (lo = 0) = true by simpa using h6)
                        have h6t0 : (lo == 0) = true := by first | (rw [decide_eq_false_iff_not]; omega) | (rw [decide_eq_true_iff]; omega) | (rw [bne_iff_ne]; omega) | (rw [beq_iff_eq]; omega) | (rw [beq_eq_false_iff_ne]; omega) | (rw [bne_eq_false_iff_eq]; omega)
                        clear h6
                        obtain rfl : true = R := by rw [← HR.out]; unfold rpB; symm; first | (simp only [rppB, z0, h1D.out, h1, zv, z1, h2D.out, h2, h3D.out, h3, h4D.out, h4, h5D.out, z5, h6D.out, Bool.false_eq_true, if_false, if_true, Bool.not_true, Bool.not_false, Bool.and_true, Bool.true_and, Bool.and_false, Bool.false_and, Bool.or_false, Bool.or_true, Bool.false_or, Bool.true_or]; done) | (simp [rppB, z0, h1D.out, h1, zv, z1, h2D.out, h2, h3D.out, h3, h4D.out, h4, h5D.out, z5, h6D.out]; done)
                        clear HR
                        have x13 : W17.cell? ⟨g, 13, none⟩ = some (.int .i64 lo) := cell_of_row _ _ 13 _ _ (0, 0) J17.out.e
                        go_wp2_with fail
                        go_ret
                        exact ⟨rfl, by rw [HG.out]; exact J17.out.bel⟩
                      · --h6 f
                        have h6D := Lib.hid (show decide (lo = 0) = false by simpa using h6)
                        have h6f0 : (lo == 0) = false := by first | (rw [decide_eq_false_iff_not]; omega) | (rw [decide_eq_true_iff]; omega) | (rw [bne_iff_ne]; omega) | (rw [beq_iff_eq]; omega) | (rw [beq_eq_false_iff_ne]; omega) | (rw [bne_eq_false_iff_eq]; omega)
                        clear h6
                        have x9 : W17.cell? ⟨g, 9, none⟩ = some (.int .i64 pc) := cell_of_row _ _ 9 _ _ (0, 0) J17.out.e
                        have x10 : W17.cell? ⟨g, 10, none⟩ = some (.string (valOf pi)) := cell_of_row _ _ 10 _ _ (0, 0) J17.out.e
                        have x13 : W17.cell? ⟨g, 13, none⟩ = some (.int .i64 lo) := cell_of_row _ _ 13 _ _ (0, 0) J17.out.e
                        obtain ⟨yl0, yl1⟩ := HXl_17.out.cs
                        go_wp2_with fail
                        refine (raborts_run _ _ _ _ _ hp hb).mono ?_
                        rintro e W18 ⟨rfl, hb⟩
                        have J18 := Lib.hid (J17.out.bl hb)
                        have HXl_18 := Lib.hid (HXl_17.out.below hb)
                        have HXh_18 := Lib.hid (HXh_17.out.below hb)
                        clear x9 x10 x13 yl0 yl1
                        clear hb
                        cases z6 : abB pc pi lo bi
                        · --z6 false
                          have x11 : W18.cell? ⟨g, 11, none⟩ = some (.int .i64 qc) := cell_of_row _ _ 11 _ _ (0, 0) J18.out.e
                          have x12 : W18.cell? ⟨g, 12, none⟩ = some (.string (valOf qi)) := cell_of_row _ _ 12 _ _ (0, 0) J18.out.e
                          obtain ⟨yl0, yl1⟩ := HXl_18.out.cs
                          go_wp2_with fail
                          refine (raborts_run _ _ _ _ _ hq hb).mono ?_
                          rintro e W19 ⟨rfl, hb⟩
                          have J19 := Lib.hid (J18.out.bl hb)
                          have HXl_19 := Lib.hid (HXl_18.out.below hb)
                          have HXh_19 := Lib.hid (HXh_18.out.below hb)
                          clear x11 x12 yl0 yl1
                          clear hb
                          cases z7 : abB qc qi lo bi
                          · --z7 false
                            obtain rfl : true = R := by rw [← HR.out]; unfold rpB; symm; first | (simp only [rppB, z0, h1D.out, h1, zv, z1, h2D.out, h2, h3D.out, h3, h4D.out, h4, h5D.out, z5, h6D.out, z6, z7, Bool.false_eq_true, if_false, if_true, Bool.not_true, Bool.not_false, Bool.and_true, Bool.true_and, Bool.and_false, Bool.false_and, Bool.or_false, Bool.or_true, Bool.false_or, Bool.true_or]; done) | (simp [rppB, z0, h1D.out, h1, zv, z1, h2D.out, h2, h3D.out, h3, h4D.out, h4, h5D.out, z5, h6D.out, z6, z7]; done)
                            clear HR
                            go_wp2_with fail
                            go_ret
                            exact ⟨rfl, by rw [HG.out]; exact J19.out.bel⟩
                          · --z7 true
                            obtain rfl : false = R := by rw [← HR.out]; unfold rpB; symm; first | (simp only [rppB, z0, h1D.out, h1, zv, z1, h2D.out, h2, h3D.out, h3, h4D.out, h4, h5D.out, z5, h6D.out, z6, z7, Bool.false_eq_true, if_false, if_true, Bool.not_true, Bool.not_false, Bool.and_true, Bool.true_and, Bool.and_false, Bool.false_and, Bool.or_false, Bool.or_true, Bool.false_or, Bool.true_or]; done) | (simp [rppB, z0, h1D.out, h1, zv, z1, h2D.out, h2, h3D.out, h3, h4D.out, h4, h5D.out, z5, h6D.out, z6, z7]; done)
                            clear HR
                            go_wp2_with fail
                            go_ret
                            exact ⟨rfl, by rw [HG.out]; exact J19.out.bel⟩
                        · --z6 true
                          obtain rfl : false = R := by rw [← HR.out]; unfold rpB; symm; first | (simp only [rppB, z0, h1D.out, h1, zv, z1, h2D.out, h2, h3D.out, h3, h4D.out, h4, h5D.out, z5, h6D.out, z6, Bool.false_eq_true, if_false, if_true, Bool.not_true, Bool.not_false, Bool.and_true, Bool.true_and, Bool.and_false, Bool.false_and, Bool.or_false, Bool.or_true, Bool.false_or, Bool.true_or]; done) | (simp [rppB, z0, h1D.out, h1, zv, z1, h2D.out, h2, h3D.out, h3, h4D.out, h4, h5D.out, z5, h6D.out, z6]; done)
                          clear HR
                          go_wp2_with fail
                          go_ret
                          exact ⟨rfl, by rw [HG.out]; exact J18.out.bel⟩
                · --h4 f
                  have h4D := Lib.hid (show decide (hi ≤ bc) = false by simpa using h4)
                  have h4f0 : decide (bc < hi) = true := by first | (rw [decide_eq_false_iff_not]; omega) | (rw [decide_eq_true_iff]; omega) | (rw [bne_iff_ne]; omega) | (rw [beq_iff_eq]; omega) | (rw [beq_eq_false_iff_ne]; omega) | (rw [bne_eq_false_iff_eq]; omega)
                  obtain rfl : false = R := by rw [← HR.out]; unfold rpB; symm; first | (simp only [rppB, z0, h1D.out, h1, zv, z1, h2D.out, h2, h3D.out, h3, h4D.out, h4, Bool.false_eq_true, if_false, if_true, Bool.not_true, Bool.not_false, Bool.and_true, Bool.true_and, Bool.and_false, Bool.false_and, Bool.or_false, Bool.or_true, Bool.false_or, Bool.true_or]; done) | (simp [rppB, z0, h1D.out, h1, zv, z1, h2D.out, h2, h3D.out, h3, h4D.out, h4]; done)
                  clear HR
                  have x13 : W6.cell? ⟨g, 13, none⟩ = some (.int .i64 lo) := cell_of_row _ _ 13 _ _ (0, 0) J6.out.e
                  have x14 : W6.cell? ⟨g, 14, none⟩ = some (.int .i64 hi) := cell_of_row _ _ 14 _ _ (0, 0) J6.out.e
                  have x7 : W6.cell? ⟨g, 7, none⟩ = some (.int .i64 bc) := cell_of_row _ _ 7 _ _ (0, 0) J6.out.e
                  go_wp2_with fail
                  go_ret
                  exact ⟨rfl, by rw [HG.out]; exact J6.out.bel⟩
              · --h3 f
                have h3D := Lib.hid (show decide (lo ≤ hi) = false by simpa using h3)
                have h3f0 : decide (hi < lo) = true := by first | (rw [decide_eq_false_iff_not]; omega) | (rw [decide_eq_true_iff]; omega) | (rw [bne_iff_ne]; omega) | (rw [beq_iff_eq]; omega) | (rw [beq_eq_false_iff_ne]; omega) | (rw [bne_eq_false_iff_eq]; omega)
                obtain rfl : false = R := by rw [← HR.out]; unfold rpB; symm; first | (simp only [rppB, z0, h1D.out, h1, zv, z1, h2D.out, h2, h3D.out, h3, Bool.false_eq_true, if_false, if_true, Bool.not_true, Bool.not_false, Bool.and_true, Bool.true_and, Bool.and_false, Bool.false_and, Bool.or_false, Bool.or_true, Bool.false_or, Bool.true_or]; done) | (simp [rppB, z0, h1D.out, h1, zv, z1, h2D.out, h2, h3D.out, h3]; done)
                clear HR
                have x13 : W6.cell? ⟨g, 13, none⟩ = some (.int .i64 lo) := cell_of_row _ _ 13 _ _ (0, 0) J6.out.e
                have x14 : W6.cell? ⟨g, 14, none⟩ = some (.int .i64 hi) := cell_of_row _ _ 14 _ _ (0, 0) J6.out.e
                have x7 : W6.cell? ⟨g, 7, none⟩ = some (.int .i64 bc) := cell_of_row _ _ 7 _ _ (0, 0) J6.out.e
                go_wp2_with fail
                go_ret
                exact ⟨rfl, by rw [HG.out]; exact J6.out.bel⟩
            · --h2 f
              have h2D := Lib.hid (show decide (0 ≤ lo) = false by simpa using h2)
              have h2f0 : decide (lo < 0) = true := by first | (rw [decide_eq_false_iff_not]; omega) | (rw [decide_eq_true_iff]; omega) | (rw [bne_iff_ne]; omega) | (rw [beq_iff_eq]; omega) | (rw [beq_eq_false_iff_ne]; omega) | (rw [bne_eq_false_iff_eq]; omega)
              obtain rfl : false = R := by rw [← HR.out]; unfold rpB; symm; first | (simp only [rppB, z0, h1D.out, h1, zv, z1, h2D.out, h2, Bool.false_eq_true, if_false, if_true, Bool.not_true, Bool.not_false, Bool.and_true, Bool.true_and, Bool.and_false, Bool.false_and, Bool.or_false, Bool.or_true, Bool.false_or, Bool.true_or]; done) | (simp [rppB, z0, h1D.out, h1, zv, z1, h2D.out, h2]; done)
              clear HR
              have x13 : W6.cell? ⟨g, 13, none⟩ = some (.int .i64 lo) := cell_of_row _ _ 13 _ _ (0, 0) J6.out.e
              have x14 : W6.cell? ⟨g, 14, none⟩ = some (.int .i64 hi) := cell_of_row _ _ 14 _ _ (0, 0) J6.out.e
              have x7 : W6.cell? ⟨g, 7, none⟩ = some (.int .i64 bc) := cell_of_row _ _ 7 _ _ (0, 0) J6.out.e
              go_wp2_with fail
              go_ret
              exact ⟨rfl, by rw [HG.out]; exact J6.out.bel⟩
      · --h1 f
        have h1D := Lib.hid (show decide (bc ≤ 1000) = false by simpa using h1)
        have h1f0 : decide (1000 < bc) = true := by first | (rw [decide_eq_false_iff_not]; omega) | (rw [decide_eq_true_iff]; omega) | (rw [bne_iff_ne]; omega) | (rw [beq_iff_eq]; omega) | (rw [beq_eq_false_iff_ne]; omega) | (rw [bne_eq_false_iff_eq]; omega)
        obtain rfl : false = R := by rw [← HR.out]; unfold rpB; symm; first | (simp only [rppB, z0, h1D.out, h1, Bool.false_eq_true, if_false, if_true, Bool.not_true, Bool.not_false, Bool.and_true, Bool.true_and, Bool.and_false, Bool.false_and, Bool.or_false, Bool.or_true, Bool.false_or, Bool.true_or]; done) | (simp [rppB, z0, h1D.out, h1]; done)
        clear HR
        have x6 : wc.cell? ⟨g, 6, none⟩ = some (.int .i64 kd) := cell_of_row _ _ 6 _ _ (0, 0) J4.out.e
        have x7 : wc.cell? ⟨g, 7, none⟩ = some (.int .i64 bc) := cell_of_row _ _ 7 _ _ (0, 0) J4.out.e
        go_wp2_with fail
        go_ret
        exact ⟨rfl, by rw [HG.out]; exact J4.out.bel⟩
    · --true
      have hzv := zero_valid z0
      by_cases h1 : bc ≤ 1000
      · --h1 t
        have h1D := Lib.hid (show decide (bc ≤ 1000) = true by simpa using h1)
        have h1t0 : decide (1000 < bc) = false := by first | (rw [decide_eq_false_iff_not]; omega) | (rw [decide_eq_true_iff]; omega) | (rw [bne_iff_ne]; omega) | (rw [beq_iff_eq]; omega) | (rw [beq_eq_false_iff_ne]; omega) | (rw [bne_eq_false_iff_eq]; omega)
        have x11 : wc.cell? ⟨g, 11, none⟩ = some (.int .i64 qc) := cell_of_row _ _ 11 _ _ (0, 0) J4.out.e
        have x12 : wc.cell? ⟨g, 12, none⟩ = some (.string (valOf qi)) := cell_of_row _ _ 12 _ _ (0, 0) J4.out.e
        have x6 : wc.cell? ⟨g, 6, none⟩ = some (.int .i64 kd) := cell_of_row _ _ 6 _ _ (0, 0) J4.out.e
        have x7 : wc.cell? ⟨g, 7, none⟩ = some (.int .i64 bc) := cell_of_row _ _ 7 _ _ (0, 0) J4.out.e
        go_wp2_with fail
        refine (rzero_run _ _ _ hq).mono ?_
        rintro e W5 ⟨rfl, hb⟩
        have J5 := Lib.hid (J4.out.bl hb)
        have HXl_5 := Lib.hid (HXl.out.below hb)
        have HXh_5 := Lib.hid (HXh.out.below hb)
        clear x11 x12 x6 x7
        clear hb
        cases z1 : zeroB qc qi
        · --z1 false
          obtain rfl : false = R := by rw [← HR.out]; unfold rpB; symm; first | (simp only [rppB, z0, hzv, h1D.out, h1, z1, Bool.false_eq_true, if_false, if_true, Bool.not_true, Bool.not_false, Bool.and_true, Bool.true_and, Bool.and_false, Bool.false_and, Bool.or_false, Bool.or_true, Bool.false_or, Bool.true_or]; done) | (simp [rppB, z0, hzv, h1D.out, h1, z1]; done)
          clear HR
          go_wp2_with fail
          go_ret
          exact ⟨rfl, by rw [HG.out]; exact J5.out.bel⟩
        · --z1 true
          by_cases h2 : 0 ≤ lo
          · --h2 t
            have h2D := Lib.hid (show decide (0 ≤ lo) = true by simpa using h2)
            have h2t0 : decide (lo < 0) = false := by first | (rw [decide_eq_false_iff_not]; omega) | (rw [decide_eq_true_iff]; omega) | (rw [bne_iff_ne]; omega) | (rw [beq_iff_eq]; omega) | (rw [beq_eq_false_iff_ne]; omega) | (rw [bne_eq_false_iff_eq]; omega)
            by_cases h3 : lo ≤ hi
            · --h3 t
              have h3D := Lib.hid (show decide (lo ≤ hi) = true by simpa using h3)
              have h3t0 : decide (hi < lo) = false := by first | (rw [decide_eq_false_iff_not]; omega) | (rw [decide_eq_true_iff]; omega) | (rw [bne_iff_ne]; omega) | (rw [beq_iff_eq]; omega) | (rw [beq_eq_false_iff_ne]; omega) | (rw [bne_eq_false_iff_eq]; omega)
              by_cases h4 : hi ≤ bc
              · --h4 t
                have h4D := Lib.hid (show decide (hi ≤ bc) = true by simpa using h4)
                have h4t0 : decide (bc < hi) = false := by first | (rw [decide_eq_false_iff_not]; omega) | (rw [decide_eq_true_iff]; omega) | (rw [bne_iff_ne]; omega) | (rw [beq_iff_eq]; omega) | (rw [beq_eq_false_iff_ne]; omega) | (rw [bne_eq_false_iff_eq]; omega)
                by_cases h5 : hi = 0
                · --h5 t
                  have h5D := Lib.hid (show decide (hi = 0) = true by simpa using h5)
                  have h5t0 : decide (0 < hi) = false := by first | (rw [decide_eq_false_iff_not]; omega) | (rw [decide_eq_true_iff]; omega) | (rw [bne_iff_ne]; omega) | (rw [beq_iff_eq]; omega) | (rw [beq_eq_false_iff_ne]; omega) | (rw [bne_eq_false_iff_eq]; omega)
                  clear h5
                  have x14 : W5.cell? ⟨g, 14, none⟩ = some (.int .i64 hi) := cell_of_row _ _ 14 _ _ (0, 0) J5.out.e
                  have x7 : W5.cell? ⟨g, 7, none⟩ = some (.int .i64 bc) := cell_of_row _ _ 7 _ _ (0, 0) J5.out.e
                  by_cases h6 : lo = 0
                  · --h6 t
                    have h6D := Lib.hid (show decide (lo = 0) = true by simpa using h6)
                    have h6t0 : (lo == 0) = true := by first | (rw [decide_eq_false_iff_not]; omega) | (rw [decide_eq_true_iff]; omega) | (rw [bne_iff_ne]; omega) | (rw [beq_iff_eq]; omega) | (rw [beq_eq_false_iff_ne]; omega) | (rw [bne_eq_false_iff_eq]; omega)
                    clear h6
                    obtain rfl : true = R := by rw [← HR.out]; unfold rpB; symm; first | (simp only [rppB, z0, hzv, h1D.out, h1, z1, h2D.out, h2, h3D.out, h3, h4D.out, h4, h5D.out, h6D.out, Bool.false_eq_true, if_false, if_true, Bool.not_true, Bool.not_false, Bool.and_true, Bool.true_and, Bool.and_false, Bool.false_and, Bool.or_false, Bool.or_true, Bool.false_or, Bool.true_or]; done) | (simp [rppB, z0, hzv, h1D.out, h1, z1, h2D.out, h2, h3D.out, h3, h4D.out, h4, h5D.out, h6D.out]; done)
                    clear HR
                    have x13 : W5.cell? ⟨g, 13, none⟩ = some (.int .i64 lo) := cell_of_row _ _ 13 _ _ (0, 0) J5.out.e
                    go_wp2_with fail
                    go_ret
                    exact ⟨rfl, by rw [HG.out]; exact J5.out.bel⟩
                  · --h6 f
                    have h6D := Lib.hid (show decide (lo = 0) = false by simpa using h6)
                    have h6f0 : (lo == 0) = false := by first | (rw [decide_eq_false_iff_not]; omega) | (rw [decide_eq_true_iff]; omega) | (rw [bne_iff_ne]; omega) | (rw [beq_iff_eq]; omega) | (rw [beq_eq_false_iff_ne]; omega) | (rw [bne_eq_false_iff_eq]; omega)
                    clear h6
                    have x9 : W5.cell? ⟨g, 9, none⟩ = some (.int .i64 pc) := cell_of_row _ _ 9 _ _ (0, 0) J5.out.e
                    have x10 : W5.cell? ⟨g, 10, none⟩ = some (.string (valOf pi)) := cell_of_row _ _ 10 _ _ (0, 0) J5.out.e
                    have x13 : W5.cell? ⟨g, 13, none⟩ = some (.int .i64 lo) := cell_of_row _ _ 13 _ _ (0, 0) J5.out.e
                    obtain ⟨yl0, yl1⟩ := HXl_5.out.cs
                    go_wp2_with fail
                    refine (raborts_run _ _ _ _ _ hp hb).mono ?_
                    rintro e W6 ⟨rfl, hb⟩
                    have J6 := Lib.hid (J5.out.bl hb)
                    have HXl_6 := Lib.hid (HXl_5.out.below hb)
                    have HXh_6 := Lib.hid (HXh_5.out.below hb)
                    clear x9 x10 x13 yl0 yl1
                    clear hb
                    cases z6 : abB pc pi lo bi
                    · --z6 false
                      have x11 : W6.cell? ⟨g, 11, none⟩ = some (.int .i64 qc) := cell_of_row _ _ 11 _ _ (0, 0) J6.out.e
                      have x12 : W6.cell? ⟨g, 12, none⟩ = some (.string (valOf qi)) := cell_of_row _ _ 12 _ _ (0, 0) J6.out.e
                      obtain ⟨yl0, yl1⟩ := HXl_6.out.cs
                      go_wp2_with fail
                      refine (raborts_run _ _ _ _ _ hq hb).mono ?_
                      rintro e W7 ⟨rfl, hb⟩
                      have J7 := Lib.hid (J6.out.bl hb)
                      have HXl_7 := Lib.hid (HXl_6.out.below hb)
                      have HXh_7 := Lib.hid (HXh_6.out.below hb)
                      clear x11 x12 yl0 yl1
                      clear hb
                      cases z7 : abB qc qi lo bi
                      · --z7 false
                        obtain rfl : true = R := by rw [← HR.out]; unfold rpB; symm; first | (simp only [rppB, z0, hzv, h1D.out, h1, z1, h2D.out, h2, h3D.out, h3, h4D.out, h4, h5D.out, h6D.out, z6, z7, Bool.false_eq_true, if_false, if_true, Bool.not_true, Bool.not_false, Bool.and_true, Bool.true_and, Bool.and_false, Bool.false_and, Bool.or_false, Bool.or_true, Bool.false_or, Bool.true_or]; done) | (simp [rppB, z0, hzv, h1D.out, h1, z1, h2D.out, h2, h3D.out, h3, h4D.out, h4, h5D.out, h6D.out, z6, z7]; done)
                        clear HR
                        go_wp2_with fail
                        go_ret
                        exact ⟨rfl, by rw [HG.out]; exact J7.out.bel⟩
                      · --z7 true
                        obtain rfl : false = R := by rw [← HR.out]; unfold rpB; symm; first | (simp only [rppB, z0, hzv, h1D.out, h1, z1, h2D.out, h2, h3D.out, h3, h4D.out, h4, h5D.out, h6D.out, z6, z7, Bool.false_eq_true, if_false, if_true, Bool.not_true, Bool.not_false, Bool.and_true, Bool.true_and, Bool.and_false, Bool.false_and, Bool.or_false, Bool.or_true, Bool.false_or, Bool.true_or]; done) | (simp [rppB, z0, hzv, h1D.out, h1, z1, h2D.out, h2, h3D.out, h3, h4D.out, h4, h5D.out, h6D.out, z6, z7]; done)
                        clear HR
                        go_wp2_with fail
                        go_ret
                        exact ⟨rfl, by rw [HG.out]; exact J7.out.bel⟩
                    · --z6 true
                      obtain rfl : false = R := by rw [← HR.out]; unfold rpB; symm; first | (simp only [rppB, z0, hzv, h1D.out, h1, z1, h2D.out, h2, h3D.out, h3, h4D.out, h4, h5D.out, h6D.out, z6, Bool.false_eq_true, if_false, if_true, Bool.not_true, Bool.not_false, Bool.and_true, Bool.true_and, Bool.and_false, Bool.false_and, Bool.or_false, Bool.or_true, Bool.false_or, Bool.true_or]; done) | (simp [rppB, z0, hzv, h1D.out, h1, z1, h2D.out, h2, h3D.out, h3, h4D.out, h4, h5D.out, h6D.out, z6]; done)
                      clear HR
                      go_wp2_with fail
                      go_ret
                      exact ⟨rfl, by rw [HG.out]; exact J6.out.bel⟩
                · --h5 f
                  have h5D := Lib.hid (show decide (hi = 0) = false by simpa using h5)
                  have h5f0 : decide (0 < hi) = true := by first | (rw [decide_eq_false_iff_not]; omega) | (rw [decide_eq_true_iff]; omega) | (rw [bne_iff_ne]; omega) | (rw [beq_iff_eq]; omega) | (rw [beq_eq_false_iff_ne]; omega) | (rw [bne_eq_false_iff_eq]; omega)
                  clear h5
                  have x9 : W5.cell? ⟨g, 9, none⟩ = some (.int .i64 pc) := cell_of_row _ _ 9 _ _ (0, 0) J5.out.e
                  have x10 : W5.cell? ⟨g, 10, none⟩ = some (.string (valOf pi)) := cell_of_row _ _ 10 _ _ (0, 0) J5.out.e
                  have x11 : W5.cell? ⟨g, 11, none⟩ = some (.int .i64 qc) := cell_of_row _ _ 11 _ _ (0, 0) J5.out.e
                  have x12 : W5.cell? ⟨g, 12, none⟩ = some (.string (valOf qi)) := cell_of_row _ _ 12 _ _ (0, 0) J5.out.e
                  have x14 : W5.cell? ⟨g, 14, none⟩ = some (.int .i64 hi) := cell_of_row _ _ 14 _ _ (0, 0) J5.out.e
                  have x13 : W5.cell? ⟨g, 13, none⟩ = some (.int .i64 lo) := cell_of_row _ _ 13 _ _ (0, 0) J5.out.e
                  have x7 : W5.cell? ⟨g, 7, none⟩ = some (.int .i64 bc) := cell_of_row _ _ 7 _ _ (0, 0) J5.out.e
                  obtain ⟨yh0, yh1⟩ := HXh_5.out.cs
                  go_wp2_with fail
                  refine (rprepares_run _ _ _ _ _ _ _ hp hq hb).mono ?_
                  rintro e W8 ⟨rfl, hb⟩
                  have J8 := Lib.hid (J5.out.bl hb)
                  have HXl_8 := Lib.hid (HXl_5.out.below hb)
                  have HXh_8 := Lib.hid (HXh_5.out.below hb)
                  clear x9 x10 x11 x12 x14 x13 x7 yh0 yh1
                  clear hb
                  cases z5 : prepB pc pi qc qi hi bi
                  · --z5 false
                    obtain rfl : false = R := by rw [← HR.out]; unfold rpB; symm; first | (simp only [rppB, z0, hzv, h1D.out, h1, z1, h2D.out, h2, h3D.out, h3, h4D.out, h4, h5D.out, z5, Bool.false_eq_true, if_false, if_true, Bool.not_true, Bool.not_false, Bool.and_true, Bool.true_and, Bool.and_false, Bool.false_and, Bool.or_false, Bool.or_true, Bool.false_or, Bool.true_or]; done) | (simp [rppB, z0, hzv, h1D.out, h1, z1, h2D.out, h2, h3D.out, h3, h4D.out, h4, h5D.out, z5]; done)
                    clear HR
                    go_wp2_with fail
                    go_ret
                    exact ⟨rfl, by rw [HG.out]; exact J8.out.bel⟩
                  · --z5 true
                    by_cases h6 : lo = 0
                    · --h6 t
                      have h6D := Lib.hid (show decide (lo = 0) = true by simpa using h6)
                      have h6t0 : (lo == 0) = true := by first | (rw [decide_eq_false_iff_not]; omega) | (rw [decide_eq_true_iff]; omega) | (rw [bne_iff_ne]; omega) | (rw [beq_iff_eq]; omega) | (rw [beq_eq_false_iff_ne]; omega) | (rw [bne_eq_false_iff_eq]; omega)
                      clear h6
                      obtain rfl : true = R := by rw [← HR.out]; unfold rpB; symm; first | (simp only [rppB, z0, hzv, h1D.out, h1, z1, h2D.out, h2, h3D.out, h3, h4D.out, h4, h5D.out, z5, h6D.out, Bool.false_eq_true, if_false, if_true, Bool.not_true, Bool.not_false, Bool.and_true, Bool.true_and, Bool.and_false, Bool.false_and, Bool.or_false, Bool.or_true, Bool.false_or, Bool.true_or]; done) | (simp [rppB, z0, hzv, h1D.out, h1, z1, h2D.out, h2, h3D.out, h3, h4D.out, h4, h5D.out, z5, h6D.out]; done)
                      clear HR
                      have x13 : W8.cell? ⟨g, 13, none⟩ = some (.int .i64 lo) := cell_of_row _ _ 13 _ _ (0, 0) J8.out.e
                      go_wp2_with fail
                      go_ret
                      exact ⟨rfl, by rw [HG.out]; exact J8.out.bel⟩
                    · --h6 f
                      have h6D := Lib.hid (show decide (lo = 0) = false by simpa using h6)
                      have h6f0 : (lo == 0) = false := by first | (rw [decide_eq_false_iff_not]; omega) | (rw [decide_eq_true_iff]; omega) | (rw [bne_iff_ne]; omega) | (rw [beq_iff_eq]; omega) | (rw [beq_eq_false_iff_ne]; omega) | (rw [bne_eq_false_iff_eq]; omega)
                      clear h6
                      have x9 : W8.cell? ⟨g, 9, none⟩ = some (.int .i64 pc) := cell_of_row _ _ 9 _ _ (0, 0) J8.out.e
                      have x10 : W8.cell? ⟨g, 10, none⟩ = some (.string (valOf pi)) := cell_of_row _ _ 10 _ _ (0, 0) J8.out.e
                      have x13 : W8.cell? ⟨g, 13, none⟩ = some (.int .i64 lo) := cell_of_row _ _ 13 _ _ (0, 0) J8.out.e
                      obtain ⟨yl0, yl1⟩ := HXl_8.out.cs
                      go_wp2_with fail
                      refine (raborts_run _ _ _ _ _ hp hb).mono ?_
                      rintro e W9 ⟨rfl, hb⟩
                      have J9 := Lib.hid (J8.out.bl hb)
                      have HXl_9 := Lib.hid (HXl_8.out.below hb)
                      have HXh_9 := Lib.hid (HXh_8.out.below hb)
                      clear x9 x10 x13 yl0 yl1
                      clear hb
                      cases z6 : abB pc pi lo bi
                      · --z6 false
                        have x11 : W9.cell? ⟨g, 11, none⟩ = some (.int .i64 qc) := cell_of_row _ _ 11 _ _ (0, 0) J9.out.e
                        have x12 : W9.cell? ⟨g, 12, none⟩ = some (.string (valOf qi)) := cell_of_row _ _ 12 _ _ (0, 0) J9.out.e
                        obtain ⟨yl0, yl1⟩ := HXl_9.out.cs
                        go_wp2_with fail
                        refine (raborts_run _ _ _ _ _ hq hb).mono ?_
                        rintro e W10 ⟨rfl, hb⟩
                        have J10 := Lib.hid (J9.out.bl hb)
                        have HXl_10 := Lib.hid (HXl_9.out.below hb)
                        have HXh_10 := Lib.hid (HXh_9.out.below hb)
                        clear x11 x12 yl0 yl1
                        clear hb
                        cases z7 : abB qc qi lo bi
                        · --z7 false
                          obtain rfl : true = R := by rw [← HR.out]; unfold rpB; symm; first | (simp only [rppB, z0, hzv, h1D.out, h1, z1, h2D.out, h2, h3D.out, h3, h4D.out, h4, h5D.out, z5, h6D.out, z6, z7, Bool.false_eq_true, if_false, if_true, Bool.not_true, Bool.not_false, Bool.and_true, Bool.true_and, Bool.and_false, Bool.false_and, Bool.or_false, Bool.or_true, Bool.false_or, Bool.true_or]; done) | (simp [rppB, z0, hzv, h1D.out, h1, z1, h2D.out, h2, h3D.out, h3, h4D.out, h4, h5D.out, z5, h6D.out, z6, z7]; done)
                          clear HR
                          go_wp2_with fail
                          go_ret
                          exact ⟨rfl, by rw [HG.out]; exact J10.out.bel⟩
                        · --z7 true
                          obtain rfl : false = R := by rw [← HR.out]; unfold rpB; symm; first | (simp only [rppB, z0, hzv, h1D.out, h1, z1, h2D.out, h2, h3D.out, h3, h4D.out, h4, h5D.out, z5, h6D.out, z6, z7, Bool.false_eq_true, if_false, if_true, Bool.not_true, Bool.not_false, Bool.and_true, Bool.true_and, Bool.and_false, Bool.false_and, Bool.or_false, Bool.or_true, Bool.false_or, Bool.true_or]; done) | (simp [rppB, z0, hzv, h1D.out, h1, z1, h2D.out, h2, h3D.out, h3, h4D.out, h4, h5D.out, z5, h6D.out, z6, z7]; done)
                          clear HR
                          go_wp2_with fail
                          go_ret
                          exact ⟨rfl, by rw [HG.out]; exact J10.out.bel⟩
                      · --z6 true
                        obtain rfl : false = R := by rw [← HR.out]; unfold rpB; symm; first | (simp only [rppB, z0, hzv, h1D.out, h1, z1, h2D.out, h2, h3D.out, h3, h4D.out, h4, h5D.out, z5, h6D.out, z6, Bool.false_eq_true, if_false, if_true, Bool.not_true, Bool.not_false, Bool.and_true, Bool.true_and, Bool.and_false, Bool.false_and, Bool.or_false, Bool.or_true, Bool.false_or, Bool.true_or]; done) | (simp [rppB, z0, hzv, h1D.out, h1, z1, h2D.out, h2, h3D.out, h3, h4D.out, h4, h5D.out, z5, h6D.out, z6]; done)
                        clear HR
                        go_wp2_with fail
                        go_ret
                        exact ⟨rfl, by rw [HG.out]; exact J9.out.bel⟩
              · --h4 f
                have h4D := Lib.hid (show decide (hi ≤ bc) = false by simpa using h4)
                have h4f0 : decide (bc < hi) = true := by first | (rw [decide_eq_false_iff_not]; omega) | (rw [decide_eq_true_iff]; omega) | (rw [bne_iff_ne]; omega) | (rw [beq_iff_eq]; omega) | (rw [beq_eq_false_iff_ne]; omega) | (rw [bne_eq_false_iff_eq]; omega)
                obtain rfl : false = R := by rw [← HR.out]; unfold rpB; symm; first | (simp only [rppB, z0, hzv, h1D.out, h1, z1, h2D.out, h2, h3D.out, h3, h4D.out, h4, Bool.false_eq_true, if_false, if_true, Bool.not_true, Bool.not_false, Bool.and_true, Bool.true_and, Bool.and_false, Bool.false_and, Bool.or_false, Bool.or_true, Bool.false_or, Bool.true_or]; done) | (simp [rppB, z0, hzv, h1D.out, h1, z1, h2D.out, h2, h3D.out, h3, h4D.out, h4]; done)
                clear HR
                have x13 : W5.cell? ⟨g, 13, none⟩ = some (.int .i64 lo) := cell_of_row _ _ 13 _ _ (0, 0) J5.out.e
                have x14 : W5.cell? ⟨g, 14, none⟩ = some (.int .i64 hi) := cell_of_row _ _ 14 _ _ (0, 0) J5.out.e
                have x7 : W5.cell? ⟨g, 7, none⟩ = some (.int .i64 bc) := cell_of_row _ _ 7 _ _ (0, 0) J5.out.e
                go_wp2_with fail
                go_ret
                exact ⟨rfl, by rw [HG.out]; exact J5.out.bel⟩
            · --h3 f
              have h3D := Lib.hid (show decide (lo ≤ hi) = false by simpa using h3)
              have h3f0 : decide (hi < lo) = true := by first | (rw [decide_eq_false_iff_not]; omega) | (rw [decide_eq_true_iff]; omega) | (rw [bne_iff_ne]; omega) | (rw [beq_iff_eq]; omega) | (rw [beq_eq_false_iff_ne]; omega) | (rw [bne_eq_false_iff_eq]; omega)
              obtain rfl : false = R := by rw [← HR.out]; unfold rpB; symm; first | (simp only [rppB, z0, hzv, h1D.out, h1, z1, h2D.out, h2, h3D.out, h3, Bool.false_eq_true, if_false, if_true, Bool.not_true, Bool.not_false, Bool.and_true, Bool.true_and, Bool.and_false, Bool.false_and, Bool.or_false, Bool.or_true, Bool.false_or, Bool.true_or]; done) | (simp [rppB, z0, hzv, h1D.out, h1, z1, h2D.out, h2, h3D.out, h3]; done)
              clear HR
              have x13 : W5.cell? ⟨g, 13, none⟩ = some (.int .i64 lo) := cell_of_row _ _ 13 _ _ (0, 0) J5.out.e
              have x14 : W5.cell? ⟨g, 14, none⟩ = some (.int .i64 hi) := cell_of_row _ _ 14 _ _ (0, 0) J5.out.e
              have x7 : W5.cell? ⟨g, 7, none⟩ = some (.int .i64 bc) := cell_of_row _ _ 7 _ _ (0, 0) J5.out.e
              go_wp2_with fail
              go_ret
              exact ⟨rfl, by rw [HG.out]; exact J5.out.bel⟩
          · --h2 f
            have h2D := Lib.hid (show decide (0 ≤ lo) = false by simpa using h2)
            have h2f0 : decide (lo < 0) = true := by first | (rw [decide_eq_false_iff_not]; omega) | (rw [decide_eq_true_iff]; omega) | (rw [bne_iff_ne]; omega) | (rw [beq_iff_eq]; omega) | (rw [beq_eq_false_iff_ne]; omega) | (rw [bne_eq_false_iff_eq]; omega)
            obtain rfl : false = R := by rw [← HR.out]; unfold rpB; symm; first | (simp only [rppB, z0, hzv, h1D.out, h1, z1, h2D.out, h2, Bool.false_eq_true, if_false, if_true, Bool.not_true, Bool.not_false, Bool.and_true, Bool.true_and, Bool.and_false, Bool.false_and, Bool.or_false, Bool.or_true, Bool.false_or, Bool.true_or]; done) | (simp [rppB, z0, hzv, h1D.out, h1, z1, h2D.out, h2]; done)
            clear HR
            have x13 : W5.cell? ⟨g, 13, none⟩ = some (.int .i64 lo) := cell_of_row _ _ 13 _ _ (0, 0) J5.out.e
            have x14 : W5.cell? ⟨g, 14, none⟩ = some (.int .i64 hi) := cell_of_row _ _ 14 _ _ (0, 0) J5.out.e
            have x7 : W5.cell? ⟨g, 7, none⟩ = some (.int .i64 bc) := cell_of_row _ _ 7 _ _ (0, 0) J5.out.e
            go_wp2_with fail
            go_ret
            exact ⟨rfl, by rw [HG.out]; exact J5.out.bel⟩
      · --h1 f
        have h1D := Lib.hid (show decide (bc ≤ 1000) = false by simpa using h1)
        have h1f0 : decide (1000 < bc) = true := by first | (rw [decide_eq_false_iff_not]; omega) | (rw [decide_eq_true_iff]; omega) | (rw [bne_iff_ne]; omega) | (rw [beq_iff_eq]; omega) | (rw [beq_eq_false_iff_ne]; omega) | (rw [bne_eq_false_iff_eq]; omega)
        obtain rfl : false = R := by rw [← HR.out]; unfold rpB; symm; first | (simp only [rppB, z0, hzv, h1D.out, h1, Bool.false_eq_true, if_false, if_true, Bool.not_true, Bool.not_false, Bool.and_true, Bool.true_and, Bool.and_false, Bool.false_and, Bool.or_false, Bool.or_true, Bool.false_or, Bool.true_or]; done) | (simp [rppB, z0, hzv, h1D.out, h1]; done)
        clear HR
        have x6 : wc.cell? ⟨g, 6, none⟩ = some (.int .i64 kd) := cell_of_row _ _ 6 _ _ (0, 0) J4.out.e
        have x7 : wc.cell? ⟨g, 7, none⟩ = some (.int .i64 bc) := cell_of_row _ _ 7 _ _ (0, 0) J4.out.e
        go_wp2_with fail
        go_ret
        exact ⟨rfl, by rw [HG.out]; exact J4.out.bel⟩
end Go.Proofs.Ytmgiojdipheokaa
