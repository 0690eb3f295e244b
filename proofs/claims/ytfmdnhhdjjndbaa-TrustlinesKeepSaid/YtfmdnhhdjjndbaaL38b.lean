/- The reference for lines and offers: what an account holds, and whether it can. -/
import Derived.Test.YtfmdnhhdjjndbaaL38
namespace Go.Proofs.Ytfmdnhhdjjndbaa
set_option linter.unusedVariables false
set_option linter.unusedSimpArgs false
open Go.RowKit

theorem LedAt.alloc {P : Nat → Prop} {w : World} {va vl vo : Value} {g : Led} (h : LedAt P w va vl vo g) (o : Obj) : LedAt P (w.alloc o) va vl vo g := h.below (balloc (bref _) _)

theorem alloc_szS (w : World) (o : Obj) : (w.alloc o).heap.size = w.heap.size + 1 := by simp

set_option maxRecDepth 100000 in
set_option maxHeartbeats 4000000 in
theorem right_run (P : Nat → Prop) (g : Led) (va vl vo : Value) (w : World) (hok : LedOk g) (h : LedAt P w va vl vo g) :
    Calls Try.prog 89 #[valG g va vl vo] w fun e w' => e = .returned (.bool true) ∧ Below w.heap.size w w' := by
  unfold valG
  obtain ⟨A, c, B, c2, C, c3, rfl, rfl, rfl, hc, hm, hc2, hm2, hc3, hm3⟩ := h.form
  have hba := balloc (bref w) (.cells #[.int .i64 g.number, .slice A g.accs.length c, .slice B g.lines.length c2, .slice C g.offers.length c3, .int .i64 g.next, .int .i64 g.fees, .int .u64 g.link] 30)
  have HX0 := Lib.hid (box7 w 30 (.int .i64 g.number) (.slice A g.accs.length c) (.slice B g.lines.length c2) (.slice C g.offers.length c3) (.int .i64 g.next) (.int .i64 g.fees) (.int .u64 g.link))
  have HL0 := Lib.hid (h.below hba)
  have HB0 := Lib.hid hba
  have HCK := Lib.hid (fun W (hW : LedAt P W (.slice A g.accs.length c) (.slice B g.lines.length c2) (.slice C g.offers.length c3) g) => rcheck37_run P P g.accs g.lines _ _ W hok.accs hok.lines hW.l hW.a)
  clear h hba
  go_enter Try.func89, Try.ntmps89
  go_upto_region 1 with fail
  generalize w.alloc (.cells #[.int .i64 g.number, .slice A g.accs.length c, .slice B g.lines.length c2, .slice C g.offers.length c3, .int .i64 g.next, .int .i64 g.fees, .int .u64 g.link] 30) = W0 at *
  obtain ⟨x0, x1, x2, x3, x4, x5, x6, _⟩ := HX0.out
  go_wp2_with fail
  refine (HCK.out _ HL0.out).mono ?_
  rintro e w1 ⟨rfl, hb1⟩
  have HX1 := Lib.hid (HX0.out.below hb1)
  have HL1 := Lib.hid (HL0.out.below hb1)
  have HB1 := Lib.hid (bstep HB0.out hb1)
  clear x0 x1 x2 x3 x4 x5 x6
  clear hb1
  go_wp2_with fail
  go_ret
  exact ⟨rfl, HB1.out⟩

/-- What an account holds of an asset. -/
def heldG (g : Led) (i : Int) (s : Nat) : Int := if hasA i g.accs = false then 0 else if s = 0 then (getA i g.accs).bal else if issOf s = i then 1000000000000 else (getL i s g.lines).bal

theorem heldG_0 {g : Led} {i : Int} {s : Nat} (h : hasA i g.accs = false) : heldG g i s = 0 := if_pos h

theorem heldG_1 {g : Led} {i : Int} (h : hasA i g.accs = true) : heldG g i 0 = (getA i g.accs).bal := by unfold heldG; rw [if_neg (by rw [h]; simp), if_pos rfl]

theorem heldG_2 {g : Led} {i : Int} {s : Nat} (h : hasA i g.accs = true) (hs : s ≠ 0) (hi : issOf s = i) : heldG g i s = 1000000000000 := by unfold heldG; rw [if_neg (by rw [h]; simp), if_neg hs, if_pos hi]

theorem heldG_3 {g : Led} {i : Int} {s : Nat} (h : hasA i g.accs = true) (hs : s ≠ 0) (hi : issOf s ≠ i) : heldG g i s = (getL i s g.lines).bal := by unfold heldG; rw [if_neg (by rw [h]; simp), if_neg hs, if_neg hi]

theorem valL_form (l : Lin) : ∃ (x0 : Int) (x1 : ByteArray) (x2 x4 : Int), valL l = .agg #[.int .i64 x0, .string x1, .int .i64 x2, .int .i64 l.bal, .int .i64 x4] := ⟨_, _, _, _, rfl⟩

theorem valA_form (a : Acc) : ∃ (x0 x2 : Int), valA a = .agg #[.int .i64 x0, .int .i64 a.bal, .int .i64 x2] := ⟨_, _, rfl⟩

set_option maxRecDepth 100000 in
set_option maxHeartbeats 4000000 in
theorem rheld_run (P : Nat → Prop) (g : Led) (i : Int) (s : Nat) (va vl vo : Value) (w : World) (hs : s ≤ 2) (hok : LedOk g) (h : LedAt P w va vl vo g) :
    Calls Try.prog 70 #[valG g va vl vo, .int .i64 i, valS s] w fun e w' => e = .returned (.int .i64 (heldG g i s)) ∧ Below w.heap.size w w' := by
  have HAL := Lib.hid (show g.accs.length ≤ 1000 by have := hok.accs.len; omega)
  have HLL := Lib.hid (show g.lines.length ≤ 1000 by have := hok.lines.len; omega)
  unfold valG
  obtain ⟨A, c, B, c2, C, c3, rfl, rfl, rfl, hc, hm, hc2, hm2, hc3, hm3⟩ := h.form
  have hba := balloc (bref w) (.cells #[.int .i64 g.number, .slice A g.accs.length c, .slice B g.lines.length c2, .slice C g.offers.length c3, .int .i64 g.next, .int .i64 g.fees, .int .u64 g.link] 30)
  have hbb := balloc hba (.cells #[.string (codeOf s), .int .i64 (issOf s)] 49)
  have HX0 := Lib.hid ((box7 w 30 (.int .i64 g.number) (.slice A g.accs.length c) (.slice B g.lines.length c2) (.slice C g.offers.length c3) (.int .i64 g.next) (.int .i64 g.fees) (.int .u64 g.link)).alloc (.cells #[.string (codeOf s), .int .i64 (issOf s)] 49))
  have hbx := box2 (w.alloc (.cells #[.int .i64 g.number, .slice A g.accs.length c, .slice B g.lines.length c2, .slice C g.offers.length c3, .int .i64 g.next, .int .i64 g.fees, .int .u64 g.link] 30)) 49 (.string (codeOf s)) (.int .i64 (issOf s))
  rw [alloc_szS] at hbx
  have HS0 := Lib.hid hbx
  have HL0 := Lib.hid (h.below hbb)
  have HB0 := Lib.hid hbb
  clear h hba hbb hbx
  have HF := Lib.hid (fun W (hW : LedAt P W (.slice A g.accs.length c) (.slice B g.lines.length c2) (.slice C g.offers.length c3) g) => rfind36_run P g.accs i _ W HAL.out hW.a)
  have HRT := Lib.hid (fun W (hW : LedAt P W (.slice A g.accs.length c) (.slice B g.lines.length c2) (.slice C g.offers.length c3) g) => right_run P g _ _ _ W hok hW)
  have HAS := Lib.hid (fun W => rasset_run s W hs)
  have HNA := Lib.hid (fun W => rnative_run s W hs)
  have HFL := Lib.hid (fun W (hW : LedAt P W (.slice A g.accs.length c) (.slice B g.lines.length c2) (.slice C g.offers.length c3) g) => rfind37_run P g.lines i s _ W hs hok.lines.ast HLL.out hW.l)
  unfold valG at HRT
  unfold valS at *
  obtain ⟨x0, x2, hx⟩ := valA_form (getA i g.accs)
  have HXV := Lib.hid hx
  obtain ⟨BL, hBL⟩ : ∃ b, (getA i g.accs).bal = b := ⟨_, rfl⟩
  rw [hBL] at HXV
  have HBL := Lib.hid hBL
  clear hx hBL
  rcases (show hasA i g.accs = false ∨ hasA i g.accs = true by cases hasA i g.accs <;> simp) with hh | hh
  · have HH := Lib.hid hh
    have HR := Lib.hid (heldG_0 (s := s) hh)
    clear hh
    go_enter Try.func70, Try.ntmps70
    go_upto_region 1 with fail
    generalize (w.alloc (.cells #[.int .i64 g.number, .slice A g.accs.length c, .slice B g.lines.length c2, .slice C g.offers.length c3, .int .i64 g.next, .int .i64 g.fees, .int .u64 g.link] 30)).alloc (.cells #[.string (codeOf s), .int .i64 (issOf s)] 49) = W0 at *
    obtain ⟨x_0, x_1, x_2, x_3, x_4, x_5, x_6, _⟩ := HX0.out
    obtain ⟨s_0, s_1, _⟩ := HS0.out
    go_wp2_with fail
    refine (HF.out _ HL0.out).mono ?_
    rintro e w1 ⟨rfl, hb1⟩
    have HX1 := Lib.hid (HX0.out.below hb1)
    have HS1 := Lib.hid (HS0.out.below hb1)
    have HL1 := Lib.hid (HL0.out.below hb1)
    have HB1 := Lib.hid (bstep HB0.out hb1)
    clear x_0 x_1 x_2 x_3 x_4 x_5 x_6 s_0 s_1
    clear hb1
    rw [HXV.out, HH.out]
    have HAB1 := Lib.hid (box3 w1 34 (.int .i64 x0) (.int .i64 BL) (.int .i64 x2))
    have HX2 := Lib.hid (HX1.out.alloc (.cells #[.int .i64 x0, .int .i64 BL, .int .i64 x2] 34))
    have HS2 := Lib.hid (HS1.out.alloc (.cells #[.int .i64 x0, .int .i64 BL, .int .i64 x2] 34))
    have HL2 := Lib.hid (HL1.out.alloc (.cells #[.int .i64 x0, .int .i64 BL, .int .i64 x2] 34))
    have HB2 := Lib.hid (balloc HB1.out (.cells #[.int .i64 x0, .int .i64 BL, .int .i64 x2] 34))
    go_upto_region 2 with fail
    generalize w1.alloc (.cells #[.int .i64 x0, .int .i64 BL, .int .i64 x2] 34) = W2 at *
    have HA2 := HAB1
    obtain ⟨x_0, x_1, x_2, x_3, x_4, x_5, x_6, _⟩ := HX2.out
    obtain ⟨s_0, s_1, _⟩ := HS2.out
    obtain ⟨a_0, a_1, a_2, _⟩ := HA2.out
    go_wp2_with fail
    refine (HRT.out _ HL2.out).mono ?_
    rintro e w3 ⟨rfl, hb3⟩
    have HX3 := Lib.hid (HX2.out.below hb3)
    have HS3 := Lib.hid (HS2.out.below hb3)
    have HL3 := Lib.hid (HL2.out.below hb3)
    have HB3 := Lib.hid (bstep HB2.out hb3)
    have HA3 := Lib.hid (HA2.out.below hb3)
    clear x_0 x_1 x_2 x_3 x_4 x_5 x_6 s_0 s_1 a_0 a_1 a_2
    clear hb3
    obtain ⟨x_0, x_1, x_2, x_3, x_4, x_5, x_6, _⟩ := HX3.out
    obtain ⟨s_0, s_1, _⟩ := HS3.out
    obtain ⟨a_0, a_1, a_2, _⟩ := HA3.out
    go_wp2_with fail
    go_ret
    exact ⟨by rw [HR.out]; rfl, HB3.out⟩
  · have HH1 := Lib.hid hh
    rcases Nat.eq_zero_or_pos s with hs0 | hs0
    · have HH := Lib.hid hh
      have HZ := Lib.hid (show (s == 0) = true by simpa using hs0)
      have HR := Lib.hid (show heldG g i s = BL by rw [← HBL.out, hs0]; exact heldG_1 hh)
      clear hs0
      clear hh
      go_enter Try.func70, Try.ntmps70
      go_upto_region 1 with fail
      generalize (w.alloc (.cells #[.int .i64 g.number, .slice A g.accs.length c, .slice B g.lines.length c2, .slice C g.offers.length c3, .int .i64 g.next, .int .i64 g.fees, .int .u64 g.link] 30)).alloc (.cells #[.string (codeOf s), .int .i64 (issOf s)] 49) = W0 at *
      obtain ⟨x_0, x_1, x_2, x_3, x_4, x_5, x_6, _⟩ := HX0.out
      obtain ⟨s_0, s_1, _⟩ := HS0.out
      go_wp2_with fail
      refine (HF.out _ HL0.out).mono ?_
      rintro e w1 ⟨rfl, hb1⟩
      have HX1 := Lib.hid (HX0.out.below hb1)
      have HS1 := Lib.hid (HS0.out.below hb1)
      have HL1 := Lib.hid (HL0.out.below hb1)
      have HB1 := Lib.hid (bstep HB0.out hb1)
      clear x_0 x_1 x_2 x_3 x_4 x_5 x_6 s_0 s_1
      clear hb1
      rw [HXV.out, HH.out]
      have HAB1 := Lib.hid (box3 w1 34 (.int .i64 x0) (.int .i64 BL) (.int .i64 x2))
      have HX2 := Lib.hid (HX1.out.alloc (.cells #[.int .i64 x0, .int .i64 BL, .int .i64 x2] 34))
      have HS2 := Lib.hid (HS1.out.alloc (.cells #[.int .i64 x0, .int .i64 BL, .int .i64 x2] 34))
      have HL2 := Lib.hid (HL1.out.alloc (.cells #[.int .i64 x0, .int .i64 BL, .int .i64 x2] 34))
      have HB2 := Lib.hid (balloc HB1.out (.cells #[.int .i64 x0, .int .i64 BL, .int .i64 x2] 34))
      go_upto_region 2 with fail
      generalize w1.alloc (.cells #[.int .i64 x0, .int .i64 BL, .int .i64 x2] 34) = W2 at *
      have HA2 := HAB1
      obtain ⟨x_0, x_1, x_2, x_3, x_4, x_5, x_6, _⟩ := HX2.out
      obtain ⟨s_0, s_1, _⟩ := HS2.out
      obtain ⟨a_0, a_1, a_2, _⟩ := HA2.out
      go_wp2_with fail
      refine (HRT.out _ HL2.out).mono ?_
      rintro e w3 ⟨rfl, hb3⟩
      have HX3 := Lib.hid (HX2.out.below hb3)
      have HS3 := Lib.hid (HS2.out.below hb3)
      have HL3 := Lib.hid (HL2.out.below hb3)
      have HB3 := Lib.hid (bstep HB2.out hb3)
      have HA3 := Lib.hid (HA2.out.below hb3)
      clear x_0 x_1 x_2 x_3 x_4 x_5 x_6 s_0 s_1 a_0 a_1 a_2
      clear hb3
      obtain ⟨x_0, x_1, x_2, x_3, x_4, x_5, x_6, _⟩ := HX3.out
      obtain ⟨s_0, s_1, _⟩ := HS3.out
      obtain ⟨a_0, a_1, a_2, _⟩ := HA3.out
      go_wp2_with fail
      refine (HAS.out _).mono ?_
      rintro e w4 ⟨rfl, hb4⟩
      have HX4 := Lib.hid (HX3.out.below hb4)
      have HS4 := Lib.hid (HS3.out.below hb4)
      have HL4 := Lib.hid (HL3.out.below hb4)
      have HB4 := Lib.hid (bstep HB3.out hb4)
      have HA4 := Lib.hid (HA3.out.below hb4)
      clear x_0 x_1 x_2 x_3 x_4 x_5 x_6 s_0 s_1 a_0 a_1 a_2
      clear hb4
      obtain ⟨x_0, x_1, x_2, x_3, x_4, x_5, x_6, _⟩ := HX4.out
      obtain ⟨s_0, s_1, _⟩ := HS4.out
      obtain ⟨a_0, a_1, a_2, _⟩ := HA4.out
      go_wp2_with fail
      refine (HNA.out _).mono ?_
      rintro e w5 ⟨rfl, hb5⟩
      have HX5 := Lib.hid (HX4.out.below hb5)
      have HS5 := Lib.hid (HS4.out.below hb5)
      have HL5 := Lib.hid (HL4.out.below hb5)
      have HB5 := Lib.hid (bstep HB4.out hb5)
      have HA5 := Lib.hid (HA4.out.below hb5)
      clear x_0 x_1 x_2 x_3 x_4 x_5 x_6 s_0 s_1 a_0 a_1 a_2
      clear hb5
      obtain ⟨x_0, x_1, x_2, x_3, x_4, x_5, x_6, _⟩ := HX5.out
      obtain ⟨s_0, s_1, _⟩ := HS5.out
      obtain ⟨a_0, a_1, a_2, _⟩ := HA5.out
      rw [HZ.out]
      go_wp2_with fail
      go_ret
      exact ⟨by rw [HR.out]; rfl, HB5.out⟩
    · rcases (show issOf s = i ∨ issOf s ≠ i by omega) with hi | hi
      · have HH := Lib.hid hh
        have HZ := Lib.hid (show (s == 0) = false by simp; omega)
        have HR := Lib.hid (heldG_2 hh (by omega) hi)
        have q0 : (issOf s == i) = true := by simpa using hi
        clear hs0 hi
        clear hh
        go_enter Try.func70, Try.ntmps70
        go_upto_region 1 with fail
        generalize (w.alloc (.cells #[.int .i64 g.number, .slice A g.accs.length c, .slice B g.lines.length c2, .slice C g.offers.length c3, .int .i64 g.next, .int .i64 g.fees, .int .u64 g.link] 30)).alloc (.cells #[.string (codeOf s), .int .i64 (issOf s)] 49) = W0 at *
        obtain ⟨x_0, x_1, x_2, x_3, x_4, x_5, x_6, _⟩ := HX0.out
        obtain ⟨s_0, s_1, _⟩ := HS0.out
        go_wp2_with fail
        refine (HF.out _ HL0.out).mono ?_
        rintro e w1 ⟨rfl, hb1⟩
        have HX1 := Lib.hid (HX0.out.below hb1)
        have HS1 := Lib.hid (HS0.out.below hb1)
        have HL1 := Lib.hid (HL0.out.below hb1)
        have HB1 := Lib.hid (bstep HB0.out hb1)
        clear x_0 x_1 x_2 x_3 x_4 x_5 x_6 s_0 s_1
        clear hb1
        rw [HXV.out, HH.out]
        have HAB1 := Lib.hid (box3 w1 34 (.int .i64 x0) (.int .i64 BL) (.int .i64 x2))
        have HX2 := Lib.hid (HX1.out.alloc (.cells #[.int .i64 x0, .int .i64 BL, .int .i64 x2] 34))
        have HS2 := Lib.hid (HS1.out.alloc (.cells #[.int .i64 x0, .int .i64 BL, .int .i64 x2] 34))
        have HL2 := Lib.hid (HL1.out.alloc (.cells #[.int .i64 x0, .int .i64 BL, .int .i64 x2] 34))
        have HB2 := Lib.hid (balloc HB1.out (.cells #[.int .i64 x0, .int .i64 BL, .int .i64 x2] 34))
        go_upto_region 2 with fail
        generalize w1.alloc (.cells #[.int .i64 x0, .int .i64 BL, .int .i64 x2] 34) = W2 at *
        have HA2 := HAB1
        obtain ⟨x_0, x_1, x_2, x_3, x_4, x_5, x_6, _⟩ := HX2.out
        obtain ⟨s_0, s_1, _⟩ := HS2.out
        obtain ⟨a_0, a_1, a_2, _⟩ := HA2.out
        go_wp2_with fail
        refine (HRT.out _ HL2.out).mono ?_
        rintro e w3 ⟨rfl, hb3⟩
        have HX3 := Lib.hid (HX2.out.below hb3)
        have HS3 := Lib.hid (HS2.out.below hb3)
        have HL3 := Lib.hid (HL2.out.below hb3)
        have HB3 := Lib.hid (bstep HB2.out hb3)
        have HA3 := Lib.hid (HA2.out.below hb3)
        clear x_0 x_1 x_2 x_3 x_4 x_5 x_6 s_0 s_1 a_0 a_1 a_2
        clear hb3
        obtain ⟨x_0, x_1, x_2, x_3, x_4, x_5, x_6, _⟩ := HX3.out
        obtain ⟨s_0, s_1, _⟩ := HS3.out
        obtain ⟨a_0, a_1, a_2, _⟩ := HA3.out
        go_wp2_with fail
        refine (HAS.out _).mono ?_
        rintro e w4 ⟨rfl, hb4⟩
        have HX4 := Lib.hid (HX3.out.below hb4)
        have HS4 := Lib.hid (HS3.out.below hb4)
        have HL4 := Lib.hid (HL3.out.below hb4)
        have HB4 := Lib.hid (bstep HB3.out hb4)
        have HA4 := Lib.hid (HA3.out.below hb4)
        clear x_0 x_1 x_2 x_3 x_4 x_5 x_6 s_0 s_1 a_0 a_1 a_2
        clear hb4
        obtain ⟨x_0, x_1, x_2, x_3, x_4, x_5, x_6, _⟩ := HX4.out
        obtain ⟨s_0, s_1, _⟩ := HS4.out
        obtain ⟨a_0, a_1, a_2, _⟩ := HA4.out
        go_wp2_with fail
        refine (HNA.out _).mono ?_
        rintro e w5 ⟨rfl, hb5⟩
        have HX5 := Lib.hid (HX4.out.below hb5)
        have HS5 := Lib.hid (HS4.out.below hb5)
        have HL5 := Lib.hid (HL4.out.below hb5)
        have HB5 := Lib.hid (bstep HB4.out hb5)
        have HA5 := Lib.hid (HA4.out.below hb5)
        clear x_0 x_1 x_2 x_3 x_4 x_5 x_6 s_0 s_1 a_0 a_1 a_2
        clear hb5
        obtain ⟨x_0, x_1, x_2, x_3, x_4, x_5, x_6, _⟩ := HX5.out
        obtain ⟨s_0, s_1, _⟩ := HS5.out
        obtain ⟨a_0, a_1, a_2, _⟩ := HA5.out
        rw [HZ.out]
        go_wp2_with fail
        go_ret
        exact ⟨by rw [HR.out]; rfl, HB5.out⟩
      · have HH := Lib.hid hh
        have HZ := Lib.hid (show (s == 0) = false by simp; omega)
        have HR := Lib.hid (heldG_3 hh (by omega) hi)
        have q0 : (issOf s == i) = false := by simpa using hi
        clear hs0 hi
        clear hh
        go_enter Try.func70, Try.ntmps70
        go_upto_region 1 with fail
        generalize (w.alloc (.cells #[.int .i64 g.number, .slice A g.accs.length c, .slice B g.lines.length c2, .slice C g.offers.length c3, .int .i64 g.next, .int .i64 g.fees, .int .u64 g.link] 30)).alloc (.cells #[.string (codeOf s), .int .i64 (issOf s)] 49) = W0 at *
        obtain ⟨x_0, x_1, x_2, x_3, x_4, x_5, x_6, _⟩ := HX0.out
        obtain ⟨s_0, s_1, _⟩ := HS0.out
        go_wp2_with fail
        refine (HF.out _ HL0.out).mono ?_
        rintro e w1 ⟨rfl, hb1⟩
        have HX1 := Lib.hid (HX0.out.below hb1)
        have HS1 := Lib.hid (HS0.out.below hb1)
        have HL1 := Lib.hid (HL0.out.below hb1)
        have HB1 := Lib.hid (bstep HB0.out hb1)
        clear x_0 x_1 x_2 x_3 x_4 x_5 x_6 s_0 s_1
        clear hb1
        rw [HXV.out, HH.out]
        have HAB1 := Lib.hid (box3 w1 34 (.int .i64 x0) (.int .i64 BL) (.int .i64 x2))
        have HX2 := Lib.hid (HX1.out.alloc (.cells #[.int .i64 x0, .int .i64 BL, .int .i64 x2] 34))
        have HS2 := Lib.hid (HS1.out.alloc (.cells #[.int .i64 x0, .int .i64 BL, .int .i64 x2] 34))
        have HL2 := Lib.hid (HL1.out.alloc (.cells #[.int .i64 x0, .int .i64 BL, .int .i64 x2] 34))
        have HB2 := Lib.hid (balloc HB1.out (.cells #[.int .i64 x0, .int .i64 BL, .int .i64 x2] 34))
        go_upto_region 2 with fail
        generalize w1.alloc (.cells #[.int .i64 x0, .int .i64 BL, .int .i64 x2] 34) = W2 at *
        have HA2 := HAB1
        obtain ⟨x_0, x_1, x_2, x_3, x_4, x_5, x_6, _⟩ := HX2.out
        obtain ⟨s_0, s_1, _⟩ := HS2.out
        obtain ⟨a_0, a_1, a_2, _⟩ := HA2.out
        go_wp2_with fail
        refine (HRT.out _ HL2.out).mono ?_
        rintro e w3 ⟨rfl, hb3⟩
        have HX3 := Lib.hid (HX2.out.below hb3)
        have HS3 := Lib.hid (HS2.out.below hb3)
        have HL3 := Lib.hid (HL2.out.below hb3)
        have HB3 := Lib.hid (bstep HB2.out hb3)
        have HA3 := Lib.hid (HA2.out.below hb3)
        clear x_0 x_1 x_2 x_3 x_4 x_5 x_6 s_0 s_1 a_0 a_1 a_2
        clear hb3
        obtain ⟨x_0, x_1, x_2, x_3, x_4, x_5, x_6, _⟩ := HX3.out
        obtain ⟨s_0, s_1, _⟩ := HS3.out
        obtain ⟨a_0, a_1, a_2, _⟩ := HA3.out
        go_wp2_with fail
        refine (HAS.out _).mono ?_
        rintro e w4 ⟨rfl, hb4⟩
        have HX4 := Lib.hid (HX3.out.below hb4)
        have HS4 := Lib.hid (HS3.out.below hb4)
        have HL4 := Lib.hid (HL3.out.below hb4)
        have HB4 := Lib.hid (bstep HB3.out hb4)
        have HA4 := Lib.hid (HA3.out.below hb4)
        clear x_0 x_1 x_2 x_3 x_4 x_5 x_6 s_0 s_1 a_0 a_1 a_2
        clear hb4
        obtain ⟨x_0, x_1, x_2, x_3, x_4, x_5, x_6, _⟩ := HX4.out
        obtain ⟨s_0, s_1, _⟩ := HS4.out
        obtain ⟨a_0, a_1, a_2, _⟩ := HA4.out
        go_wp2_with fail
        refine (HNA.out _).mono ?_
        rintro e w5 ⟨rfl, hb5⟩
        have HX5 := Lib.hid (HX4.out.below hb5)
        have HS5 := Lib.hid (HS4.out.below hb5)
        have HL5 := Lib.hid (HL4.out.below hb5)
        have HB5 := Lib.hid (bstep HB4.out hb5)
        have HA5 := Lib.hid (HA4.out.below hb5)
        clear x_0 x_1 x_2 x_3 x_4 x_5 x_6 s_0 s_1 a_0 a_1 a_2
        clear hb5
        obtain ⟨x_0, x_1, x_2, x_3, x_4, x_5, x_6, _⟩ := HX5.out
        obtain ⟨s_0, s_1, _⟩ := HS5.out
        obtain ⟨a_0, a_1, a_2, _⟩ := HA5.out
        rw [HZ.out]
        go_wp2_with fail
        refine (HFL.out _ HL5.out).mono ?_
        rintro e w6 ⟨rfl, hb6⟩
        have HX6 := Lib.hid (HX5.out.below hb6)
        have HS6 := Lib.hid (HS5.out.below hb6)
        have HL6 := Lib.hid (HL5.out.below hb6)
        have HB6 := Lib.hid (bstep HB5.out hb6)
        have HA6 := Lib.hid (HA5.out.below hb6)
        clear x_0 x_1 x_2 x_3 x_4 x_5 x_6 s_0 s_1 a_0 a_1 a_2
        clear hb6
        obtain ⟨x_0, x_1, x_2, x_3, x_4, x_5, x_6, _⟩ := HX6.out
        obtain ⟨s_0, s_1, _⟩ := HS6.out
        obtain ⟨a_0, a_1, a_2, _⟩ := HA6.out
        obtain ⟨y0, y1, y2, y4, hy⟩ := valL_form (getL i s g.lines)
        rw [hy]
        clear hy
        obtain ⟨LB, hLB⟩ : ∃ b, (getL i s g.lines).bal = b := ⟨_, rfl⟩
        rw [hLB] at HR ⊢
        clear hLB
        generalize hasL i s g.lines = hl
        have HB7 := Lib.hid (balloc HB6.out (.cells #[.int .i64 y0, .string y1, .int .i64 y2, .int .i64 LB, .int .i64 y4] 51))
        go_wp2_with fail
        go_ret
        exact ⟨by rw [HR.out]; rfl, HB7.out⟩

/-- Can an account hold an asset? -/
def holdsG (g : Led) (i : Int) (s : Nat) : Bool := s == 0 || issOf s == i || hasL i s g.lines

set_option maxRecDepth 100000 in
set_option maxHeartbeats 4000000 in
theorem rholdsA_run (P : Nat → Prop) (g : Led) (i : Int) (s : Nat) (va vl vo : Value) (w : World) (hs : s ≤ 2) (hok : LedOk g) (h : LedAt P w va vl vo g) :
    Calls Try.prog 69 #[valG g va vl vo, .int .i64 i, valS s] w fun e w' => e = .returned (.bool (holdsG g i s)) ∧ Below w.heap.size w w' := by
  have HLL := Lib.hid (show g.lines.length ≤ 1000 by have := hok.lines.len; omega)
  unfold valG
  obtain ⟨A, c, B, c2, C, c3, rfl, rfl, rfl, hc, hm, hc2, hm2, hc3, hm3⟩ := h.form
  have hba := balloc (bref w) (.cells #[.int .i64 g.number, .slice A g.accs.length c, .slice B g.lines.length c2, .slice C g.offers.length c3, .int .i64 g.next, .int .i64 g.fees, .int .u64 g.link] 30)
  have hbb := balloc hba (.cells #[.string (codeOf s), .int .i64 (issOf s)] 49)
  have HX0 := Lib.hid ((box7 w 30 (.int .i64 g.number) (.slice A g.accs.length c) (.slice B g.lines.length c2) (.slice C g.offers.length c3) (.int .i64 g.next) (.int .i64 g.fees) (.int .u64 g.link)).alloc (.cells #[.string (codeOf s), .int .i64 (issOf s)] 49))
  have hbx := box2 (w.alloc (.cells #[.int .i64 g.number, .slice A g.accs.length c, .slice B g.lines.length c2, .slice C g.offers.length c3, .int .i64 g.next, .int .i64 g.fees, .int .u64 g.link] 30)) 49 (.string (codeOf s)) (.int .i64 (issOf s))
  rw [alloc_szS] at hbx
  have HS0 := Lib.hid hbx
  have HL0 := Lib.hid (h.below hbb)
  have HB0 := Lib.hid hbb
  clear h hba hbb hbx
  have HNA := Lib.hid (fun W => rnative_run s W hs)
  have HFL := Lib.hid (fun W (hW : LedAt P W (.slice A g.accs.length c) (.slice B g.lines.length c2) (.slice C g.offers.length c3) g) => rfind37_run P g.lines i s _ W hs hok.lines.ast HLL.out hW.l)
  unfold valS at *
  obtain ⟨y0, y1, y2, y4, hy⟩ := valL_form (getL i s g.lines)
  have HY := Lib.hid hy
  clear hy
  generalize (getL i s g.lines).bal = LB at *
  have HD := Lib.hid (show holdsG g i s = (s == 0 || issOf s == i || hasL i s g.lines) from rfl)
  generalize hasL i s g.lines = hl at *
  rcases (show (s == 0) = true ∨ (s == 0) = false by cases (s == 0) <;> simp) with hz | hz
  · have HZ := Lib.hid hz
    rw [hz] at HD
    clear hz
    go_enter Try.func69, Try.ntmps69
    go_upto_region 1 with fail
    generalize (w.alloc (.cells #[.int .i64 g.number, .slice A g.accs.length c, .slice B g.lines.length c2, .slice C g.offers.length c3, .int .i64 g.next, .int .i64 g.fees, .int .u64 g.link] 30)).alloc (.cells #[.string (codeOf s), .int .i64 (issOf s)] 49) = W0 at *
    obtain ⟨x_0, x_1, x_2, x_3, x_4, x_5, x_6, _⟩ := HX0.out
    obtain ⟨s_0, s_1, _⟩ := HS0.out
    go_wp2_with fail
    refine (HFL.out _ HL0.out).mono ?_
    rintro e w1 ⟨rfl, hb1⟩
    have HX1 := Lib.hid (HX0.out.below hb1)
    have HS1 := Lib.hid (HS0.out.below hb1)
    have HL1 := Lib.hid (HL0.out.below hb1)
    have HB1 := Lib.hid (bstep HB0.out hb1)
    clear x_0 x_1 x_2 x_3 x_4 x_5 x_6 s_0 s_1
    clear hb1
    rw [HY.out]
    have HX2 := Lib.hid (HX1.out.alloc (.cells #[.int .i64 y0, .string y1, .int .i64 y2, .int .i64 LB, .int .i64 y4] 51))
    have HS2 := Lib.hid (HS1.out.alloc (.cells #[.int .i64 y0, .string y1, .int .i64 y2, .int .i64 LB, .int .i64 y4] 51))
    have HL2 := Lib.hid (HL1.out.alloc (.cells #[.int .i64 y0, .string y1, .int .i64 y2, .int .i64 LB, .int .i64 y4] 51))
    have HB2 := Lib.hid (balloc HB1.out (.cells #[.int .i64 y0, .string y1, .int .i64 y2, .int .i64 LB, .int .i64 y4] 51))
    go_upto_region 2 with fail
    generalize w1.alloc (.cells #[.int .i64 y0, .string y1, .int .i64 y2, .int .i64 LB, .int .i64 y4] 51) = W2 at *
    obtain ⟨x_0, x_1, x_2, x_3, x_4, x_5, x_6, _⟩ := HX2.out
    obtain ⟨s_0, s_1, _⟩ := HS2.out
    go_wp2_with fail
    refine (HNA.out _).mono ?_
    rintro e w3 ⟨rfl, hb3⟩
    have HX3 := Lib.hid (HX2.out.below hb3)
    have HS3 := Lib.hid (HS2.out.below hb3)
    have HL3 := Lib.hid (HL2.out.below hb3)
    have HB3 := Lib.hid (bstep HB2.out hb3)
    clear x_0 x_1 x_2 x_3 x_4 x_5 x_6 s_0 s_1
    clear hb3
    obtain ⟨x_0, x_1, x_2, x_3, x_4, x_5, x_6, _⟩ := HX3.out
    obtain ⟨s_0, s_1, _⟩ := HS3.out
    rw [HZ.out]
    go_wp2_with fail
    go_ret
    exact ⟨by rw [HD.out]; simp, HB3.out⟩
  · rcases (show (issOf s == i) = true ∨ (issOf s == i) = false by cases (issOf s == i) <;> simp) with hi | hi
    · have HZ := Lib.hid hz
      rw [hz, hi] at HD
      clear hz
      go_enter Try.func69, Try.ntmps69
      go_upto_region 1 with fail
      generalize (w.alloc (.cells #[.int .i64 g.number, .slice A g.accs.length c, .slice B g.lines.length c2, .slice C g.offers.length c3, .int .i64 g.next, .int .i64 g.fees, .int .u64 g.link] 30)).alloc (.cells #[.string (codeOf s), .int .i64 (issOf s)] 49) = W0 at *
      obtain ⟨x_0, x_1, x_2, x_3, x_4, x_5, x_6, _⟩ := HX0.out
      obtain ⟨s_0, s_1, _⟩ := HS0.out
      go_wp2_with fail
      refine (HFL.out _ HL0.out).mono ?_
      rintro e w1 ⟨rfl, hb1⟩
      have HX1 := Lib.hid (HX0.out.below hb1)
      have HS1 := Lib.hid (HS0.out.below hb1)
      have HL1 := Lib.hid (HL0.out.below hb1)
      have HB1 := Lib.hid (bstep HB0.out hb1)
      clear x_0 x_1 x_2 x_3 x_4 x_5 x_6 s_0 s_1
      clear hb1
      rw [HY.out]
      have HX2 := Lib.hid (HX1.out.alloc (.cells #[.int .i64 y0, .string y1, .int .i64 y2, .int .i64 LB, .int .i64 y4] 51))
      have HS2 := Lib.hid (HS1.out.alloc (.cells #[.int .i64 y0, .string y1, .int .i64 y2, .int .i64 LB, .int .i64 y4] 51))
      have HL2 := Lib.hid (HL1.out.alloc (.cells #[.int .i64 y0, .string y1, .int .i64 y2, .int .i64 LB, .int .i64 y4] 51))
      have HB2 := Lib.hid (balloc HB1.out (.cells #[.int .i64 y0, .string y1, .int .i64 y2, .int .i64 LB, .int .i64 y4] 51))
      go_upto_region 2 with fail
      generalize w1.alloc (.cells #[.int .i64 y0, .string y1, .int .i64 y2, .int .i64 LB, .int .i64 y4] 51) = W2 at *
      obtain ⟨x_0, x_1, x_2, x_3, x_4, x_5, x_6, _⟩ := HX2.out
      obtain ⟨s_0, s_1, _⟩ := HS2.out
      go_wp2_with fail
      refine (HNA.out _).mono ?_
      rintro e w3 ⟨rfl, hb3⟩
      have HX3 := Lib.hid (HX2.out.below hb3)
      have HS3 := Lib.hid (HS2.out.below hb3)
      have HL3 := Lib.hid (HL2.out.below hb3)
      have HB3 := Lib.hid (bstep HB2.out hb3)
      clear x_0 x_1 x_2 x_3 x_4 x_5 x_6 s_0 s_1
      clear hb3
      obtain ⟨x_0, x_1, x_2, x_3, x_4, x_5, x_6, _⟩ := HX3.out
      obtain ⟨s_0, s_1, _⟩ := HS3.out
      rw [HZ.out]
      go_wp2_with fail
      go_ret
      exact ⟨by rw [HD.out]; simp, HB3.out⟩
    · have HZ := Lib.hid hz
      rw [hz, hi] at HD
      clear hz
      go_enter Try.func69, Try.ntmps69
      go_upto_region 1 with fail
      generalize (w.alloc (.cells #[.int .i64 g.number, .slice A g.accs.length c, .slice B g.lines.length c2, .slice C g.offers.length c3, .int .i64 g.next, .int .i64 g.fees, .int .u64 g.link] 30)).alloc (.cells #[.string (codeOf s), .int .i64 (issOf s)] 49) = W0 at *
      obtain ⟨x_0, x_1, x_2, x_3, x_4, x_5, x_6, _⟩ := HX0.out
      obtain ⟨s_0, s_1, _⟩ := HS0.out
      go_wp2_with fail
      refine (HFL.out _ HL0.out).mono ?_
      rintro e w1 ⟨rfl, hb1⟩
      have HX1 := Lib.hid (HX0.out.below hb1)
      have HS1 := Lib.hid (HS0.out.below hb1)
      have HL1 := Lib.hid (HL0.out.below hb1)
      have HB1 := Lib.hid (bstep HB0.out hb1)
      clear x_0 x_1 x_2 x_3 x_4 x_5 x_6 s_0 s_1
      clear hb1
      rw [HY.out]
      have HX2 := Lib.hid (HX1.out.alloc (.cells #[.int .i64 y0, .string y1, .int .i64 y2, .int .i64 LB, .int .i64 y4] 51))
      have HS2 := Lib.hid (HS1.out.alloc (.cells #[.int .i64 y0, .string y1, .int .i64 y2, .int .i64 LB, .int .i64 y4] 51))
      have HL2 := Lib.hid (HL1.out.alloc (.cells #[.int .i64 y0, .string y1, .int .i64 y2, .int .i64 LB, .int .i64 y4] 51))
      have HB2 := Lib.hid (balloc HB1.out (.cells #[.int .i64 y0, .string y1, .int .i64 y2, .int .i64 LB, .int .i64 y4] 51))
      go_upto_region 2 with fail
      generalize w1.alloc (.cells #[.int .i64 y0, .string y1, .int .i64 y2, .int .i64 LB, .int .i64 y4] 51) = W2 at *
      obtain ⟨x_0, x_1, x_2, x_3, x_4, x_5, x_6, _⟩ := HX2.out
      obtain ⟨s_0, s_1, _⟩ := HS2.out
      go_wp2_with fail
      refine (HNA.out _).mono ?_
      rintro e w3 ⟨rfl, hb3⟩
      have HX3 := Lib.hid (HX2.out.below hb3)
      have HS3 := Lib.hid (HS2.out.below hb3)
      have HL3 := Lib.hid (HL2.out.below hb3)
      have HB3 := Lib.hid (bstep HB2.out hb3)
      clear x_0 x_1 x_2 x_3 x_4 x_5 x_6 s_0 s_1
      clear hb3
      obtain ⟨x_0, x_1, x_2, x_3, x_4, x_5, x_6, _⟩ := HX3.out
      obtain ⟨s_0, s_1, _⟩ := HS3.out
      rw [HZ.out]
      go_wp2_with fail
      go_ret
      exact ⟨by rw [HD.out]; simp, HB3.out⟩

end Go.Proofs.Ytfmdnhhdjjndbaa
