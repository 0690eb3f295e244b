/- Package trustlines: state, Held, Room. -/
import Derived.Test.YtfmdnhhdjjndbaaT37c
import Derived.Test.YtfmdnhhdjjndbaaL38b
namespace Go.Proofs.Ytfmdnhhdjjndbaa
set_option linter.unusedVariables false
set_option linter.unusedSimpArgs false
open Go.RowKit

/-- What trustlines ask of a ledger. -/
structure LedW (g : Led) : Prop where
  accs : AccsOk g.accs
  lines : LinesOk g.accs g.lines
  olen : g.offers.length ≤ 40

theorem LedOk.w {g : Led} (h : LedOk g) : LedW g := ⟨h.accs, h.lines, h.olen⟩

def roomG (g : Led) (i : Int) (s : Nat) : Int := if hasA i g.accs = false then 0 else if s = 0 then 1000000000000 - (getA i g.accs).bal else if issOf s = i then 1000000000000 else (getL i s g.lines).lim - (getL i s g.lines).bal

theorem valL_form2 (l : Lin) : ∃ (x0 : Int) (x1 : ByteArray) (x2 : Int), valL l = .agg #[.int .i64 x0, .string x1, .int .i64 x2, .int .i64 l.bal, .int .i64 l.lim] := ⟨_, _, _, rfl⟩

theorem getA_bd {L : List Acc} (h : AccsOk L) (i : Int) : 0 ≤ (getA i L).bal ∧ (getA i L).bal ≤ 1000000000000 := by
  unfold getA
  rcases hq : L[findA i L]? with _ | a
  · exact ⟨by simp, by simp⟩
  · exact ⟨(h.each _ a hq).b0, (h.each _ a hq).b1⟩

theorem getL_bd {accs : List Acc} {L : List Lin} (h : LinesOk accs L) (i : Int) (s : Nat) : 0 ≤ (getL i s L).bal ∧ (getL i s L).bal ≤ (getL i s L).lim ∧ (getL i s L).lim ≤ 1000000000000 := by
  unfold getL
  rcases hq : L[findL i s L]? with _ | a
  · exact ⟨by simp, by simp, by simp⟩
  · exact ⟨(h.each _ a hq).b0, (h.each _ a hq).b1, (h.each _ a hq).m1⟩

set_option maxRecDepth 100000 in
set_option maxHeartbeats 8000000 in
theorem state_run (P : Nat → Prop) (g : Led) (i : Int) (s : Nat) (va vl vo : Value) (w : World) (hs : s ≤ 2) (hok : LedW g) (h : LedAt P w va vl vo g) :
    Calls Try.prog 51 #[valG g va vl vo, .int .i64 i, valS s] w fun e w' => e = .returned (.tuple #[.int .i64 (heldG g i s), .int .i64 (roomG g i s)]) ∧ Below w.heap.size w w' := by
  have HAL := Lib.hid (show g.accs.length ≤ 1000 by have := hok.accs.len; omega)
  have HLL := Lib.hid (show g.lines.length ≤ 1000 by have := hok.lines.len; omega)
  unfold valG
  obtain ⟨A, c, B, c2, C, c3, rfl, rfl, rfl, hc, hm, hc2, hm2, hc3, hm3⟩ := h.form
  have hba := balloc (bref w) (.cells #[.int .i64 g.number, .slice A g.accs.length c, .slice B g.lines.length c2, .slice C g.offers.length c3, .int .i64 g.next, .int .i64 g.fees, .int .u64 g.link] 30)
  have hbb := balloc hba (.cells #[.string (codeOf s), .int .i64 (issOf s)] 49)
  have HX0 := Lib.hid ((box7 w 30 (.int .i64 g.number) (.slice A g.accs.length c) (.slice B g.lines.length c2) (.slice C g.offers.length c3) (.int .i64 g.next) (.int .i64 g.fees) (.int .u64 g.link)).alloc (.cells #[.string (codeOf s), .int .i64 (issOf s)] 49))
  have hbx := box2 (w.alloc (.cells #[.int .i64 g.number, .slice A g.accs.length c, .slice B g.lines.length c2, .slice C g.offers.length c3, .int .i64 g.next, .int .i64 g.fees, .int .u64 g.link] 30)) 49 (.string (codeOf s)) (.int .i64 (issOf s))
  rw [alloc_szS] at hbx
  have HS0 := Lib.hid hbx
  have HL0 := Lib.hid (h.below hbb)
  have HB0 := Lib.hid hbb
  clear h hba hbb hbx
  have HF := Lib.hid (fun W (hW : LedAt P W (.slice A g.accs.length c) (.slice B g.lines.length c2) (.slice C g.offers.length c3) g) => afind_run P g.accs i _ W HAL.out hW.a)
  have HCK := Lib.hid (fun W (hW : LedAt P W (.slice A g.accs.length c) (.slice B g.lines.length c2) (.slice C g.offers.length c3) g) => tcheck_run P P g.accs g.lines _ _ W hok.accs hok.lines hW.l hW.a)
  have HAS := Lib.hid (fun W => tasset_run s W hs)
  have HNA := Lib.hid (fun W => tnative_run s W hs)
  have HFL := Lib.hid (fun W (hW : LedAt P W (.slice A g.accs.length c) (.slice B g.lines.length c2) (.slice C g.offers.length c3) g) => tfind_run P g.lines i s _ W hs hok.lines.ast HLL.out hW.l)
  unfold valS at *
  obtain ⟨x0, x2, hx⟩ := valA_form (getA i g.accs)
  have HXV := Lib.hid hx
  have hbd := getA_bd hok.accs i
  have HLB := Lib.hid (getL_bd hok.lines i s)
  obtain ⟨BL, hBL⟩ : ∃ b, (getA i g.accs).bal = b := ⟨_, rfl⟩
  rw [hBL] at HXV hbd
  have HBL := Lib.hid hBL
  clear hx hBL
  rcases (show hasA i g.accs = false ∨ hasA i g.accs = true by cases hasA i g.accs <;> simp) with hh | hh
  · have HH := Lib.hid hh
    have HR := Lib.hid (show (Value.tuple #[.int .i64 (heldG g i s), .int .i64 (roomG g i s)]) = .tuple #[.int .i64 (0), .int .i64 (0)] by unfold heldG roomG; rw [if_pos hh, if_pos hh])
    clear hh
    go_enter Try.func51, Try.ntmps51
    go_upto_region 1 with fail
    generalize (w.alloc (.cells #[.int .i64 g.number, .slice A g.accs.length c, .slice B g.lines.length c2, .slice C g.offers.length c3, .int .i64 g.next, .int .i64 g.fees, .int .u64 g.link] 30)).alloc (.cells #[.string (codeOf s), .int .i64 (issOf s)] 49) = W0 at *
    obtain ⟨x_0, x_1, x_2, x_3, x_4, x_5, x_6, _⟩ := HX0.out
    obtain ⟨s_0, s_1, _⟩ := HS0.out
    go_wp2_with fail
    refine (HF.out _ HL0.out).mono ?_
    rintro e w1 ⟨rfl, hb1⟩
    have HX1 := Lib.hid (HX0.out.below hb1)
    have HS1 := Lib.hid (HS0.out.below hb1)
    have HL1 := Lib.hid (HL0.out.below hb1)
    have HB1 := Lib.hid (bstep HB0.out hb1)
    clear x_0 x_1 x_2 x_3 x_4 x_5 x_6 s_0 s_1
    clear hb1
    rw [HXV.out, HH.out]
    have HAB1 := Lib.hid (box3 w1 34 (.int .i64 x0) (.int .i64 BL) (.int .i64 x2))
    have HX2 := Lib.hid (HX1.out.alloc (.cells #[.int .i64 x0, .int .i64 BL, .int .i64 x2] 34))
    have HS2 := Lib.hid (HS1.out.alloc (.cells #[.int .i64 x0, .int .i64 BL, .int .i64 x2] 34))
    have HL2 := Lib.hid (HL1.out.alloc (.cells #[.int .i64 x0, .int .i64 BL, .int .i64 x2] 34))
    have HB2 := Lib.hid (balloc HB1.out (.cells #[.int .i64 x0, .int .i64 BL, .int .i64 x2] 34))
    go_upto_region 2 with fail
    generalize w1.alloc (.cells #[.int .i64 x0, .int .i64 BL, .int .i64 x2] 34) = W2 at *
    have HA2 := HAB1
    obtain ⟨x_0, x_1, x_2, x_3, x_4, x_5, x_6, _⟩ := HX2.out
    obtain ⟨s_0, s_1, _⟩ := HS2.out
    obtain ⟨a_0, a_1, a_2, _⟩ := HA2.out
    go_wp2_with fail
    go_ret2
    exact ⟨by rw [HR.out]; rfl, HB2.out⟩
  · rcases Nat.eq_zero_or_pos s with hs0 | hs0
    · have HH := Lib.hid hh
      have HZ := Lib.hid (show (s == 0) = true by simpa using hs0)
      have HR := Lib.hid (show (Value.tuple #[.int .i64 (heldG g i s), .int .i64 (roomG g i s)]) = .tuple #[.int .i64 (BL), .int .i64 (1000000000000 - BL)] by unfold heldG roomG; simp [hh, hs0, HBL.out])
      clear hs0
      clear hh
      go_enter Try.func51, Try.ntmps51
      go_upto_region 1 with fail
      generalize (w.alloc (.cells #[.int .i64 g.number, .slice A g.accs.length c, .slice B g.lines.length c2, .slice C g.offers.length c3, .int .i64 g.next, .int .i64 g.fees, .int .u64 g.link] 30)).alloc (.cells #[.string (codeOf s), .int .i64 (issOf s)] 49) = W0 at *
      obtain ⟨x_0, x_1, x_2, x_3, x_4, x_5, x_6, _⟩ := HX0.out
      obtain ⟨s_0, s_1, _⟩ := HS0.out
      go_wp2_with fail
      refine (HF.out _ HL0.out).mono ?_
      rintro e w1 ⟨rfl, hb1⟩
      have HX1 := Lib.hid (HX0.out.below hb1)
      have HS1 := Lib.hid (HS0.out.below hb1)
      have HL1 := Lib.hid (HL0.out.below hb1)
      have HB1 := Lib.hid (bstep HB0.out hb1)
      clear x_0 x_1 x_2 x_3 x_4 x_5 x_6 s_0 s_1
      clear hb1
      rw [HXV.out, HH.out]
      have HAB1 := Lib.hid (box3 w1 34 (.int .i64 x0) (.int .i64 BL) (.int .i64 x2))
      have HX2 := Lib.hid (HX1.out.alloc (.cells #[.int .i64 x0, .int .i64 BL, .int .i64 x2] 34))
      have HS2 := Lib.hid (HS1.out.alloc (.cells #[.int .i64 x0, .int .i64 BL, .int .i64 x2] 34))
      have HL2 := Lib.hid (HL1.out.alloc (.cells #[.int .i64 x0, .int .i64 BL, .int .i64 x2] 34))
      have HB2 := Lib.hid (balloc HB1.out (.cells #[.int .i64 x0, .int .i64 BL, .int .i64 x2] 34))
      go_upto_region 2 with fail
      generalize w1.alloc (.cells #[.int .i64 x0, .int .i64 BL, .int .i64 x2] 34) = W2 at *
      have HA2 := HAB1
      obtain ⟨x_0, x_1, x_2, x_3, x_4, x_5, x_6, _⟩ := HX2.out
      obtain ⟨s_0, s_1, _⟩ := HS2.out
      obtain ⟨a_0, a_1, a_2, _⟩ := HA2.out
      go_wp2_with fail
      refine (HAS.out _).mono ?_
      rintro e w3 ⟨rfl, hb3⟩
      have HX3 := Lib.hid (HX2.out.below hb3)
      have HS3 := Lib.hid (HS2.out.below hb3)
      have HL3 := Lib.hid (HL2.out.below hb3)
      have HB3 := Lib.hid (bstep HB2.out hb3)
      have HA3 := Lib.hid (HA2.out.below hb3)
      clear x_0 x_1 x_2 x_3 x_4 x_5 x_6 s_0 s_1 a_0 a_1 a_2
      clear hb3
      obtain ⟨x_0, x_1, x_2, x_3, x_4, x_5, x_6, _⟩ := HX3.out
      obtain ⟨s_0, s_1, _⟩ := HS3.out
      obtain ⟨a_0, a_1, a_2, _⟩ := HA3.out
      go_wp2_with fail
      refine (HCK.out _ HL3.out).mono ?_
      rintro e w4 ⟨rfl, hb4⟩
      have HX4 := Lib.hid (HX3.out.below hb4)
      have HS4 := Lib.hid (HS3.out.below hb4)
      have HL4 := Lib.hid (HL3.out.below hb4)
      have HB4 := Lib.hid (bstep HB3.out hb4)
      have HA4 := Lib.hid (HA3.out.below hb4)
      clear x_0 x_1 x_2 x_3 x_4 x_5 x_6 s_0 s_1 a_0 a_1 a_2
      clear hb4
      obtain ⟨x_0, x_1, x_2, x_3, x_4, x_5, x_6, _⟩ := HX4.out
      obtain ⟨s_0, s_1, _⟩ := HS4.out
      obtain ⟨a_0, a_1, a_2, _⟩ := HA4.out
      go_wp2_with fail
      refine (HNA.out _).mono ?_
      rintro e w5 ⟨rfl, hb5⟩
      have HX5 := Lib.hid (HX4.out.below hb5)
      have HS5 := Lib.hid (HS4.out.below hb5)
      have HL5 := Lib.hid (HL4.out.below hb5)
      have HB5 := Lib.hid (bstep HB4.out hb5)
      have HA5 := Lib.hid (HA4.out.below hb5)
      clear x_0 x_1 x_2 x_3 x_4 x_5 x_6 s_0 s_1 a_0 a_1 a_2
      clear hb5
      obtain ⟨x_0, x_1, x_2, x_3, x_4, x_5, x_6, _⟩ := HX5.out
      obtain ⟨s_0, s_1, _⟩ := HS5.out
      obtain ⟨a_0, a_1, a_2, _⟩ := HA5.out
      rw [HZ.out]
      go_wp2_with fail
      go_quiet (fail)
      go_wp2_with fail
      go_ret2
      exact ⟨by rw [HR.out]; rfl, by first | exact bdrewN HB5.out _ | exact bdrew HB5.out⟩
    · rcases Decidable.em (issOf s = i) with hi0 | hi0
      · have HH := Lib.hid hh
        have HZ := Lib.hid (show (s == 0) = false by simp; omega)
        have HR := Lib.hid (show (Value.tuple #[.int .i64 (heldG g i s), .int .i64 (roomG g i s)]) = .tuple #[.int .i64 (1000000000000), .int .i64 (1000000000000)] by unfold heldG roomG; simp [hh, show s ≠ 0 by omega, hi0])
        have q3 : (issOf s == i) = true := by simpa using hi0
        clear hs0 hi0
        clear hh
        go_enter Try.func51, Try.ntmps51
        go_upto_region 1 with fail
        generalize (w.alloc (.cells #[.int .i64 g.number, .slice A g.accs.length c, .slice B g.lines.length c2, .slice C g.offers.length c3, .int .i64 g.next, .int .i64 g.fees, .int .u64 g.link] 30)).alloc (.cells #[.string (codeOf s), .int .i64 (issOf s)] 49) = W0 at *
        obtain ⟨x_0, x_1, x_2, x_3, x_4, x_5, x_6, _⟩ := HX0.out
        obtain ⟨s_0, s_1, _⟩ := HS0.out
        go_wp2_with fail
        refine (HF.out _ HL0.out).mono ?_
        rintro e w1 ⟨rfl, hb1⟩
        have HX1 := Lib.hid (HX0.out.below hb1)
        have HS1 := Lib.hid (HS0.out.below hb1)
        have HL1 := Lib.hid (HL0.out.below hb1)
        have HB1 := Lib.hid (bstep HB0.out hb1)
        clear x_0 x_1 x_2 x_3 x_4 x_5 x_6 s_0 s_1
        clear hb1
        rw [HXV.out, HH.out]
        have HAB1 := Lib.hid (box3 w1 34 (.int .i64 x0) (.int .i64 BL) (.int .i64 x2))
        have HX2 := Lib.hid (HX1.out.alloc (.cells #[.int .i64 x0, .int .i64 BL, .int .i64 x2] 34))
        have HS2 := Lib.hid (HS1.out.alloc (.cells #[.int .i64 x0, .int .i64 BL, .int .i64 x2] 34))
        have HL2 := Lib.hid (HL1.out.alloc (.cells #[.int .i64 x0, .int .i64 BL, .int .i64 x2] 34))
        have HB2 := Lib.hid (balloc HB1.out (.cells #[.int .i64 x0, .int .i64 BL, .int .i64 x2] 34))
        go_upto_region 2 with fail
        generalize w1.alloc (.cells #[.int .i64 x0, .int .i64 BL, .int .i64 x2] 34) = W2 at *
        have HA2 := HAB1
        obtain ⟨x_0, x_1, x_2, x_3, x_4, x_5, x_6, _⟩ := HX2.out
        obtain ⟨s_0, s_1, _⟩ := HS2.out
        obtain ⟨a_0, a_1, a_2, _⟩ := HA2.out
        go_wp2_with fail
        refine (HAS.out _).mono ?_
        rintro e w3 ⟨rfl, hb3⟩
        have HX3 := Lib.hid (HX2.out.below hb3)
        have HS3 := Lib.hid (HS2.out.below hb3)
        have HL3 := Lib.hid (HL2.out.below hb3)
        have HB3 := Lib.hid (bstep HB2.out hb3)
        have HA3 := Lib.hid (HA2.out.below hb3)
        clear x_0 x_1 x_2 x_3 x_4 x_5 x_6 s_0 s_1 a_0 a_1 a_2
        clear hb3
        obtain ⟨x_0, x_1, x_2, x_3, x_4, x_5, x_6, _⟩ := HX3.out
        obtain ⟨s_0, s_1, _⟩ := HS3.out
        obtain ⟨a_0, a_1, a_2, _⟩ := HA3.out
        go_wp2_with fail
        refine (HCK.out _ HL3.out).mono ?_
        rintro e w4 ⟨rfl, hb4⟩
        have HX4 := Lib.hid (HX3.out.below hb4)
        have HS4 := Lib.hid (HS3.out.below hb4)
        have HL4 := Lib.hid (HL3.out.below hb4)
        have HB4 := Lib.hid (bstep HB3.out hb4)
        have HA4 := Lib.hid (HA3.out.below hb4)
        clear x_0 x_1 x_2 x_3 x_4 x_5 x_6 s_0 s_1 a_0 a_1 a_2
        clear hb4
        obtain ⟨x_0, x_1, x_2, x_3, x_4, x_5, x_6, _⟩ := HX4.out
        obtain ⟨s_0, s_1, _⟩ := HS4.out
        obtain ⟨a_0, a_1, a_2, _⟩ := HA4.out
        go_wp2_with fail
        refine (HNA.out _).mono ?_
        rintro e w5 ⟨rfl, hb5⟩
        have HX5 := Lib.hid (HX4.out.below hb5)
        have HS5 := Lib.hid (HS4.out.below hb5)
        have HL5 := Lib.hid (HL4.out.below hb5)
        have HB5 := Lib.hid (bstep HB4.out hb5)
        have HA5 := Lib.hid (HA4.out.below hb5)
        clear x_0 x_1 x_2 x_3 x_4 x_5 x_6 s_0 s_1 a_0 a_1 a_2
        clear hb5
        obtain ⟨x_0, x_1, x_2, x_3, x_4, x_5, x_6, _⟩ := HX5.out
        obtain ⟨s_0, s_1, _⟩ := HS5.out
        obtain ⟨a_0, a_1, a_2, _⟩ := HA5.out
        rw [HZ.out]
        go_wp2_with fail
        go_ret2
        exact ⟨by rw [HR.out]; rfl, HB5.out⟩
      · have HH := Lib.hid hh
        have HZ := Lib.hid (show (s == 0) = false by simp; omega)
        have HR := Lib.hid (show (Value.tuple #[.int .i64 (heldG g i s), .int .i64 (roomG g i s)]) = .tuple #[.int .i64 ((getL i s g.lines).bal), .int .i64 ((getL i s g.lines).lim - (getL i s g.lines).bal)] by unfold heldG roomG; simp [hh, show s ≠ 0 by omega, hi0])
        have q3 : (issOf s == i) = false := by simpa using hi0
        clear hs0 hi0
        obtain ⟨y0, y1, y2, hy⟩ := valL_form2 (getL i s g.lines)
        have hlb := HLB.out
        obtain ⟨LB, hLB⟩ : ∃ b, (getL i s g.lines).bal = b := ⟨_, rfl⟩
        obtain ⟨LM, hLM⟩ : ∃ b, (getL i s g.lines).lim = b := ⟨_, rfl⟩
        rw [hLB, hLM] at hy hlb HR
        have HY := Lib.hid hy
        clear hy hLB hLM
        clear hh
        go_enter Try.func51, Try.ntmps51
        go_upto_region 1 with fail
        generalize (w.alloc (.cells #[.int .i64 g.number, .slice A g.accs.length c, .slice B g.lines.length c2, .slice C g.offers.length c3, .int .i64 g.next, .int .i64 g.fees, .int .u64 g.link] 30)).alloc (.cells #[.string (codeOf s), .int .i64 (issOf s)] 49) = W0 at *
        obtain ⟨x_0, x_1, x_2, x_3, x_4, x_5, x_6, _⟩ := HX0.out
        obtain ⟨s_0, s_1, _⟩ := HS0.out
        go_wp2_with fail
        refine (HF.out _ HL0.out).mono ?_
        rintro e w1 ⟨rfl, hb1⟩
        have HX1 := Lib.hid (HX0.out.below hb1)
        have HS1 := Lib.hid (HS0.out.below hb1)
        have HL1 := Lib.hid (HL0.out.below hb1)
        have HB1 := Lib.hid (bstep HB0.out hb1)
        clear x_0 x_1 x_2 x_3 x_4 x_5 x_6 s_0 s_1
        clear hb1
        rw [HXV.out, HH.out]
        have HAB1 := Lib.hid (box3 w1 34 (.int .i64 x0) (.int .i64 BL) (.int .i64 x2))
        have HX2 := Lib.hid (HX1.out.alloc (.cells #[.int .i64 x0, .int .i64 BL, .int .i64 x2] 34))
        have HS2 := Lib.hid (HS1.out.alloc (.cells #[.int .i64 x0, .int .i64 BL, .int .i64 x2] 34))
        have HL2 := Lib.hid (HL1.out.alloc (.cells #[.int .i64 x0, .int .i64 BL, .int .i64 x2] 34))
        have HB2 := Lib.hid (balloc HB1.out (.cells #[.int .i64 x0, .int .i64 BL, .int .i64 x2] 34))
        go_upto_region 2 with fail
        generalize w1.alloc (.cells #[.int .i64 x0, .int .i64 BL, .int .i64 x2] 34) = W2 at *
        have HA2 := HAB1
        obtain ⟨x_0, x_1, x_2, x_3, x_4, x_5, x_6, _⟩ := HX2.out
        obtain ⟨s_0, s_1, _⟩ := HS2.out
        obtain ⟨a_0, a_1, a_2, _⟩ := HA2.out
        go_wp2_with fail
        refine (HAS.out _).mono ?_
        rintro e w3 ⟨rfl, hb3⟩
        have HX3 := Lib.hid (HX2.out.below hb3)
        have HS3 := Lib.hid (HS2.out.below hb3)
        have HL3 := Lib.hid (HL2.out.below hb3)
        have HB3 := Lib.hid (bstep HB2.out hb3)
        have HA3 := Lib.hid (HA2.out.below hb3)
        clear x_0 x_1 x_2 x_3 x_4 x_5 x_6 s_0 s_1 a_0 a_1 a_2
        clear hb3
        obtain ⟨x_0, x_1, x_2, x_3, x_4, x_5, x_6, _⟩ := HX3.out
        obtain ⟨s_0, s_1, _⟩ := HS3.out
        obtain ⟨a_0, a_1, a_2, _⟩ := HA3.out
        go_wp2_with fail
        refine (HCK.out _ HL3.out).mono ?_
        rintro e w4 ⟨rfl, hb4⟩
        have HX4 := Lib.hid (HX3.out.below hb4)
        have HS4 := Lib.hid (HS3.out.below hb4)
        have HL4 := Lib.hid (HL3.out.below hb4)
        have HB4 := Lib.hid (bstep HB3.out hb4)
        have HA4 := Lib.hid (HA3.out.below hb4)
        clear x_0 x_1 x_2 x_3 x_4 x_5 x_6 s_0 s_1 a_0 a_1 a_2
        clear hb4
        obtain ⟨x_0, x_1, x_2, x_3, x_4, x_5, x_6, _⟩ := HX4.out
        obtain ⟨s_0, s_1, _⟩ := HS4.out
        obtain ⟨a_0, a_1, a_2, _⟩ := HA4.out
        go_wp2_with fail
        refine (HNA.out _).mono ?_
        rintro e w5 ⟨rfl, hb5⟩
        have HX5 := Lib.hid (HX4.out.below hb5)
        have HS5 := Lib.hid (HS4.out.below hb5)
        have HL5 := Lib.hid (HL4.out.below hb5)
        have HB5 := Lib.hid (bstep HB4.out hb5)
        have HA5 := Lib.hid (HA4.out.below hb5)
        clear x_0 x_1 x_2 x_3 x_4 x_5 x_6 s_0 s_1 a_0 a_1 a_2
        clear hb5
        obtain ⟨x_0, x_1, x_2, x_3, x_4, x_5, x_6, _⟩ := HX5.out
        obtain ⟨s_0, s_1, _⟩ := HS5.out
        obtain ⟨a_0, a_1, a_2, _⟩ := HA5.out
        rw [HZ.out]
        go_wp2_with fail
        refine (HFL.out _ HL5.out).mono ?_
        rintro e w6 ⟨rfl, hb6⟩
        have HX6 := Lib.hid (HX5.out.below hb6)
        have HS6 := Lib.hid (HS5.out.below hb6)
        have HL6 := Lib.hid (HL5.out.below hb6)
        have HB6 := Lib.hid (bstep HB5.out hb6)
        have HA6 := Lib.hid (HA5.out.below hb6)
        clear x_0 x_1 x_2 x_3 x_4 x_5 x_6 s_0 s_1 a_0 a_1 a_2
        clear hb6
        rw [HY.out]
        have HZB := Lib.hid (box5 w6 51 (.int .i64 y0) (.string y1) (.int .i64 y2) (.int .i64 LB) (.int .i64 LM))
        have HB7 := Lib.hid (balloc HB6.out (.cells #[.int .i64 y0, .string y1, .int .i64 y2, .int .i64 LB, .int .i64 LM] 51))
        go_upto_region 9 with fail
        generalize w6.alloc (.cells #[.int .i64 y0, .string y1, .int .i64 y2, .int .i64 LB, .int .i64 LM] 51) = W7 at *
        obtain ⟨z0, z1, z2, z3, z4, _⟩ := HZB.out
        go_quiet (fail)
        go_wp2_with fail
        go_ret2
        exact ⟨by rw [HR.out]; rfl, by first | exact bdrewN HB7.out _ | exact bdrew HB7.out⟩

end Go.Proofs.Ytfmdnhhdjjndbaa
