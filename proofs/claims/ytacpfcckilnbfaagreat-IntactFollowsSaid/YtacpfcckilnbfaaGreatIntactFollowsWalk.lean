/- The walk of IntactFollows: the cascade theorem. -/
import Derived.Test.YtacpfcckilnbfaaGreatB6
import Derived.Test.YtacpfcckilnbfaaGreatAwake15
import Derived.Test.YtacpfcckilnbfaaGreatIntLink
import Derived.Test.YtacpfcckilnbfaaGreatMkSet3
import Derived.Test.YtacpfcckilnbfaaGreatPMadeK
import Derived.Test.YtacpfcckilnbfaaGreatFollows
import Derived.Test.YtacpfcckilnbfaaGreatFolMath
namespace Go.Proofs.YtacpfcckilnbfaaGreat
set_option linter.unusedVariables false
set_option linter.unusedSimpArgs false
open Go.RowKit

set_option maxRecDepth 100000 in
set_option maxHeartbeats 8000000 in
theorem walkIntactFollows (a0 : Option Addr) (len0 cap0 : Nat) (z0 : List Int) (w : World) (w0 : IsRow .i64 w a0 len0 cap0 z0) :
    Calls Tryz.prog 10 #[.slice a0 len0 cap0] w fun e w' => e = .returned (.bool true) ∧ Below w.heap.size w w' := by
  have HR := Lib.hid w0
  clear w0
  go_enter Tryz.func10, Tryz.ntmps10
  go_wp2_with fail
  refine (TNew_run _ _ _ _ _ HR.out).mono ?_
  rintro e v0 ⟨rfl, hs0, hb0⟩
  have HS0 := Lib.hid hs0
  have HB0 := Lib.hid hb0
  have hsl := hs0.lt
  clear hs0 hb0 HR
  go_wp2_with fail
  refine (mkPair_run _ 6 (by omega) (by omega) _ HS0.out).mono ?_
  rintro e v2 ⟨vl, vh, ls, hs, rfl, hpm, hln, hML, hMH, hs2, hg2⟩
  obtain ⟨Al, cl, rfl⟩ := hML.slice
  obtain ⟨Ah, ch, rfl⟩ := hMH.slice
  have hlen := hpm.len
  obtain ⟨L, hL⟩ : ∃ L, ls.length = L := ⟨_, rfl⟩
  rw [hlen] at hMH ⊢
  rw [hL] at hML hMH hln ⊢
  have HM := Lib.hid (show PMade w v2.heap.size (.slice Al L cl) (.slice Ah L ch) ls hs ((v2.alloc (.cells #[.slice Al L cl] 27)).alloc (.cells #[.slice Ah L ch] 27)) from
    (show PMade w v2.heap.size (.slice Al L cl) (.slice Ah L ch) ls hs _ from ⟨(hs2.alloc _).alloc _, alloc_on (alloc_at rfl), alloc_at (alloc_sz _ _),
      (hML.both (w' := v2) (Q := fun b => w.heap.size < b) (fun _ _ _ => rfl) (fun k _ hk => by have : v0.heap.size ≤ k := hk; omega)).below (balloc (balloc (bref v2) _) _),
      (hMH.both (w' := v2) (Q := fun b => w.heap.size < b) (fun _ _ _ => rfl) (fun k _ hk => by have : v0.heap.size ≤ k := hk; omega)).below (balloc (balloc (bref v2) _) _), hs2.lt, bstep (bgrownC HB0.out hg2 (Nat.le_refl _)) (balloc (balloc (bref v2) _) _)⟩))
  have HP := Lib.hid hpm
  have HL := Lib.hid hL
  have HLH := Lib.hid (hlen.trans hL)
  have h1L : 1 ≤ L := by rw [← hL]; exact hpm.one
  have hp2 : 2 ^ L ≤ 2 ^ 6 := Nat.pow_le_pow_right (by omega) hln
  have hp1 : 1 ≤ 2 ^ L := Nat.one_le_two_pow
  have hpw := pow11 L (by omega)
  have hn64 : (L : Int) < 64 := by omega
  have hn0 : (0 : Int) ≤ (L : Int) := by omega
  obtain ⟨M, hM⟩ : ∃ M, 2 ^ L - 1 = M := ⟨_, rfl⟩
  have HMM := Lib.hid hM
  obtain ⟨N, hN⟩ : ∃ N, 2 ^ L = N := ⟨_, rfl⟩
  have HNN := Lib.hid hN
  rw [hN] at hp2 hp1 hpw hM
  have HMN := Lib.hid (show M + 1 = N by omega)
  have hM64 : M < 64 := by omega
  clear hN hM
  clear hML hMH hs2 hg2 HS0 HB0 hlen hpm hL
  go_upto_region 3 with fail
  generalize ((v2.alloc (.cells #[.slice Al L cl] 27)).alloc (.cells #[.slice Ah L ch] 27)) = W1 at *
  generalize v2.heap.size = g at *
  have HM0 := HM
  have c0 := HM.out.cl
  go_upto_region 4 with fail
  rw [show (N : Int) - 1 = (M : Int) by have := HMN.out; omega]
  have HPW := Lib.hid (fun k (h : k ≤ 11) => pow11 k h)
  clear c0 hpw HM
  have c0 := HM0.out.cl
  have c1 := HM0.out.ch
  go_wp2_with fail
  refine (D3.mkSetN_run _ ls _ _ (by rw [HL.out]; exact h1L) (by rw [HL.out]; omega) HM0.out.tape HM0.out.ml).mono ?_
  rintro e W1 ⟨s, rfl, hs1, hs2, hg2⟩
  have HM1 := Lib.hid (HM0.out.grown hs2 hg2)
  have HSs := Lib.hid hs1
  clear hs1 hs2 hg2 c0 c1
  have c0 := HM1.out.cl
  have c1 := HM1.out.ch
  go_wp2_with fail
  refine (inof_run _ _ ls hs _ _ s HSs.out _ (by rw [HL.out]; omega) HM1.out.ml HM1.out.mh HP.out).mono ?_
  rintro e W2 ⟨⟨a, rfl, ha⟩, hbx⟩
  have HM2 := Lib.hid (HM1.out.bel hbx)
  have HA := Lib.hid ha
  clear ha
  clear hbx c0 c1
  have hal := HA.out.lt
  rw [HL.out, HNN.out] at hal
  have ha64 : a < 64 := by have := HMN.out; omega
  have HAL := Lib.hid hal
  clear hal
  go_upto_region 8 with fail
  have hS := Lib.hid (show W2.drew.cell? ⟨g, 0, none⟩ = some (.slice Al L cl) ∧ W2.drew.cell? ⟨g + 1, 0, none⟩ = some (.slice Ah L ch) ∧ PMade w g (.slice Al L cl) (.slice Ah L ch) ls hs W2.drew from pmK ⟨HM2.out.cl, HM2.out.ch, HM2.out⟩ (bdrew (bref _)))
  go_region_held3 (fun W => W.cell? ⟨g, 0, none⟩ = some (.slice Al L cl) ∧ W.cell? ⟨g + 1, 0, none⟩ = some (.slice Ah L ch) ∧ PMade w g (.slice Al L cl) (.slice Ah L ch) ls hs W) (first | exact hS.out | exact hSK | go_keep)
    (first
      | (go_at_call 21; refine (TN_run _ _ 64 (by omega) (by omega) (by exact (pmS (by assumption)).tape)).mono ?_; rintro e WK ⟨r, hr0, hr1, rfl, hs2, hg2⟩; have hSK := pmG (by assumption) hs2 hg2; obtain ⟨y0, rfl⟩ : ∃ y0 : Nat, r = (y0 : Int) := ⟨r.toNat, by omega⟩; have hand := i64_and_nat y0 M (by omega) (by omega); have hyM : y0 &&& M ≤ M := Nat.and_le_right; generalize y0 &&& M = y at hand hyM; clear hs2 hg2)
      | (go_at_call 36; refine (rgreatest_run _ 3 ls _ y _ (by rw [HL.out]; omega) (by omega) (by exact (pmS (by assumption)).ml)).mono ?_; rintro e WL ⟨G, rfl, hGl, hGr, hbK⟩; have hSK := pmK (by assumption) hbK; have HG := Lib.hid hGr; have hand2 := i64_and_nat G a (by omega) (by omega); have HQB := Lib.hid (fun k => Nat.testBit_and G a k); have HQ0 := Lib.hid (show G &&& a ≤ a from Nat.and_le_right); generalize G &&& a = qq at hand2 HQB HQ0; clear hGr hbK))
  all_goals
    have HM3 := Lib.hid (pmS (vl := .slice Al L cl) (vh := .slice Ah L ch) hSK)
    clear hSK HM2 HM1 hS
    by_cases hq0 : qq = 0
    · subst hq0
      go_wp2_with fail
      refine (awake15 _).mono ?_
      rintro e W99 ⟨rfl, hb9⟩
      have HF := Lib.hid (HM3.out.bel hb9).below
      clear hb9
      go_wp2_with fail
      go_ret
      exact ⟨rfl, HF.out⟩
    · have hq0i : ¬ (qq : Int) = 0 := by omega
      have HU := Lib.hid (show QB (fOf ls) (declS ls ls.length) 0 G from (isq_zero (by rw [HL.out]; omega) hGl).1 ⟨fun h => (by
          obtain ⟨k, hk⟩ := some_bit hq0
          rw [HQB.out k, h, Nat.zero_testBit] at hk
          cases hk), fun k hk => (by
          have h := HG.out.sub k hk
          rw [Nat.testBit_and, Bool.and_eq_true] at h
          exact h.2), HG.out.closed⟩)
      have HUA := Lib.hid (show ∃ k, G.testBit k = true ∧ a.testBit k = true from by
        obtain ⟨k, hk⟩ := some_bit hq0
        rw [HQB.out k, Bool.and_eq_true] at hk
        exact ⟨k, hk⟩)
      go_wp2_with fail
      refine (TN_run _ _ 64 (by omega) (by omega) HM3.out.tape).mono ?_
      rintro e W4 ⟨r2, hr2, hr3, rfl, hs2, hg2⟩
      have HM4 := Lib.hid (HM3.out.grown hs2 hg2)
      obtain ⟨y1, rfl⟩ : ∃ y1 : Nat, r2 = (y1 : Int) := ⟨r2.toNat, by omega⟩
      have hand3 := i64_and_nat y1 M (by omega) (by omega)
      have hy2 : y1 &&& M ≤ M := Nat.and_le_right
      generalize y1 &&& M = y2 at hand3 hy2
      have hq64 : qq < 64 := by have := HQ0.out; omega
      have hor := i64_or_nat qq y2 (by omega) (by omega)
      have HX0 := Lib.hid (show qq ||| y2 < 2 ^ L from Nat.or_lt_two_pow (by rw [HNN.out]; have := HQ0.out; have := HAL.out; omega) (by rw [HNN.out]; have := HMN.out; omega))
      have HXU := Lib.hid (show ∀ k, G.testBit k = true → a.testBit k = true → (qq ||| y2).testBit k = true from fun k h1 h2 => by rw [Nat.testBit_or, HQB.out k, h1, h2]; rfl)
      generalize qq ||| y2 = x0 at hor HX0 HXU
      have HC0 := Lib.hid (show cnt6 (minS a x0) + 0 ≤ 6 from cnt6_le _)
      clear hs2 hg2 HM3 hand hand2 hyM HQB HQ0
      go_wp2_with fail
      go_loopw [11, 12] (fun u t W => ∃ (i x : Nat), i ≤ 7 ∧ u = .int .i64 (x : Int) ∧ t = .int .i64 (i : Int) ∧ Hid (x < 2 ^ L) ∧ Hid (∀ k, G.testBit k = true → a.testBit k = true → x.testBit k = true) ∧ Hid (cnt6 (minS a x) + i ≤ 6) ∧ Hid (PMade w g (.slice Al L cl) (.slice Ah L ch) ls hs W)) (fun _ t _ => 7 - (intOf t).toNat)
      case atStart => exact ⟨0, x0, by omega, rfl, rfl, HX0, HXU, HC0, HM4⟩
      case round =>
        obtain ⟨i, x, hi7, rfl, rfl, HXL, HXS, HCN, HMr⟩ := hrel
        have hi6 : i ≤ 6 := by have := HCN.out; omega
        have hi6i : (i : Int) < 7 := by omega
        have hx64 : x < 64 := by have h := HXL.out; rw [HNN.out] at h; omega
        have HXl := Lib.hid (show x < 2 ^ ls.length by rw [HL.out]; exact HXL.out)
        have hand := i64_and_nat x a (by omega) (by omega)
        have HZX := Lib.hid (show x &&& a = a ↔ ∀ k, a.testBit k = true → x.testBit k = true from by rw [Nat.and_comm]; exact and_self_sub)
        have HZB := Lib.hid (show a &&& x = x &&& a from Nat.and_comm a x)
        have hz64 : x &&& a < 64 := and_ltL hx64
        have c0 := HMr.out.cl
        have c1 := HMr.out.ch
        by_cases hza : x &&& a = a
        · have HNK := Lib.hid (HZX.out.1 hza)
          rw [hza] at hand
          clear hza HZX HZB hz64
          go_wp2_with fail
          refine (infol_run _ _ ls hs _ _ s x HSs.out HXl.out _ (by rw [HL.out]; omega) HMr.out.ml HMr.out.mh HP.out).mono ?_
          rintro e W5 ⟨⟨a', ha', hc⟩, hb5⟩
          obtain rfl := of_uniq HP.out (by rw [HL.out]; omega) ha' HA.out
          have HM5 := Lib.hid (HMr.out.bel hb5)
          clear hb5 ha' c0 c1
          rcases hc with ⟨k, h1, h2, _, _, _⟩ | ⟨_, rfl⟩
          · have h3 := HNK.out k h1
            rw [h2] at h3; cases h3
          · go_wp2_with fail
            refine (awake15 _).mono ?_
            rintro e W99 ⟨rfl, hb9⟩
            have HF := Lib.hid (HM5.out.bel hb9).below
            clear hb9
            go_wp2_with fail
            go_ret
            exact ⟨rfl, HF.out⟩
        · have HNE := Lib.hid (show ∃ k, a.testBit k = true ∧ x.testBit k = false from by
            by_cases h : ∃ k, a.testBit k = true ∧ x.testBit k = false
            · exact h
            · exact absurd (HZX.out.2 (fun k hk => by
                cases hx : x.testBit k
                · exact absurd ⟨k, hk, hx⟩ h
                · rfl)) hza)
          have hzi : ¬ ((x &&& a : Nat) : Int) = (a : Int) := by omega
          generalize x &&& a = z at hand hzi hz64 HZB
          clear hza HZX
          go_wp2_with fail
          refine (infol_run _ _ ls hs _ _ s x HSs.out HXl.out _ (by rw [HL.out]; omega) HMr.out.ml HMr.out.mh HP.out).mono ?_
          rintro e W5 ⟨⟨a', ha', hc⟩, hb5⟩
          obtain rfl := of_uniq HP.out (by rw [HL.out]; omega) ha' HA.out
          have HM5 := Lib.hid (HMr.out.bel hb5)
          clear hb5 ha' c0 c1
          rcases hc with ⟨k, h1, h2, hk10, h4, rfl⟩ | ⟨h1, rfl⟩
          · rw [HZB.out] at h4
            have HK1 := Lib.hid h1
            have HK2 := Lib.hid h2
            have HK4 := Lib.hid h4
            have han : bits .andNot .i64 (a' : Int) (x : Int) = ((minS a' x : Nat) : Int) := andNot_nat a' x (by omega) (by omega)
            have hml : minS a' x < 1024 := minS_lt (by omega)
            have HHB := Lib.hid (show hasB ((minS a' x : Nat) : Int) (k : Int) = true from by rw [hasB_bit hml hk10, minS_bit, h1, h2]; rfl)
            have HC1 := Lib.hid (show cnt6 (minS a' (x ||| 2 ^ k)) + (i + 1) ≤ 6 from by have h := cnt6_step (a := a') (x := x) (k := k) ha64 h1 h2; have := HCN.out; omega)
            have HU1 := Lib.hid (show ∀ j, G.testBit j = true → a'.testBit j = true → (x ||| 2 ^ k).testBit j = true from fun j g1 g2 => by rw [Nat.testBit_or, HXS.out j g1 g2]; rfl)
            have hkL : k < L := lt_bit (by rw [HNN.out]; exact HAL.out) h1
            have HXL1 := Lib.hid (show x ||| 2 ^ k < 2 ^ L from Nat.or_lt_two_pow HXL.out (Nat.pow_lt_pow_right (by decide) hkL))
            have hpk := HPW.out k (by omega)
            have h2k : 2 ^ k ≤ 2 ^ 10 := Nat.pow_le_pow_right (by decide) (by omega)
            have hor := i64_or_nat x (2 ^ k) (by omega) (by omega)
            have hk64 : (k : Int) < 64 := by omega
            have hk0 : (0 : Int) ≤ (k : Int) := by omega
            generalize minS a' x = mm at han hml HHB
            generalize x ||| 2 ^ k = x' at hor HC1 HU1 HXL1
            obtain ⟨p2, hp2k⟩ : ∃ p, 2 ^ k = p := ⟨_, rfl⟩
            rw [hp2k] at hpk hor h2k
            clear h1 h2 h4 hp2k h2k
            have c0 := HM5.out.cl
            go_wp2_with fail
            refine (rhas_run _ _ _).mono ?_
            rintro e W6 ⟨rfl, rfl⟩
            rw [HHB.out]
            go_wp2_with fail
            refine (rblocks_run _ 3 ls _ k z _ (by rw [HL.out]; omega) (by omega) hk10 HM5.out.ml).mono ?_
            rintro e W7 ⟨rfl, hb7⟩
            rw [HK4.out]
            have HM7 := Lib.hid (HM5.out.bel hb7)
            clear hb7 c0
            go_wp2_with fail
            go_roundw
            case rel => exact ⟨i + 1, x', by omega, rfl, by go_num, HXL1, HU1, HC1, HM7⟩
            case measure => simp [intOf]; omega
          · obtain ⟨k, k1, k2, k3⟩ := fol_step HP.out (by rw [HL.out]; omega) HSs.out HA.out HU.out HUA.out HXS.out (by omega) HNE.out
            rw [h1 k k1 k2] at k3; cases k3
end Go.Proofs.YtacpfcckilnbfaaGreat
