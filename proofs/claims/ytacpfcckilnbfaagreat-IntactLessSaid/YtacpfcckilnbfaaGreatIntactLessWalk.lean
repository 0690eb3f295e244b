/- The walk of IntactLess: with more ill-behaved members there are not more intact ones; and befouled members may be called ill-behaved. -/
import Derived.Test.YtacpfcckilnbfaaGreatB6
import Derived.Test.YtacpfcckilnbfaaGreatAwake15
import Derived.Test.YtacpfcckilnbfaaGreatIntLink
import Derived.Test.YtacpfcckilnbfaaGreatMkSet3
namespace Go.Proofs.YtacpfcckilnbfaaGreat
set_option linter.unusedVariables false
set_option linter.unusedSimpArgs false
open Go.RowKit

set_option maxRecDepth 100000 in
set_option maxHeartbeats 8000000 in
theorem walkIntactLess (a0 : Option Addr) (len0 cap0 : Nat) (z0 : List Int) (w : World) (w0 : IsRow .i64 w a0 len0 cap0 z0) :
    Calls Tryz.prog 9 #[.slice a0 len0 cap0] w fun e w' => e = .returned (.bool true) ∧ Below w.heap.size w w' := by
  have HR := Lib.hid w0
  clear w0
  go_enter Tryz.func9, Tryz.ntmps9
  go_wp2_with fail
  refine (TNew_run _ _ _ _ _ HR.out).mono ?_
  rintro e v0 ⟨rfl, hs0, hb0⟩
  have HS0 := Lib.hid hs0
  have HB0 := Lib.hid hb0
  have hsl := hs0.lt
  clear hs0 hb0 HR
  go_wp2_with fail
  refine (mkPair_run _ 5 (by omega) (by omega) _ HS0.out).mono ?_
  rintro e v2 ⟨vl, vh, ls, hs, rfl, hpm, hln, hML, hMH, hs2, hg2⟩
  obtain ⟨Al, cl, rfl⟩ := hML.slice
  obtain ⟨Ah, ch, rfl⟩ := hMH.slice
  have hlen := hpm.len
  obtain ⟨L, hL⟩ : ∃ L, ls.length = L := ⟨_, rfl⟩
  rw [hlen] at hMH ⊢
  rw [hL] at hML hMH hln ⊢
  have HM := Lib.hid (show PMade w v2.heap.size (.slice Al L cl) (.slice Ah L ch) ls hs ((v2.alloc (.cells #[.slice Al L cl] 27)).alloc (.cells #[.slice Ah L ch] 27)) from
    (show PMade w v2.heap.size (.slice Al L cl) (.slice Ah L ch) ls hs _ from ⟨(hs2.alloc _).alloc _, alloc_on (alloc_at rfl), alloc_at (alloc_sz _ _),
      (hML.both (w' := v2) (Q := fun b => w.heap.size < b) (fun _ _ _ => rfl) (fun k _ hk => by have : v0.heap.size ≤ k := hk; omega)).below (balloc (balloc (bref v2) _) _),
      (hMH.both (w' := v2) (Q := fun b => w.heap.size < b) (fun _ _ _ => rfl) (fun k _ hk => by have : v0.heap.size ≤ k := hk; omega)).below (balloc (balloc (bref v2) _) _), hs2.lt, bstep (bgrownC HB0.out hg2 (Nat.le_refl _)) (balloc (balloc (bref v2) _) _)⟩))
  have HP := Lib.hid hpm
  have HL := Lib.hid hL
  have HLH := Lib.hid (hlen.trans hL)
  have h1L : 1 ≤ L := by rw [← hL]; exact hpm.one
  have hp2 : 2 ^ L ≤ 2 ^ 5 := Nat.pow_le_pow_right (by omega) hln
  have hp1 : 1 ≤ 2 ^ L := Nat.one_le_two_pow
  have hpw := pow11 L (by omega)
  have hn64 : (L : Int) < 64 := by omega
  have hn0 : (0 : Int) ≤ (L : Int) := by omega
  clear hpw hn64 hn0
  clear hML hMH hs2 hg2 HS0 HB0 hlen hpm hL
  go_upto_region 3 with fail
  generalize ((v2.alloc (.cells #[.slice Al L cl] 27)).alloc (.cells #[.slice Ah L ch] 27)) = W1 at *
  generalize v2.heap.size = g at *
  have HM0 := HM
  have c0 := HM0.out.cl
  have c1 := HM0.out.ch
  go_wp2_with fail
  refine (D3.mkSetN_run _ ls _ _ (by rw [HL.out]; exact h1L) (by rw [HL.out]; omega) HM0.out.tape HM0.out.ml).mono ?_
  rintro e W1 ⟨s, rfl, hs1, hs2, hg2⟩
  have HM1 := Lib.hid (HM0.out.grown hs2 hg2)
  have HSs := Lib.hid hs1
  clear hs1 hs2 hg2 c0 c1
  have c0 := HM1.out.cl
  have c1 := HM1.out.ch
  go_wp2_with fail
  refine (D3.mkSetN_run _ ls _ _ (by rw [HL.out]; exact h1L) (by rw [HL.out]; omega) HM1.out.tape HM1.out.ml).mono ?_
  rintro e W2 ⟨q, rfl, hs1, hs2, hg2⟩
  have HM2 := Lib.hid (HM1.out.grown hs2 hg2)
  have HSq := Lib.hid hs1
  clear hs1 hs2 hg2 c0 c1
  have hor := i64_or_nat s q (by have := HSs.out; rw [HL.out] at this; omega) (by have := HSq.out; rw [HL.out] at this; omega)
  have HST := Lib.hid (show s ||| q < 2 ^ ls.length from Nat.or_lt_two_pow HSs.out HSq.out)
  have HSB := Lib.hid (show Sub s (s ||| q) from fun k hk => by rw [Nat.testBit_or, hk]; rfl)
  generalize s ||| q = t at hor HST HSB
  have c0 := HM2.out.cl
  have c1 := HM2.out.ch
  go_wp2_with fail
  refine (inof_run _ _ ls hs _ _ s HSs.out _ (by rw [HL.out]; omega) HM2.out.ml HM2.out.mh HP.out).mono ?_
  rintro e W3 ⟨⟨a, rfl, ha⟩, hbx⟩
  have HM3 := Lib.hid (HM2.out.bel hbx)
  have HA := Lib.hid ha
  clear ha
  clear hbx c0 c1
  have c0 := HM3.out.cl
  have c1 := HM3.out.ch
  go_wp2_with fail
  refine (inof_run _ _ ls hs _ _ t HST.out _ (by rw [HL.out]; omega) HM3.out.ml HM3.out.mh HP.out).mono ?_
  rintro e W4 ⟨⟨b, rfl, hb⟩, hbx⟩
  have HM4 := Lib.hid (HM3.out.bel hbx)
  have HB := Lib.hid hb
  clear hb
  clear hbx c0 c1
  have c0 := HM4.out.cl
  have c1 := HM4.out.ch
  go_wp2_with fail
  refine (inbef_run _ _ ls hs _ _ s HSs.out _ (by rw [HL.out]; omega) HM4.out.ml HM4.out.mh HP.out).mono ?_
  rintro e W5 ⟨⟨r, rfl, hr⟩, hbx⟩
  have HM5 := Lib.hid (HM4.out.bel hbx)
  have HR := Lib.hid hr
  clear hr
  clear hbx c0 c1
  have hal := HA.out.lt
  have hbl := HB.out.lt
  rw [HL.out] at hal hbl
  have hand := i64_and_nat b a (by omega) (by omega)
  have HZ := Lib.hid (show a ≠ 0 → b &&& a = b from fun h => of_less HP.out (by rw [HL.out]; omega) HSs.out HST.out HSB.out HA.out HB.out h)
  have HRA := Lib.hid (show r = outS ls.length a ∧ r < 2 ^ ls.length from by
    obtain ⟨a', h1, rfl⟩ := HR.out
    rw [of_uniq HP.out (by rw [HL.out]; omega) h1 HA.out]
    exact ⟨rfl, outS_lt2 _ _⟩)
  generalize b &&& a = z at hand HZ
  clear HR HB hal hbl
  by_cases hz : z = b
  · subst hz
    by_cases ha0 : a = 0
    · subst ha0
      go_wp2_with fail
      refine (awake15 _).mono ?_
      rintro e W99 ⟨rfl, hb9⟩
      have HF := Lib.hid (HM5.out.bel hb9).below
      clear hb9
      go_wp2_with fail
      go_ret
      exact ⟨rfl, HF.out⟩
    · have ha0i : ¬ (a : Int) = 0 := by omega
      have c0 := HM5.out.cl
      have c1 := HM5.out.ch
      go_wp2_with fail
      refine (inof_run _ _ ls hs _ _ r HRA.out.2 _ (by rw [HL.out]; omega) HM5.out.ml HM5.out.mh HP.out).mono ?_
      rintro e W6 ⟨⟨x, rfl, hx⟩, hbx⟩
      have HM6 := Lib.hid (HM5.out.bel hbx)
      have HX := Lib.hid hx
      clear hx
      clear hbx c0 c1
      have HXA := Lib.hid (show x = a from of_again HP.out (by rw [HL.out]; omega) HSs.out HA.out ha0 (by have h := HX.out; rw [HRA.out.1] at h; exact h))
      have hxa := HXA.out
      clear HXA HX
      subst hxa
      go_wp2_with fail
      refine (awake15 _).mono ?_
      rintro e W99 ⟨rfl, hb9⟩
      have HF := Lib.hid (HM6.out.bel hb9).below
      clear hb9
      go_wp2_with fail
      go_ret
      exact ⟨rfl, HF.out⟩
  · have HA0 := Lib.hid (show a = 0 from by
      by_cases h : a = 0
      · exact h
      · exact absurd (HZ.out h) hz)
    have hzi : ¬ (z : Int) = (b : Int) := by omega
    have ha0 := HA0.out
    subst ha0
    have hand0 : bits .and .i64 (b : Int) 0 = (z : Int) := hand
    clear hz HZ hand
    go_wp2_with fail
    refine (awake15 _).mono ?_
    rintro e W99 ⟨rfl, hb9⟩
    have HF := Lib.hid (HM5.out.bel hb9).below
    clear hb9
    go_wp2_with fail
    go_ret
    exact ⟨rfl, HF.out⟩
end Go.Proofs.YtacpfcckilnbfaaGreat
