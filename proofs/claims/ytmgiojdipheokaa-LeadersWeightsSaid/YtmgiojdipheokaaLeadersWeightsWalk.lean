/- The walk of LeadersWeights: exactly the nodes that a trust uses have a weight, and it is above 0 and at most 1. -/
import Derived.Test.YtmgiojdipheokaaAwake21
namespace Go.Proofs.Ytmgiojdipheokaa
set_option linter.unusedVariables false
open Go.RowKit

set_option maxRecDepth 100000 in
set_option maxHeartbeats 4000000 in
theorem walkLeadersWeights (a0 : Option Addr) (len0 cap0 : Nat) (z0 : List Int) (w : World) (w0 : IsRow .i64 w a0 len0 cap0 z0) :
    Calls Try.prog 12 #[.slice a0 len0 cap0] w fun e w' => e = .returned (.bool true) ∧ Below w.heap.size w w' := by
  have HR := Lib.hid w0
  clear w0
  go_enter Try.func12, Try.ntmps12
  go_wp2_with fail
  refine (TNew_run _ _ _ _ _ HR.out).mono ?_
  rintro e v0 ⟨rfl, hs0, hb0⟩
  have HS0 := Lib.hid hs0
  have HB0 := Lib.hid hb0
  clear hs0 hb0
  go_wp2_with fail
  refine (TRange_run _ _ _ _ (by omega) (by omega) (by omega) HS0.out).mono ?_
  rintro e v1 ⟨r, hr0, hr1, rfl, hs1, hg1⟩
  obtain ⟨n, rfl⟩ := Int.eq_ofNat_of_zero_le (show 0 ≤ r by omega)
  have HS1 := Lib.hid hs1
  have HB1 := Lib.hid (bgrownT HB0.out hg1 (Nat.le_refl _))
  have hsl := hs1.lt
  clear hs1 hg1
  go_wp2_with fail
  refine (mkTrust_run _ n (by omega) (by omega) 3 (by omega) _ HS1.out).mono ?_
  rintro e v2 ⟨x0, x1, x2, T, rfl, hT, hF, hs2, hg2⟩
  obtain ⟨t', A', n', ca, B', m', cb, rfl, rfl, rfl⟩ := hT.form
  have hMA : MadeAt w v2.heap.size 4 t' (.slice A' n' ca) (.slice B' m' cb) T (v2.alloc (.cells #[.int .i64 t', .slice A' n' ca, .slice B' m' cb] 41)) :=
    ⟨hs2.alloc _, heap_alloc_new _ _, (hT.imp (fun k _ hk => by omega)).below (balloc (bref _) _), hs2.lt, balloc (bgrownT HB1.out hg2 (Nat.le_refl _)) _⟩
  have HM := Lib.hid hMA
  have HW := Lib.hid hF.1
  have HZ := Lib.hid hF.2
  have hn10 : (n : Int) ≤ 10 := hr1
  have HWU := Lib.hid (fun x => weight_uses hn10 x 4 T HW.out)
  have HWB := Lib.hid (fun x p => weightT_bound (x := x) 4 T HW.out p)
  clear hT hF hs2 hg2 hMA HS1 HB1 HS0 HB0
  go_upto_region 3 with fail
  generalize v2.alloc (.cells #[.int .i64 t', .slice A' n' ca, .slice B' m' cb] 41) = W1 at *
  generalize v2.heap.size = g at *
  obtain ⟨u, hu⟩ : ∃ u, usesT 4 T = u := ⟨_, rfl⟩
  have HU := Lib.hid hu
  rw [hu] at HWU
  clear hu
  go_wp2_with fail
  go_loopw [5] (fun t W => ∃ k : Nat, k ≤ 12 ∧ t = .int .i64 ((k : Int) - 1) ∧ Hid (MadeAt w g 4 t' (.slice A' n' ca) (.slice B' m' cb) T W)) (fun t _ => 12 - (intOf t + 1).toNat)
  case atStart => exact ⟨0, by omega, rfl, HM⟩
  case round =>
    obtain ⟨k, hk, rfl, hM⟩ := hrel
    by_cases hlt : k < 12
    · obtain ⟨c0, c1, c2⟩ := hM.out.out.cs
      have hW2 := Lib.hid (HWB.out ((k : Int) - 1))
      go_wp2_with fail
      refine (pweight_run n hn10 4 (by omega) _ T ((k : Int) - 1) _ _ _ _ hM.out.tat HW.out HZ.out).mono ?_
      rintro e W2 ⟨rfl, hb2⟩
      have hM2 := Lib.hid (hM.out.bel hb2)
      clear hb2 c0 c1 c2 hM
      have hW1 := HWU.out ((k : Int) - 1)
      cases hw : weightT 4 T ((k : Int) - 1) with
      | none =>
        rw [hw] at hW1
        clear hw hW2
        have HW1 := Lib.hid hW1.symm
        clear hW1
        simp only [fracV, Option.isSome_none] at HW1 ⊢
        go_upto_region 7 with fail
        have hM3 := Lib.hid (hM2.out.bel (balloc (bref W2) (.cells #[.int .i64 0, .int .i64 0] 72)))
        have hF3 := Lib.hid (show FracAt (W2.alloc (.cells #[.int .i64 0, .int .i64 0] 72)) W2.heap.size 0 0 from alloc_at rfl)
        generalize W2.alloc (.cells #[.int .i64 0, .int .i64 0] 72) = W3 at *
        generalize W2.heap.size = g2 at *
        clear hM2
        obtain ⟨c0, c1, c2⟩ := hM3.out.out.cs
        go_wp2_with fail
        refine (ruses_run _ 4 T _ _ _ _ hM3.out.tat).mono ?_
        rintro e W4 ⟨rfl, hb4⟩
        rw [HU.out]
        have hM4 := Lib.hid (hM3.out.bel hb4)
        have hF4 := hF3.out.keep (hb4.block _ hF3.out.lt)
        clear hb4 c0 c1 c2 hM3 hF3
        obtain ⟨d0, d1⟩ := hF4.cs
        go_wp2_with fail
        refine (rhas_run _ _ _).mono ?_
        rintro e W5 ⟨rfl, rfl⟩
        rw [HW1.out]
        go_wp2_with fail
        go_roundw
        case rel => exact ⟨k + 1, by omega, by go_num, hM4⟩
        case measure => simp [intOf]; omega
      | some p =>
        rw [hw] at hW1
        obtain ⟨p1, p2⟩ := p
        obtain ⟨b1, b2, b3⟩ := hW2.out _ hw
        clear hw hW2
        have HW1 := Lib.hid hW1.symm
        clear hW1 b3
        simp only [fracV, Option.isSome_some] at HW1 b1 b2 ⊢
        go_upto_region 7 with fail
        have hM3 := Lib.hid (hM2.out.bel (balloc (bref W2) (.cells #[.int .i64 p1, .int .i64 p2] 72)))
        have hF3 := Lib.hid (show FracAt (W2.alloc (.cells #[.int .i64 p1, .int .i64 p2] 72)) W2.heap.size p1 p2 from alloc_at rfl)
        generalize W2.alloc (.cells #[.int .i64 p1, .int .i64 p2] 72) = W3 at *
        generalize W2.heap.size = g2 at *
        clear hM2
        obtain ⟨c0, c1, c2⟩ := hM3.out.out.cs
        go_wp2_with fail
        refine (ruses_run _ 4 T _ _ _ _ hM3.out.tat).mono ?_
        rintro e W4 ⟨rfl, hb4⟩
        rw [HU.out]
        have hM4 := Lib.hid (hM3.out.bel hb4)
        have hF4 := hF3.out.keep (hb4.block _ hF3.out.lt)
        clear hb4 c0 c1 c2 hM3 hF3
        obtain ⟨d0, d1⟩ := hF4.cs
        go_wp2_with fail
        refine (rhas_run _ _ _).mono ?_
        rintro e W5 ⟨rfl, rfl⟩
        rw [HW1.out]
        go_wp2_with fail
        go_roundw
        case rel => exact ⟨k + 1, by omega, by go_num, hM4⟩
        case measure => simp [intOf]; omega
    · obtain rfl : k = 12 := by omega
      go_wp2_with fail
      refine (awake21 _).mono ?_
      rintro e Z ⟨rfl, hbz⟩
      go_wp2_with fail
      go_ret
      exact ⟨rfl, bstep hM.out.below hbz⟩
end Go.Proofs.Ytmgiojdipheokaa
