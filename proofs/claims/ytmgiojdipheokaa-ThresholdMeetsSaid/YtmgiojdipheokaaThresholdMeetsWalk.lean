/- The walk of ThresholdMeets: the set of all nodes satisfies a valid trust and the empty one does not; a set which satisfies it and one which blocks it always meet. -/
import Derived.Test.YtmgiojdipheokaaMade
import Derived.Deep.RegionHeld3
import Derived.Deep.DeepCutAuto
import Derived.Deep.CutRange
namespace Go.Proofs.Ytmgiojdipheokaa
set_option linter.unusedVariables false
open Go.RowKit

set_option maxRecDepth 100000 in
set_option maxHeartbeats 4000000 in
theorem walkThresholdMeets (a0 : Option Addr) (len0 cap0 : Nat) (z0 : List Int) (w : World) (w0 : IsRow .i64 w a0 len0 cap0 z0) :
    Calls Try.prog 8 #[.slice a0 len0 cap0] w fun e w' => e = .returned (.bool true) ∧ Below w.heap.size w w' := by
  have HR := Lib.hid w0
  clear w0
  go_enter Try.func8, Try.ntmps8
  go_wp2_with fail
  refine (TNew_run _ _ _ _ _ HR.out).mono ?_
  rintro e v0 ⟨rfl, hs0, hb0⟩
  have HS0 := Lib.hid hs0
  have HB0 := Lib.hid hb0
  clear hs0 hb0
  go_wp2_with fail
  refine (TRange_run _ _ _ _ (by omega) (by omega) (by omega) HS0.out).mono ?_
  rintro e v1 ⟨r, hr0, hr1, rfl, hs1, hg1⟩
  obtain ⟨n, rfl⟩ := Int.eq_ofNat_of_zero_le (show 0 ≤ r by omega)
  have HS1 := Lib.hid hs1
  have HB1 := Lib.hid (bgrownT HB0.out hg1 (Nat.le_refl _))
  have hsl := hs1.lt
  clear hs1 hg1
  go_wp2_with fail
  refine (mkTrust_run _ n (by omega) (by omega) 3 (by omega) _ HS1.out).mono ?_
  rintro e v2 ⟨x0, x1, x2, T, rfl, hT, hF, hs2, hg2⟩
  obtain ⟨t', A', n', ca, B', m', cb, rfl, rfl, rfl⟩ := hT.form
  have hMA : MadeAt w v2.heap.size 4 t' (.slice A' n' ca) (.slice B' m' cb) T (v2.alloc (.cells #[.int .i64 t', .slice A' n' ca, .slice B' m' cb] 41)) :=
    ⟨hs2.alloc _, heap_alloc_new _ _, (hT.imp (fun k _ hk => by omega)).below (balloc (bref _) _), hs2.lt, balloc (bgrownT HB1.out hg2 (Nat.le_refl _)) _⟩
  have HM := Lib.hid hMA
  have HW := Lib.hid hF.1
  have hn10 : (n : Int) ≤ 10 := hr1
  clear hT hF hs2 hg2 hMA HS1 HB1 HS0 HB0
  go_upto_region 3 with fail
  generalize v2.alloc (.cells #[.int .i64 t', .slice A' n' ca, .slice B' m' cb] 41) = W1 at *
  generalize v2.heap.size = g at *
  obtain ⟨c0, c1, c2⟩ := HM.out.out.cs
  have y1 := Lib.hid (sat_full hn10 HW.out)
  have y2 := Lib.hid (sat_empty HW.out)
  have y3 := Lib.hid (blk_full HW.out)
  have y4 := Lib.hid (blk_empty hn10 HW.out)
  go_wp2_with fail
  refine (satisfied_run _ 4 T _ _ _ 1023 _ HM.out.tat).mono ?_
  rintro e W2 ⟨rfl, hb⟩
  rw [y1.out]
  have HM2 := Lib.hid (HM.out.bel hb)
  clear hb c0 c1 c2 HM
  obtain ⟨c0, c1, c2⟩ := HM2.out.out.cs
  go_wp2_with fail
  refine (satisfied_run _ 4 T _ _ _ 0 _ HM2.out.tat).mono ?_
  rintro e W3 ⟨rfl, hb⟩
  rw [y2.out]
  have HM3 := Lib.hid (HM2.out.bel hb)
  clear hb c0 c1 c2 HM2
  obtain ⟨c0, c1, c2⟩ := HM3.out.out.cs
  go_wp2_with fail
  refine (blocked_run _ 4 T _ _ _ 1023 _ HM3.out.tat).mono ?_
  rintro e W4 ⟨rfl, hb⟩
  rw [y3.out]
  have HM4 := Lib.hid (HM3.out.bel hb)
  clear hb c0 c1 c2 HM3
  obtain ⟨c0, c1, c2⟩ := HM4.out.out.cs
  go_wp2_with fail
  refine (blocked_run _ 4 T _ _ _ 0 _ HM4.out.tat).mono ?_
  rintro e W5 ⟨rfl, hb⟩
  rw [y4.out]
  have HM5 := Lib.hid (HM4.out.bel hb)
  clear hb c0 c1 c2 HM4
  go_wp2_with fail
  go_loopw [5] (fun t W => ∃ k : Nat, k ≤ 12 ∧ t = .int .i64 k ∧ Hid (MadeAt w g 4 t' (.slice A' n' ca) (.slice B' m' cb) T W)) (fun t _ => 12 - (intOf t).toNat)
  case atStart => exact ⟨0, by omega, rfl, HM5⟩
  case round =>
    obtain ⟨k, hk, rfl, hM⟩ := hrel
    by_cases hlt : k < 12
    · go_wp2_with fail
      refine (TN_run _ _ _ (by omega) (by omega) hM.out.tape).mono ?_
      rintro e W2 ⟨r, hr0, hr1, rfl, hs2, hg2⟩
      obtain ⟨a, rfl⟩ := Int.eq_ofNat_of_zero_le hr0
      have hM2 := Lib.hid (hM.out.grown hs2 hg2)
      clear hs2 hg2
      go_wp2_with fail
      refine (TN_run _ _ _ (by omega) (by omega) hM2.out.tape).mono ?_
      rintro e W3 ⟨r, hr2, hr3, rfl, hs2, hg2⟩
      obtain ⟨b, rfl⟩ := Int.eq_ofNat_of_zero_le hr2
      have hM3 := Lib.hid (hM2.out.grown hs2 hg2)
      have ha : a < 1024 := by omega
      have hb : b < 1024 := by omega
      clear hs2 hg2 hM hM2 hr0 hr1 hr2 hr3
      go_upto_region 9 with fail
      obtain ⟨c0, c1, c2⟩ := hM3.out.out.cs
      have hnf := Lib.hid (sat_blk_compl (d := 4) (T := T) (s := (a : Int)) (by omega) (by omega))
      go_cut [51] (fun u W => u = .bool false ∧ Hid (MadeAt w g 4 t' (.slice A' n' ca) (.slice B' m' cb) T W))
      case first =>
        cases hA : satB 4 T (a : Int)
        · go_wp2_with fail
          refine (satisfied_run _ 4 T _ _ _ (a : Int) _ hM3.out.tat).mono ?_
          rintro e W4 ⟨rfl, hb4⟩
          rw [hA]
          have hM4 := Lib.hid (hM3.out.bel hb4)
          clear hb4
          go_wp2_with fail
          go_meet
          exact ⟨rfl, hM4⟩
        · go_wp2_with fail
          refine (satisfied_run _ 4 T _ _ _ (a : Int) _ hM3.out.tat).mono ?_
          rintro e W4 ⟨rfl, hb4⟩
          rw [hA]
          have hM4 := Lib.hid (hM3.out.bel hb4)
          clear hb4 c0 c1 c2
          obtain ⟨c0, c1, c2⟩ := hM4.out.out.cs
          cases hB : blkB 4 T (b : Int)
          · go_wp2_with fail
            refine (blocked_run _ 4 T _ _ _ (b : Int) _ hM4.out.tat).mono ?_
            rintro e W5 ⟨rfl, hb5⟩
            rw [hB]
            have hM5 := Lib.hid (hM4.out.bel hb5)
            clear hb5
            go_wp2_with fail
            go_meet
            exact ⟨rfl, hM5⟩
          · have hne := meet hn10 HW.out ha hb hA hB
            have hand : (bits .and .i64 (a : Int) (b : Int) == 0) = false := by
              rw [i64_and_nat a b (by omega) (by omega), beq_eq_false_iff_ne]; omega
            clear hne
            go_wp2_with fail
            refine (blocked_run _ 4 T _ _ _ (b : Int) _ hM4.out.tat).mono ?_
            rintro e W5 ⟨rfl, hb5⟩
            rw [hB]
            have hM5 := Lib.hid (hM4.out.bel hb5)
            clear hb5
            go_wp2_with fail
            go_meet
            exact ⟨rfl, hM5⟩
      case rest =>
        obtain ⟨rfl, hM4⟩ := hcut
        clear c0 c1 c2 hM3
        go_upto_region 11 with fail
        have hS6 := Lib.hid hM4.out.drew.keeps
        have hw1 : IntKind.i64.wrap (1023 - (a : Int)) = 1023 - (a : Int) := IntWalk.i64_in _ (by omega)
        cases hA : satB 4 T (a : Int)
        all_goals
          have hB : blkB 4 T (1023 - (a : Int)) = !satB 4 T (a : Int) := hnf.out
          rw [hA] at hB
          go_region_held3 (fun W => W.cell? ⟨g, 0, none⟩ = some (.int .i64 t') ∧ W.cell? ⟨g, 1, none⟩ = some (.slice A' n' ca) ∧ W.cell? ⟨g, 2, none⟩ = some (.slice B' m' cb) ∧ MadeAt w g 4 t' (.slice A' n' ca) (.slice B' m' cb) T W) (first | exact hS6.out | exact keepM (by assumption) hbK | go_keep)
            (first
              | (go_at_call 45; refine (satisfied_run _ 4 T _ _ _ (a : Int) _ (by exact tatM (by assumption))).mono ?_; rintro e WK ⟨rfl, hbK⟩; rw [hA])
              | (go_at_call 46; refine (blocked_run _ 4 T _ _ _ (1023 - (a : Int)) _ (by exact tatM (by assumption))).mono ?_; rintro e WK ⟨rfl, hbK⟩; rw [hB]))
          all_goals
            have hF : WK.cell? ⟨g, 0, none⟩ = some (.int .i64 t') ∧ WK.cell? ⟨g, 1, none⟩ = some (.slice A' n' ca) ∧ WK.cell? ⟨g, 2, none⟩ = some (.slice B' m' cb) ∧ MadeAt w g 4 t' (.slice A' n' ca) (.slice B' m' cb) T WK := by assumption
            have hMF := Lib.hid hF.2.2.2
            clear hF
            go_wp2_with fail
            go_roundw
            case rel => exact ⟨k + 1, by omega, by go_num, hMF⟩
            case measure => simp [intOf]; try omega
    · obtain rfl : k = 12 := by omega
      go_wp2_with fail
      refine (awake02 _).mono ?_
      rintro e Z ⟨rfl, hbz⟩
      go_wp2_with fail
      go_ret
      exact ⟨rfl, bstep hM.out.below hbz⟩
end Go.Proofs.Ytmgiojdipheokaa
