/- The walk of ThresholdDual: a set blocks a trust exactly if it satisfies the dual, for all sets; the dual of the dual is the trust; the dual of a valid trust is valid. -/
import Derived.Test.YtmgiojdipheokaaDualMath
import Derived.Test.YtmgiojdipheokaaTwo
import Derived.Deep.RegionHeld3
import Derived.Deep.DeepCutAuto
import Derived.Deep.CutRange
namespace Go.Proofs.Ytmgiojdipheokaa
set_option linter.unusedVariables false
open Go.RowKit

set_option maxRecDepth 100000 in
set_option maxHeartbeats 4000000 in
theorem walkThresholdDual (a0 : Option Addr) (len0 cap0 : Nat) (z0 : List Int) (w : World) (w0 : IsRow .i64 w a0 len0 cap0 z0) :
    Calls Try.prog 11 #[.slice a0 len0 cap0] w fun e w' => e = .returned (.bool true) ∧ Below w.heap.size w w' := by
  have HR := Lib.hid w0
  clear w0
  go_enter Try.func11, Try.ntmps11
  go_wp2_with fail
  refine (TNew_run _ _ _ _ _ HR.out).mono ?_
  rintro e v0 ⟨rfl, hs0, hb0⟩
  have HS0 := Lib.hid hs0
  have HB0 := Lib.hid hb0
  clear hs0 hb0
  go_wp2_with fail
  refine (TRange_run _ _ _ _ (by omega) (by omega) (by omega) HS0.out).mono ?_
  rintro e v1 ⟨r, hr0, hr1, rfl, hs1, hg1⟩
  obtain ⟨n, rfl⟩ := Int.eq_ofNat_of_zero_le (show 0 ≤ r by omega)
  have HS1 := Lib.hid hs1
  have HB1 := Lib.hid (bgrownT HB0.out hg1 (Nat.le_refl _))
  have hsl := hs1.lt
  clear hs1 hg1
  go_wp2_with fail
  refine (mkTrust_run _ n (by omega) (by omega) 2 (by omega) _ HS1.out).mono ?_
  rintro e v2 ⟨x0, x1, x2, T, rfl, hT, hF, hs2, hg2⟩
  obtain ⟨t', A', n', ca, B', m', cb, rfl, rfl, rfl⟩ := hT.form
  have hMA : MadeAt w v2.heap.size 3 t' (.slice A' n' ca) (.slice B' m' cb) T (v2.alloc (.cells #[.int .i64 t', .slice A' n' ca, .slice B' m' cb] 41)) :=
    ⟨hs2.alloc _, heap_alloc_new _ _, (hT.imp (fun k _ hk => by omega)).below (balloc (bref _) _), hs2.lt, balloc (bgrownT HB1.out hg2 (Nat.le_refl _)) _⟩
  have HM := Lib.hid hMA
  have HW := Lib.hid hF.1
  have HZ := Lib.hid hF.2
  have hn10 : (n : Int) ≤ 10 := hr1
  clear hT hF hs2 hg2 hMA HS1 HB1 HS0 HB0
  go_upto_region 3 with fail
  generalize v2.alloc (.cells #[.int .i64 t', .slice A' n' ca, .slice B' m' cb] 41) = W1 at *
  generalize v2.heap.size = g at *
  obtain ⟨c0, c1, c2⟩ := HM.out.out.cs
  go_wp2_with fail
  refine (dual_one n 3 _ T _ _ _ _ HM.out.tat HW.out).mono ?_
  rintro e W2 ⟨y0, y1, y2, rfl, hD, hb⟩
  obtain ⟨u', Ay, ny, cy, By, my, cz, rfl, rfl, rfl⟩ := hD.form
  have hM2 := HM.out.bel hb
  have hsz := hM2.out.lt
  have hlo := hM2.low
  have hgl := HM.out.out.lt
  have hMY : MadeAt w W2.heap.size 3 u' (.slice Ay ny cy) (.slice By my cz) (dualT 3 T) (W2.alloc (.cells #[.int .i64 u', .slice Ay ny cy, .slice By my cz] 41)) :=
    ⟨hM2.tape.alloc _, heap_alloc_new _ _, (hD.imp (fun k _ hk => by omega)).below (balloc (bref _) _), by omega, balloc hM2.below _⟩
  have HM2 := Lib.hid (hM2.bel (balloc (bref _) (.cells #[.int .i64 u', .slice Ay ny cy, .slice By my cz] 41)))
  have HY2 := Lib.hid hMY
  have HWY := Lib.hid (dual_wf 3 T HW.out)
  have HZY := Lib.hid (show sizeT 3 (dualT 3 T) ≤ 200 by rw [dual_size]; exact HZ.out)
  have HDD := Lib.hid (dual_dual 3 T)
  have HSD := Lib.hid (fun (s : Int) (h0 : 0 ≤ s) (h1 : s < 1024) => sat_dual (n := n) hn10 HW.out h0 h1)
  have HBD := Lib.hid (fun (s : Int) (h0 : 0 ≤ s) (h1 : s < 1024) => blk_dual (n := n) hn10 HW.out h0 h1)
  clear hb c0 c1 c2 HM hD hM2 hMY
  go_upto_region 4 with fail
  generalize W2.alloc (.cells #[.int .i64 u', .slice Ay ny cy, .slice By my cz] 41) = W3 at *
  generalize W2.heap.size = gy at *
  generalize dualT 3 T = Y at *
  go_wp2_with fail
  go_loopw [6] (fun t W => ∃ k : Nat, k ≤ 1026 ∧ t = .int .i64 k ∧ Hid (MadeAt w g 3 t' (.slice A' n' ca) (.slice B' m' cb) T W) ∧ Hid (MadeAt w gy 3 u' (.slice Ay ny cy) (.slice By my cz) Y W)) (fun t _ => 1026 - (intOf t).toNat)
  case atStart => exact ⟨0, by omega, rfl, HM2, HY2⟩
  case round =>
    obtain ⟨k, hk, rfl, hM, hY⟩ := hrel
    by_cases hlt : k < 1024
    · have hS := Lib.hid (twoM hM.out.drew hY.out.drew)
      have hA4 := HSD.out (k : Int) (by omega) (by omega)
      have hB4 := HBD.out (k : Int) (by omega) (by omega)
      clear hM hY
      go_upto_region 7 with fail
      cases hA : satB 3 T (k : Int)
      all_goals
        rw [hA] at hB4
        cases hB : blkB 3 T (k : Int)
        all_goals
          rw [hB] at hA4
          go_region_held3 (fun W => W.cell? ⟨g, 0, none⟩ = some (.int .i64 t') ∧ W.cell? ⟨g, 1, none⟩ = some (.slice A' n' ca) ∧ W.cell? ⟨g, 2, none⟩ = some (.slice B' m' cb) ∧ W.cell? ⟨gy, 0, none⟩ = some (.int .i64 u') ∧ W.cell? ⟨gy, 1, none⟩ = some (.slice Ay ny cy) ∧ W.cell? ⟨gy, 2, none⟩ = some (.slice By my cz) ∧ MadeAt w g 3 t' (.slice A' n' ca) (.slice B' m' cb) T W ∧ MadeAt w gy 3 u' (.slice Ay ny cy) (.slice By my cz) Y W) (first | exact hS.out | exact keepTwo (by assumption) hbK | go_keep)
            (first
              | (go_at_call_of 45 A'; refine (satisfied_run _ 3 T _ _ _ (k : Int) _ (by exact tatX (by assumption))).mono ?_; rintro e WK ⟨rfl, hbK⟩; rw [hA])
              | (go_at_call_of 45 Ay; refine (satisfied_run _ 3 Y _ _ _ (k : Int) _ (by exact tatY (by assumption))).mono ?_; rintro e WK ⟨rfl, hbK⟩; rw [hA4])
              | (go_at_call_of 46 A'; refine (blocked_run _ 3 T _ _ _ (k : Int) _ (by exact tatX (by assumption))).mono ?_; rintro e WK ⟨rfl, hbK⟩; rw [hB])
              | (go_at_call_of 46 Ay; refine (blocked_run _ 3 Y _ _ _ (k : Int) _ (by exact tatY (by assumption))).mono ?_; rintro e WK ⟨rfl, hbK⟩; rw [hB4]))
          all_goals
            have hF : WK.cell? ⟨g, 0, none⟩ = some (.int .i64 t') ∧ WK.cell? ⟨g, 1, none⟩ = some (.slice A' n' ca) ∧ WK.cell? ⟨g, 2, none⟩ = some (.slice B' m' cb) ∧ WK.cell? ⟨gy, 0, none⟩ = some (.int .i64 u') ∧ WK.cell? ⟨gy, 1, none⟩ = some (.slice Ay ny cy) ∧ WK.cell? ⟨gy, 2, none⟩ = some (.slice By my cz) ∧ MadeAt w g 3 t' (.slice A' n' ca) (.slice B' m' cb) T WK ∧ MadeAt w gy 3 u' (.slice Ay ny cy) (.slice By my cz) Y WK := by assumption
            have hM4 := Lib.hid (madeX hF).1
            have hY4 := Lib.hid (madeX hF).2
            clear hF
            go_wp2_with fail
            refine (TRange_run _ _ _ _ (by omega) (by omega) (by omega) hM4.out.tape).mono ?_
            rintro e W5 ⟨r, hr0, hr1, rfl, hs5, hg5⟩
            have hM5 := Lib.hid (hM4.out.grown hs5 hg5)
            have hY5 := Lib.hid (hY4.out.grown hs5 hg5)
            obtain ⟨q, rfl⟩ := Int.eq_ofNat_of_zero_le (show 0 ≤ r by omega)
            clear hs5 hg5
            go_wp2_with fail
            go_roundw
            case rel => exact ⟨k + q, by omega, by go_num, hM5, hY5⟩
            case measure => simp [intOf]; omega
    · have hS := Lib.hid (twoM hM.out.drew hY.out.drew)
      clear hM hY
      go_upto_region 9 with fail
      go_region_held3 (fun W => W.cell? ⟨g, 0, none⟩ = some (.int .i64 t') ∧ W.cell? ⟨g, 1, none⟩ = some (.slice A' n' ca) ∧ W.cell? ⟨g, 2, none⟩ = some (.slice B' m' cb) ∧ W.cell? ⟨gy, 0, none⟩ = some (.int .i64 u') ∧ W.cell? ⟨gy, 1, none⟩ = some (.slice Ay ny cy) ∧ W.cell? ⟨gy, 2, none⟩ = some (.slice By my cz) ∧ MadeAt w g 3 t' (.slice A' n' ca) (.slice B' m' cb) T W ∧ MadeAt w gy 3 u' (.slice Ay ny cy) (.slice By my cz) Y W) (first | exact hS.out | exact keepTwo (by assumption) hbK | go_keep)
        (first
          | (go_at_call 53; refine (pvalid_run n hn10 3 (by exact Nat.le_succ 3) _ Y _ _ _ _ (by exact tatY (by assumption)) (by exact HWY.out) (by exact HZY.out)).mono ?_; rintro e WK ⟨rfl, hbK⟩)
          | (go_at_call 54; refine (dual_one n 3 _ Y _ _ _ _ (by exact tatY (by assumption)) (by exact HWY.out)).mono ?_; rintro e WK ⟨z0, z1, z2, rfl, hDD, hbK⟩; rw [HDD.out] at hDD)
          | (go_at_call 55; refine (psame_run 3 _ _ T _ _ _ _ _ _ _ (by assumption) (by exact tatX (by assumption))).mono ?_; rintro e WK ⟨rfl, hbK⟩)
          | (go_at_call 48; refine (awake02 _).mono ?_; rintro e WK ⟨rfl, hbK⟩))
      all_goals
        have hF : WK.cell? ⟨g, 0, none⟩ = some (.int .i64 t') ∧ WK.cell? ⟨g, 1, none⟩ = some (.slice A' n' ca) ∧ WK.cell? ⟨g, 2, none⟩ = some (.slice B' m' cb) ∧ WK.cell? ⟨gy, 0, none⟩ = some (.int .i64 u') ∧ WK.cell? ⟨gy, 1, none⟩ = some (.slice Ay ny cy) ∧ WK.cell? ⟨gy, 2, none⟩ = some (.slice By my cz) ∧ MadeAt w g 3 t' (.slice A' n' ca) (.slice B' m' cb) T WK ∧ MadeAt w gy 3 u' (.slice Ay ny cy) (.slice By my cz) Y WK := by assumption
        have hM4 := Lib.hid (madeX hF).1.below
        clear hF
        go_wp2_with fail
        go_ret
        exact ⟨rfl, hM4.out⟩
end Go.Proofs.Ytmgiojdipheokaa
