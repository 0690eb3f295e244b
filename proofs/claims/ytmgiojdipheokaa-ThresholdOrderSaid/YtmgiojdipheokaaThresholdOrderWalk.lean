/- The walk of ThresholdOrder: the order of the entries makes no difference for sizes, nodes and meaning. -/
import Derived.Test.YtmgiojdipheokaaMixed
import Derived.Test.YtmgiojdipheokaaRight
import Derived.Test.YtmgiojdipheokaaTwo
import Derived.Deep.RegionHeld3
import Derived.Deep.DeepCutAuto
import Derived.Deep.CutRange
namespace Go.Proofs.Ytmgiojdipheokaa
set_option linter.unusedVariables false
open Go.RowKit

set_option maxRecDepth 100000 in
set_option maxHeartbeats 4000000 in
theorem walkThresholdOrder (a0 : Option Addr) (len0 cap0 : Nat) (z0 : List Int) (w : World) (w0 : IsRow .i64 w a0 len0 cap0 z0) :
    Calls Try.prog 10 #[.slice a0 len0 cap0] w fun e w' => e = .returned (.bool true) ∧ Below w.heap.size w w' := by
  have HR := Lib.hid w0
  clear w0
  go_enter Try.func10, Try.ntmps10
  go_wp2_with fail
  refine (TNew_run _ _ _ _ _ HR.out).mono ?_
  rintro e v0 ⟨rfl, hs0, hb0⟩
  have HS0 := Lib.hid hs0
  have HB0 := Lib.hid hb0
  clear hs0 hb0
  go_wp2_with fail
  refine (TRange_run _ _ _ _ (by omega) (by omega) (by omega) HS0.out).mono ?_
  rintro e v1 ⟨r, hr0, hr1, rfl, hs1, hg1⟩
  obtain ⟨n, rfl⟩ := Int.eq_ofNat_of_zero_le (show 0 ≤ r by omega)
  have HS1 := Lib.hid hs1
  have HB1 := Lib.hid (bgrownT HB0.out hg1 (Nat.le_refl _))
  have hsl := hs1.lt
  clear hs1 hg1
  go_wp2_with fail
  refine (mkTrust_run _ n (by omega) (by omega) 2 (by omega) _ HS1.out).mono ?_
  rintro e v2 ⟨x0, x1, x2, T, rfl, hT, hF, hs2, hg2⟩
  obtain ⟨t', A', n', ca, B', m', cb, rfl, rfl, rfl⟩ := hT.form
  have hMA : MadeAt w v2.heap.size 3 t' (.slice A' n' ca) (.slice B' m' cb) T (v2.alloc (.cells #[.int .i64 t', .slice A' n' ca, .slice B' m' cb] 41)) :=
    ⟨hs2.alloc _, heap_alloc_new _ _, (hT.imp (fun k _ hk => by omega)).below (balloc (bref _) _), hs2.lt, balloc (bgrownT HB1.out hg2 (Nat.le_refl _)) _⟩
  have HM := Lib.hid hMA
  have HW := Lib.hid hF.1
  have HZ := Lib.hid hF.2
  have hn10 : (n : Int) ≤ 10 := hr1
  clear hT hF hs2 hg2 hMA HS1 HB1 HS0 HB0
  go_upto_region 3 with fail
  generalize v2.alloc (.cells #[.int .i64 t', .slice A' n' ca, .slice B' m' cb] 41) = W1 at *
  generalize v2.heap.size = g at *
  obtain ⟨c0, c1, c2⟩ := HM.out.out.cs
  go_wp2_with fail
  refine (mixed_run n w.heap.size 3 (fun b => w.heap.size < b) T _ _ _ _ (fun b hb => by omega) HM.out.tape HM.out.tat HW.out).mono ?_
  rintro e W2 ⟨y0, y1, y2, Y, rfl, hD, hMX, hs2, hg2⟩
  obtain ⟨u', Ay, ny, cy, By, my, cz, rfl, rfl, rfl⟩ := hD.form
  have hM2 := HM.out.grown hs2 hg2
  have hsz := hM2.out.lt
  have hlo := hM2.low
  have hgl := HM.out.out.lt
  have hMY : MadeAt w W2.heap.size 3 u' (.slice Ay ny cy) (.slice By my cz) Y (W2.alloc (.cells #[.int .i64 u', .slice Ay ny cy, .slice By my cz] 41)) :=
    ⟨hM2.tape.alloc _, heap_alloc_new _ _, (hD.imp (fun k _ hk => by omega)).below (balloc (bref _) _), by omega, balloc hM2.below _⟩
  have HM2 := Lib.hid (hM2.bel (balloc (bref _) (.cells #[.int .i64 u', .slice Ay ny cy, .slice By my cz] 41)))
  have HY2 := Lib.hid hMY
  have HWY := Lib.hid (mix_wf 3 T Y hMX HW.out)
  have HZY := Lib.hid (show sizeT 3 Y ≤ 200 by rw [mix_size 3 T Y hMX]; exact HZ.out)
  have HE1 := Lib.hid (mix_size 3 T Y hMX)
  have HE2 := Lib.hid (mix_depth 3 T Y hMX)
  have HE3 := Lib.hid (mix_uses 3 T Y hMX)
  have HSD := Lib.hid (fun (s : Int) => mix_sat hMX s)
  have HBD := Lib.hid (fun (s : Int) => mix_blk hMX s)
  clear hs2 hg2 c0 c1 c2 HM hD hM2 hMY hMX
  go_upto_region 4 with fail
  generalize W2.alloc (.cells #[.int .i64 u', .slice Ay ny cy, .slice By my cz] 41) = W3 at *
  generalize W2.heap.size = gy at *
  go_wp2_with fail
  go_loopw [6] (fun t W => ∃ k : Nat, k ≤ 10 ∧ t = .int .i64 k ∧ Hid (MadeAt w g 3 t' (.slice A' n' ca) (.slice B' m' cb) T W) ∧ Hid (MadeAt w gy 3 u' (.slice Ay ny cy) (.slice By my cz) Y W)) (fun t _ => 10 - (intOf t).toNat)
  case atStart => exact ⟨0, by omega, rfl, HM2, HY2⟩
  case round =>
    obtain ⟨k, hk, rfl, hM, hY⟩ := hrel
    by_cases hlt : k < 10
    · go_wp2_with fail
      refine (TN_run _ _ _ (by omega) (by omega) hM.out.tape).mono ?_
      rintro e W4 ⟨r, hr0, hr1, rfl, hs4, hg4⟩
      have hM4 := hM.out.grown hs4 hg4
      have hY4 := hY.out.grown hs4 hg4
      have hS := Lib.hid (twoM hM4.drew hY4.drew)
      have hA4 := HSD.out r
      have hB4 := HBD.out r
      clear hM hY hM4 hY4 hs4 hg4
      go_upto_region 8 with fail
      cases hA : satB 3 T r
      all_goals
        rw [hA] at hA4
        cases hB : blkB 3 T r
        all_goals
          rw [hB] at hB4
          go_region_held3 (fun W => W.cell? ⟨g, 0, none⟩ = some (.int .i64 t') ∧ W.cell? ⟨g, 1, none⟩ = some (.slice A' n' ca) ∧ W.cell? ⟨g, 2, none⟩ = some (.slice B' m' cb) ∧ W.cell? ⟨gy, 0, none⟩ = some (.int .i64 u') ∧ W.cell? ⟨gy, 1, none⟩ = some (.slice Ay ny cy) ∧ W.cell? ⟨gy, 2, none⟩ = some (.slice By my cz) ∧ MadeAt w g 3 t' (.slice A' n' ca) (.slice B' m' cb) T W ∧ MadeAt w gy 3 u' (.slice Ay ny cy) (.slice By my cz) Y W) (first | exact hS.out | exact keepTwo (by assumption) hbK | go_keep)
            (first
              | (go_at_call_of 45 A'; refine (satisfied_run _ 3 T _ _ _ r _ (by exact tatX (by assumption))).mono ?_; rintro e WK ⟨rfl, hbK⟩; rw [hA])
              | (go_at_call_of 45 Ay; refine (satisfied_run _ 3 Y _ _ _ r _ (by exact tatY (by assumption))).mono ?_; rintro e WK ⟨rfl, hbK⟩; rw [hA4])
              | (go_at_call_of 46 A'; refine (blocked_run _ 3 T _ _ _ r _ (by exact tatX (by assumption))).mono ?_; rintro e WK ⟨rfl, hbK⟩; rw [hB])
              | (go_at_call_of 46 Ay; refine (blocked_run _ 3 Y _ _ _ r _ (by exact tatY (by assumption))).mono ?_; rintro e WK ⟨rfl, hbK⟩; rw [hB4]))
          all_goals
            have hF : WK.cell? ⟨g, 0, none⟩ = some (.int .i64 t') ∧ WK.cell? ⟨g, 1, none⟩ = some (.slice A' n' ca) ∧ WK.cell? ⟨g, 2, none⟩ = some (.slice B' m' cb) ∧ WK.cell? ⟨gy, 0, none⟩ = some (.int .i64 u') ∧ WK.cell? ⟨gy, 1, none⟩ = some (.slice Ay ny cy) ∧ WK.cell? ⟨gy, 2, none⟩ = some (.slice By my cz) ∧ MadeAt w g 3 t' (.slice A' n' ca) (.slice B' m' cb) T WK ∧ MadeAt w gy 3 u' (.slice Ay ny cy) (.slice By my cz) Y WK := by assumption
            have hM5 := Lib.hid (madeX hF).1
            have hY5 := Lib.hid (madeX hF).2
            clear hF
            go_wp2_with fail
            go_roundw
            case rel => exact ⟨k + 1, by omega, by go_num, hM5, hY5⟩
            case measure => simp [intOf]; omega
    · have hS := Lib.hid (twoM hM.out.drew hY.out.drew)
      clear hM hY
      have hsx : sizeT 3 T ≤ 1000000 := Nat.le_trans HZ.out (by omega)
      have hsy : sizeT 3 Y ≤ 1000000 := Nat.le_trans HZY.out (by omega)
      have HSX := Lib.hid hsx
      have HSY := Lib.hid hsy
      have h3k : 3 ≤ 1000 := by omega
      clear hsx hsy
      obtain ⟨q1, hq1⟩ : ∃ q, sizeT 3 T = q := ⟨_, rfl⟩
      obtain ⟨q2, hq2⟩ : ∃ q, depthT 3 T = q := ⟨_, rfl⟩
      obtain ⟨q3, hq3⟩ : ∃ q, usesT 3 T = q := ⟨_, rfl⟩
      have p1 := HE1.out
      have p2 := HE2.out
      have p3 := HE3.out
      rw [hq1] at p1
      rw [hq2] at p2
      rw [hq3] at p3
      have P1 := Lib.hid p1
      have P2 := Lib.hid p2
      have P3 := Lib.hid p3
      have Q1 := Lib.hid hq1
      have Q2 := Lib.hid hq2
      have Q3 := Lib.hid hq3
      clear p1 p2 p3 hq1 hq2 hq3
      go_upto_region 10 with fail
      go_region_held3 (fun W => W.cell? ⟨g, 0, none⟩ = some (.int .i64 t') ∧ W.cell? ⟨g, 1, none⟩ = some (.slice A' n' ca) ∧ W.cell? ⟨g, 2, none⟩ = some (.slice B' m' cb) ∧ W.cell? ⟨gy, 0, none⟩ = some (.int .i64 u') ∧ W.cell? ⟨gy, 1, none⟩ = some (.slice Ay ny cy) ∧ W.cell? ⟨gy, 2, none⟩ = some (.slice By my cz) ∧ MadeAt w g 3 t' (.slice A' n' ca) (.slice B' m' cb) T W ∧ MadeAt w gy 3 u' (.slice Ay ny cy) (.slice By my cz) Y W) (first | exact hS.out | exact keepTwo (by assumption) hbK | go_keep)
        (first
          | (go_at_call_of 51 A'; refine (psize_run _ 3 T _ _ _ _ (by exact tatX (by assumption)) (by exact HSX.out)).mono ?_; rintro e WK ⟨rfl, hbK⟩; rw [Q1.out])
          | (go_at_call_of 51 Ay; refine (psize_run _ 3 Y _ _ _ _ (by exact tatY (by assumption)) (by exact HSY.out)).mono ?_; rintro e WK ⟨rfl, hbK⟩; rw [P1.out])
          | (go_at_call_of 52 A'; refine (pdepth_run _ 3 T _ _ _ _ (by exact h3k) (by exact tatX (by assumption))).mono ?_; rintro e WK ⟨rfl, hbK⟩; rw [Q2.out])
          | (go_at_call_of 52 Ay; refine (pdepth_run _ 3 Y _ _ _ _ (by exact h3k) (by exact tatY (by assumption))).mono ?_; rintro e WK ⟨rfl, hbK⟩; rw [P2.out])
          | (go_at_call_of 49 A'; refine (puses_run _ 3 T _ _ _ _ (by exact tatX (by assumption))).mono ?_; rintro e WK ⟨rfl, hbK⟩; rw [Q3.out])
          | (go_at_call_of 49 Ay; refine (puses_run _ 3 Y _ _ _ _ (by exact tatY (by assumption))).mono ?_; rintro e WK ⟨rfl, hbK⟩; rw [P3.out])
          | (go_at_call 53; refine (pvalid_run n hn10 3 (by exact Nat.le_succ 3) _ Y _ _ _ _ (by exact tatY (by assumption)) (by exact HWY.out) (by exact HZY.out)).mono ?_; rintro e WK ⟨rfl, hbK⟩)
          | (go_at_call 48; refine (awake02 _).mono ?_; rintro e WK ⟨rfl, hbK⟩))
      all_goals
        have hF : WK.cell? ⟨g, 0, none⟩ = some (.int .i64 t') ∧ WK.cell? ⟨g, 1, none⟩ = some (.slice A' n' ca) ∧ WK.cell? ⟨g, 2, none⟩ = some (.slice B' m' cb) ∧ WK.cell? ⟨gy, 0, none⟩ = some (.int .i64 u') ∧ WK.cell? ⟨gy, 1, none⟩ = some (.slice Ay ny cy) ∧ WK.cell? ⟨gy, 2, none⟩ = some (.slice By my cz) ∧ MadeAt w g 3 t' (.slice A' n' ca) (.slice B' m' cb) T WK ∧ MadeAt w gy 3 u' (.slice Ay ny cy) (.slice By my cz) Y WK := by assumption
        have hM4 := Lib.hid (madeX hF).1.below
        clear hF
        go_wp2_with fail
        go_ret
        exact ⟨rfl, hM4.out⟩
end Go.Proofs.Ytmgiojdipheokaa
