/- The walk of ThresholdGrows: a set which satisfies or blocks a trust still does with more nodes, and nodes which the trust does not use make no difference. -/
import Derived.Test.YtmgiojdipheokaaMade
import Derived.Test.YtmgiojdipheokaaUsesMath
import Derived.Deep.RegionHeld3
import Derived.Deep.DeepCutAuto
import Derived.Deep.CutRange
namespace Go.Proofs.Ytmgiojdipheokaa
set_option linter.unusedVariables false
open Go.RowKit

set_option maxRecDepth 100000 in
set_option maxHeartbeats 4000000 in
theorem walkThresholdGrows (a0 : Option Addr) (len0 cap0 : Nat) (z0 : List Int) (w : World) (w0 : IsRow .i64 w a0 len0 cap0 z0) :
    Calls Try.prog 9 #[.slice a0 len0 cap0] w fun e w' => e = .returned (.bool true) ∧ Below w.heap.size w w' := by
  have HR := Lib.hid w0
  clear w0
  go_enter Try.func9, Try.ntmps9
  go_wp2_with fail
  refine (TNew_run _ _ _ _ _ HR.out).mono ?_
  rintro e v0 ⟨rfl, hs0, hb0⟩
  have HS0 := Lib.hid hs0
  have HB0 := Lib.hid hb0
  clear hs0 hb0
  go_wp2_with fail
  refine (TRange_run _ _ _ _ (by omega) (by omega) (by omega) HS0.out).mono ?_
  rintro e v1 ⟨r, hr0, hr1, rfl, hs1, hg1⟩
  obtain ⟨n, rfl⟩ := Int.eq_ofNat_of_zero_le (show 0 ≤ r by omega)
  have HS1 := Lib.hid hs1
  have HB1 := Lib.hid (bgrownT HB0.out hg1 (Nat.le_refl _))
  have hsl := hs1.lt
  clear hs1 hg1
  go_wp2_with fail
  refine (mkTrust_run _ n (by omega) (by omega) 3 (by omega) _ HS1.out).mono ?_
  rintro e v2 ⟨x0, x1, x2, T, rfl, hT, hF, hs2, hg2⟩
  obtain ⟨t', A', n', ca, B', m', cb, rfl, rfl, rfl⟩ := hT.form
  have hMA : MadeAt w v2.heap.size 4 t' (.slice A' n' ca) (.slice B' m' cb) T (v2.alloc (.cells #[.int .i64 t', .slice A' n' ca, .slice B' m' cb] 41)) :=
    ⟨hs2.alloc _, heap_alloc_new _ _, (hT.imp (fun k _ hk => by omega)).below (balloc (bref _) _), hs2.lt, balloc (bgrownT HB1.out hg2 (Nat.le_refl _)) _⟩
  have HM := Lib.hid hMA
  have HW := Lib.hid hF.1
  have hn10 : (n : Int) ≤ 10 := hr1
  clear hT hF hs2 hg2 hMA HS1 HB1 HS0 HB0
  go_upto_region 3 with fail
  generalize v2.alloc (.cells #[.int .i64 t', .slice A' n' ca, .slice B' m' cb] 41) = W1 at *
  generalize v2.heap.size = g at *
  obtain ⟨c0, c1, c2⟩ := HM.out.out.cs
  go_wp2_with fail
  refine (puses_run _ 4 T _ _ _ _ HM.out.tat).mono ?_
  rintro e W2 ⟨rfl, hb⟩
  have HM2 := Lib.hid (HM.out.bel hb)
  have hul := usesT_lt 4 T
  obtain ⟨u, hu⟩ : ∃ u, usesT 4 T = u := ⟨_, rfl⟩
  rw [hu] at hul ⊢
  have HU := Lib.hid hu
  clear hb c0 c1 c2 HM hu
  go_wp2_with fail
  go_loopw [6] (fun t W => ∃ k : Nat, k ≤ 6 ∧ t = .int .i64 k ∧ Hid (MadeAt w g 4 t' (.slice A' n' ca) (.slice B' m' cb) T W)) (fun t _ => 6 - (intOf t).toNat)
  case atStart => exact ⟨0, by omega, rfl, HM2⟩
  case round =>
    obtain ⟨k, hk, rfl, hM⟩ := hrel
    by_cases hlt : k < 6
    · go_wp2_with fail
      refine (TN_run _ _ _ (by omega) (by omega) hM.out.tape).mono ?_
      rintro e W2 ⟨r, hr0, hr1, rfl, hs2, hg2⟩
      obtain ⟨a, rfl⟩ := Int.eq_ofNat_of_zero_le hr0
      have hM2 := Lib.hid (hM.out.grown hs2 hg2)
      clear hs2 hg2
      go_wp2_with fail
      refine (TN_run _ _ _ (by omega) (by omega) hM2.out.tape).mono ?_
      rintro e W3 ⟨r, hr2, hr3, rfl, hs2, hg2⟩
      obtain ⟨b, rfl⟩ := Int.eq_ofNat_of_zero_le hr2
      have hM3 := Lib.hid (hM2.out.grown hs2 hg2)
      have ha : a < 1024 := by omega
      have hb : b < 1024 := by omega
      clear hs2 hg2 hM hM2 hr0 hr1 hr2 hr3
      have hab : a ||| b < 1024 := Nat.or_lt_two_pow (n := 10) ha hb
      have hor := i64_or_nat a b (by omega) (by omega)
      have hau := i64_and_nat a u (by omega) (by omega)
      have hA1 := Lib.hid (sat_or hn10 HW.out ha hb)
      have hB1 := Lib.hid (blk_or hn10 HW.out ha hb)
      have hA2 := Lib.hid (sat_uses hn10 HW.out ha)
      have hB2 := Lib.hid (blk_uses hn10 HW.out ha)
      generalize hoo : a ||| b = o at *
      have HOO := Lib.hid hoo
      clear hoo
      go_upto_region 9 with fail
      obtain ⟨c0, c1, c2⟩ := hM3.out.out.cs
      go_cut [46] (fun u W => u = .bool false ∧ Hid (MadeAt w g 4 t' (.slice A' n' ca) (.slice B' m' cb) T W))
      case first =>
        cases hA : satB 4 T (a : Int)
        · cases hB : blkB 4 T (a : Int)
          · go_wp2_with fail
            refine (satisfied_run _ 4 T _ _ _ (a : Int) _ hM3.out.tat).mono ?_
            rintro e WhM4 ⟨rfl, hbb⟩
            rw [hA]
            have hM4 := Lib.hid (hM3.out.bel hbb)
            clear hbb c0 c1 c2
            obtain ⟨c0, c1, c2⟩ := hM4.out.out.cs
            go_wp2_with fail
            refine (blocked_run _ 4 T _ _ _ (a : Int) _ hM4.out.tat).mono ?_
            rintro e WhM5 ⟨rfl, hbb⟩
            rw [hB]
            have hM5 := Lib.hid (hM4.out.bel hbb)
            clear hbb c0 c1 c2
            obtain ⟨c0, c1, c2⟩ := hM5.out.out.cs
            go_wp2_with fail
            go_meet
            exact ⟨rfl, hM5⟩
          · have hB3 := hB1.out hB
            go_wp2_with fail
            refine (satisfied_run _ 4 T _ _ _ (a : Int) _ hM3.out.tat).mono ?_
            rintro e WhM4 ⟨rfl, hbb⟩
            rw [hA]
            have hM4 := Lib.hid (hM3.out.bel hbb)
            clear hbb c0 c1 c2
            obtain ⟨c0, c1, c2⟩ := hM4.out.out.cs
            go_wp2_with fail
            refine (blocked_run _ 4 T _ _ _ (a : Int) _ hM4.out.tat).mono ?_
            rintro e WhM5 ⟨rfl, hbb⟩
            rw [hB]
            have hM5 := Lib.hid (hM4.out.bel hbb)
            clear hbb c0 c1 c2
            obtain ⟨c0, c1, c2⟩ := hM5.out.out.cs
            go_wp2_with fail
            refine (blocked_run _ 4 T _ _ _ (o : Int) _ hM5.out.tat).mono ?_
            rintro e WhM6 ⟨rfl, hbb⟩
            rw [hB3]
            have hM6 := Lib.hid (hM5.out.bel hbb)
            clear hbb c0 c1 c2
            obtain ⟨c0, c1, c2⟩ := hM6.out.out.cs
            go_wp2_with fail
            go_meet
            exact ⟨rfl, hM6⟩
        · have hA3 := hA1.out hA
          cases hB : blkB 4 T (a : Int)
          · go_wp2_with fail
            refine (satisfied_run _ 4 T _ _ _ (a : Int) _ hM3.out.tat).mono ?_
            rintro e WhM4 ⟨rfl, hbb⟩
            rw [hA]
            have hM4 := Lib.hid (hM3.out.bel hbb)
            clear hbb c0 c1 c2
            obtain ⟨c0, c1, c2⟩ := hM4.out.out.cs
            go_wp2_with fail
            refine (satisfied_run _ 4 T _ _ _ (o : Int) _ hM4.out.tat).mono ?_
            rintro e WhM5 ⟨rfl, hbb⟩
            rw [hA3]
            have hM5 := Lib.hid (hM4.out.bel hbb)
            clear hbb c0 c1 c2
            obtain ⟨c0, c1, c2⟩ := hM5.out.out.cs
            go_wp2_with fail
            refine (blocked_run _ 4 T _ _ _ (a : Int) _ hM5.out.tat).mono ?_
            rintro e WhM6 ⟨rfl, hbb⟩
            rw [hB]
            have hM6 := Lib.hid (hM5.out.bel hbb)
            clear hbb c0 c1 c2
            obtain ⟨c0, c1, c2⟩ := hM6.out.out.cs
            go_wp2_with fail
            go_meet
            exact ⟨rfl, hM6⟩
          · have hB3 := hB1.out hB
            go_wp2_with fail
            refine (satisfied_run _ 4 T _ _ _ (a : Int) _ hM3.out.tat).mono ?_
            rintro e WhM4 ⟨rfl, hbb⟩
            rw [hA]
            have hM4 := Lib.hid (hM3.out.bel hbb)
            clear hbb c0 c1 c2
            obtain ⟨c0, c1, c2⟩ := hM4.out.out.cs
            go_wp2_with fail
            refine (satisfied_run _ 4 T _ _ _ (o : Int) _ hM4.out.tat).mono ?_
            rintro e WhM5 ⟨rfl, hbb⟩
            rw [hA3]
            have hM5 := Lib.hid (hM4.out.bel hbb)
            clear hbb c0 c1 c2
            obtain ⟨c0, c1, c2⟩ := hM5.out.out.cs
            go_wp2_with fail
            refine (blocked_run _ 4 T _ _ _ (a : Int) _ hM5.out.tat).mono ?_
            rintro e WhM6 ⟨rfl, hbb⟩
            rw [hB]
            have hM6 := Lib.hid (hM5.out.bel hbb)
            clear hbb c0 c1 c2
            obtain ⟨c0, c1, c2⟩ := hM6.out.out.cs
            go_wp2_with fail
            refine (blocked_run _ 4 T _ _ _ (o : Int) _ hM6.out.tat).mono ?_
            rintro e WhM7 ⟨rfl, hbb⟩
            rw [hB3]
            have hM7 := Lib.hid (hM6.out.bel hbb)
            clear hbb c0 c1 c2
            obtain ⟨c0, c1, c2⟩ := hM7.out.out.cs
            go_wp2_with fail
            go_meet
            exact ⟨rfl, hM7⟩
      case rest =>
        obtain ⟨rfl, hM4⟩ := hcut
        clear c0 c1 c2 hM3
        have hau2 : a &&& u < 1024 := Nat.lt_of_le_of_lt Nat.and_le_left ha
        go_upto_region 11 with fail
        have hS6 := Lib.hid hM4.out.drew.keeps
        rw [HU.out] at hA2 hB2
        generalize hx : a &&& u = x at *
        have HX := Lib.hid hx
        clear hx
        cases hA : satB 4 T (a : Int)
        all_goals
          have hA4 := hA2.out
          rw [hA] at hA4
          cases hB : blkB 4 T (a : Int)
          all_goals
            have hB4 := hB2.out
            rw [hB] at hB4
            go_region_held3 (fun W => W.cell? ⟨g, 0, none⟩ = some (.int .i64 t') ∧ W.cell? ⟨g, 1, none⟩ = some (.slice A' n' ca) ∧ W.cell? ⟨g, 2, none⟩ = some (.slice B' m' cb) ∧ MadeAt w g 4 t' (.slice A' n' ca) (.slice B' m' cb) T W) (first | exact hS6.out | exact keepM (by assumption) hbK | go_keep)
              (first
                | (go_at_call_of 45 (Value.int .i64 (a : Int)); refine (satisfied_run _ 4 T _ _ _ (a : Int) _ (by exact tatM (by assumption))).mono ?_; rintro e WK ⟨rfl, hbK⟩; rw [hA])
                | (go_at_call_of 45 (Value.int .i64 (x : Int)); refine (satisfied_run _ 4 T _ _ _ (x : Int) _ (by exact tatM (by assumption))).mono ?_; rintro e WK ⟨rfl, hbK⟩; rw [hA4])
                | (go_at_call_of 46 (Value.int .i64 (a : Int)); refine (blocked_run _ 4 T _ _ _ (a : Int) _ (by exact tatM (by assumption))).mono ?_; rintro e WK ⟨rfl, hbK⟩; rw [hB])
                | (go_at_call_of 46 (Value.int .i64 (x : Int)); refine (blocked_run _ 4 T _ _ _ (x : Int) _ (by exact tatM (by assumption))).mono ?_; rintro e WK ⟨rfl, hbK⟩; rw [hB4]))
            all_goals
              have hF : WK.cell? ⟨g, 0, none⟩ = some (.int .i64 t') ∧ WK.cell? ⟨g, 1, none⟩ = some (.slice A' n' ca) ∧ WK.cell? ⟨g, 2, none⟩ = some (.slice B' m' cb) ∧ MadeAt w g 4 t' (.slice A' n' ca) (.slice B' m' cb) T WK := by assumption
              have hMF := Lib.hid hF.2.2.2
              clear hF
              go_wp2_with fail
              go_roundw
              case rel => exact ⟨k + 1, by omega, by go_num, hMF⟩
              case measure => simp [intOf]; try omega
    · obtain rfl : k = 6 := by omega
      go_wp2_with fail
      refine (awake02 _).mono ?_
      rintro e Z ⟨rfl, hbz⟩
      go_wp2_with fail
      go_ret
      exact ⟨rfl, bstep hM.out.below hbz⟩
end Go.Proofs.Ytmgiojdipheokaa
