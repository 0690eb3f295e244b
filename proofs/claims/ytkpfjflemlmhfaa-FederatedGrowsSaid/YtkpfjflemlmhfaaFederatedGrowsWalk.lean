/- The walk of FederatedGrows: both rules hold with more nodes, too, and who may confirm may accept. -/
import Derived.Test.YtkpfjflemlmhfaaAwake18
import Derived.Deep.DeepCutAuto
import Derived.Deep.CutRange
namespace Go.Proofs.Ytkpfjflemlmhfaa
set_option linter.unusedVariables false
set_option linter.unusedSimpArgs false
open Go.RowKit

set_option maxRecDepth 100000 in
set_option maxHeartbeats 4000000 in
theorem walkFederatedGrows (a0 : Option Addr) (len0 cap0 : Nat) (z0 : List Int) (w : World) (w0 : IsRow .i64 w a0 len0 cap0 z0) :
    Calls Try.prog 7 #[.slice a0 len0 cap0] w fun e w' => e = .returned (.bool true) ∧ Below w.heap.size w w' := by
  have HR := Lib.hid w0
  clear w0
  go_enter Try.func7, Try.ntmps7
  go_wp2_with fail
  refine (TNew_run _ _ _ _ _ HR.out).mono ?_
  rintro e v0 ⟨rfl, hs0, hb0⟩
  have HS0 := Lib.hid hs0
  have HB0 := Lib.hid hb0
  have hsl := hs0.lt
  clear hs0 hb0
  go_wp2_with fail
  refine (config_run _ 8 (by omega) (by omega) _ HS0.out).mono ?_
  rintro e v2 ⟨cv, ms, rfl, hl1, hl2, hM, hok, hs2, hg2⟩
  have hM0 := id hM
  obtain ⟨A, c, hcv, _⟩ := hM0
  obtain ⟨L, hL⟩ : ∃ L, ms.length = L := ⟨_, rfl⟩
  rw [hL] at hcv
  subst hcv
  have hba := balloc (bref v2) (.cells #[.slice A L c] 27)
  have HM := Lib.hid (show CMade w v2.heap.size (.slice A L c) ms (v2.alloc (.cells #[.slice A L c] 27)) from
    ⟨hs2.alloc _, alloc_at rfl, (hM.both (Q := fun b => w.heap.size < b) (fun _ _ _ => rfl) (fun k _ hk => by omega)).below hba, hs2.lt, bstep (bgrownC HB0.out hg2 (Nat.le_refl _)) hba⟩)
  have HL := Lib.hid hL
  have hl10 : ms.length ≤ 10 := by omega
  clear hM hok hs2 hg2 hba HS0 HB0 hl1 hL
  go_upto_region 3 with fail
  generalize v2.alloc (.cells #[.slice A L c] 27) = W1 at *
  generalize v2.heap.size = g at *
  go_wp2_with fail
  go_loopw [5] (fun t W => ∃ i : Nat, i ≤ 12 ∧ t = .int .i64 i ∧ Hid (CMade w g (.slice A L c) ms W)) (fun t _ => 12 - (intOf t).toNat)
  case atStart => exact ⟨0, by omega, rfl, HM⟩
  case round =>
    obtain ⟨i, hi, rfl, hM⟩ := hrel
    by_cases hlt : i < 12
    · have hi12 : (i : Int) < 12 := by omega
      go_wp2_with fail
      refine (TN_run _ _ _ (by omega) (by omega) hM.out.tape).mono ?_
      rintro e X0 ⟨r, hr0k, hr1k, rfl, hs, hg⟩
      obtain ⟨k, rfl⟩ := Int.eq_ofNat_of_zero_le hr0k
      have H0 := Lib.hid (hM.out.grown hs hg)
      clear hs hg hM
      go_wp2_with fail
      refine (TN_run _ _ _ (by omega) (by omega) H0.out.tape).mono ?_
      rintro e X1 ⟨r, hr0a, hr1a, rfl, hs, hg⟩
      obtain ⟨a, rfl⟩ := Int.eq_ofNat_of_zero_le hr0a
      have H1 := Lib.hid (H0.out.grown hs hg)
      clear hs hg H0
      go_wp2_with fail
      refine (TN_run _ _ _ (by omega) (by omega) H1.out.tape).mono ?_
      rintro e X2 ⟨r, hr0b, hr1b, rfl, hs, hg⟩
      obtain ⟨b, rfl⟩ := Int.eq_ofNat_of_zero_le hr0b
      have H2 := Lib.hid (H1.out.grown hs hg)
      clear hs hg H1
      go_wp2_with fail
      refine (TN_run _ _ _ (by omega) (by omega) H2.out.tape).mono ?_
      rintro e X3 ⟨r, hr0p, hr1p, rfl, hs, hg⟩
      obtain ⟨p, rfl⟩ := Int.eq_ofNat_of_zero_le hr0p
      have H3 := Lib.hid (H2.out.grown hs hg)
      clear hs hg H2
      have horp := i64_or_nat a p (by omega) (by omega)
      go_wp2_with fail
      refine (TN_run _ _ _ (by omega) (by omega) H3.out.tape).mono ?_
      rintro e X4 ⟨r, hr0q, hr1q, rfl, hs, hg⟩
      obtain ⟨q, rfl⟩ := Int.eq_ofNat_of_zero_le hr0q
      have H4 := Lib.hid (H3.out.grown hs hg)
      clear hs hg H3
      have horq := i64_or_nat b q (by omega) (by omega)
      have hxl : a ||| p < 1024 := Nat.or_lt_two_pow (n := 10) (by omega) (by omega)
      have hyl : b ||| q < 1024 := Nat.or_lt_two_pow (n := 10) (by omega) (by omega)
      have hk10 : k < 10 := by omega
      have hal : a < 1024 := by omega
      have hbl : b < 1024 := by omega
      have F1 := Lib.hid (fun h => accB_sub (d := 2) (ms := ms) (k := k) hyl (sub_orL (a := a) (b := p)) (sub_orL (a := b) (b := q)) h)
      have F2 := Lib.hid (fun h => cnfB_sub (d := 2) (ms := ms) (k := k) (sub_orL (a := b) (b := q)) h)
      have F3 := Lib.hid (fun h => cnf_acc1 (d := 2) (ms := ms) (k := k) (b := b) h)
      have F4 := Lib.hid (fun h => cnf_acc2 (d := 2) (ms := ms) (k := k) (b := b) h)
      generalize a ||| p = x at *
      generalize b ||| q = y at *
      have c0 := H4.out.cell
      go_wp2_with fail
      refine (accepts_run _ 2 ms _ k a b _ hl10 hal hbl hk10 H4.out.mems).mono ?_
      rintro e Y0 ⟨rfl, hb0⟩
      have G0 := Lib.hid (H4.out.bel hb0)
      clear hb0 c0
      cases hA : accB 2 ms k a b
      · have HA := Lib.hid hA
        clear hA
        have c0 := G0.out.cell
        go_wp2_with fail
        refine (confirms_run _ 2 ms _ k b _ hl10 hbl hk10 G0.out.mems).mono ?_
        rintro e Y2 ⟨rfl, hbW⟩
        have G2 := Lib.hid (G0.out.bel hbW)
        clear hbW c0
        cases hC : cnfB 2 ms k b
        · have HC := Lib.hid hC
          clear hC
          have c0 := G2.out.cell
          go_wp2_with fail
          refine (confirms_run _ 2 ms _ k b _ hl10 hbl hk10 G2.out.mems).mono ?_
          rintro e Y4 ⟨rfl, hbW⟩
          have G4 := Lib.hid (G2.out.bel hbW)
          rw [HC.out]
          clear hbW c0
          go_wp2_with fail
          go_roundw
          case rel => exact ⟨i + 1, by omega, by go_num, G4⟩
          case measure => simp [intOf]; omega
        · have HC := Lib.hid hC
          clear hC
          have c0 := G2.out.cell
          go_wp2_with fail
          refine (confirms_run _ 2 ms _ k y _ hl10 hyl hk10 G2.out.mems).mono ?_
          rintro e Y3 ⟨rfl, hbW⟩
          have G3 := Lib.hid (G2.out.bel hbW)
          rw [F2.out HC.out]
          clear hbW c0
          have c0 := G3.out.cell
          go_wp2_with fail
          refine (confirms_run _ 2 ms _ k b _ hl10 hbl hk10 G3.out.mems).mono ?_
          rintro e Y4 ⟨rfl, hbW⟩
          have G4 := Lib.hid (G3.out.bel hbW)
          rw [HC.out]
          clear hbW c0
          have c0 := G4.out.cell
          go_wp2_with fail
          refine (accepts_run _ 2 ms _ k 0 b _ hl10 (by omega) hbl hk10 G4.out.mems).mono ?_
          rintro e Y5 ⟨rfl, hbW⟩
          have G5 := Lib.hid (G4.out.bel hbW)
          rw [F3.out HC.out]
          clear hbW c0
          have c0 := G5.out.cell
          go_wp2_with fail
          refine (accepts_run _ 2 ms _ k b 0 _ hl10 hbl (by omega) hk10 G5.out.mems).mono ?_
          rintro e Y6 ⟨rfl, hbW⟩
          have G6 := Lib.hid (G5.out.bel hbW)
          rw [F4.out HC.out]
          clear hbW c0
          go_wp2_with fail
          go_roundw
          case rel => exact ⟨i + 1, by omega, by go_num, G6⟩
          case measure => simp [intOf]; omega
      · have HA := Lib.hid hA
        clear hA
        have c0 := G0.out.cell
        go_wp2_with fail
        refine (accepts_run _ 2 ms _ k x y _ hl10 hxl hyl hk10 G0.out.mems).mono ?_
        rintro e Y1 ⟨rfl, hbW⟩
        have G1 := Lib.hid (G0.out.bel hbW)
        rw [F1.out HA.out]
        clear hbW c0
        have c0 := G1.out.cell
        go_wp2_with fail
        refine (confirms_run _ 2 ms _ k b _ hl10 hbl hk10 G1.out.mems).mono ?_
        rintro e Y2 ⟨rfl, hbW⟩
        have G2 := Lib.hid (G1.out.bel hbW)
        clear hbW c0
        cases hC : cnfB 2 ms k b
        · have HC := Lib.hid hC
          clear hC
          have c0 := G2.out.cell
          go_wp2_with fail
          refine (confirms_run _ 2 ms _ k b _ hl10 hbl hk10 G2.out.mems).mono ?_
          rintro e Y4 ⟨rfl, hbW⟩
          have G4 := Lib.hid (G2.out.bel hbW)
          rw [HC.out]
          clear hbW c0
          go_wp2_with fail
          go_roundw
          case rel => exact ⟨i + 1, by omega, by go_num, G4⟩
          case measure => simp [intOf]; omega
        · have HC := Lib.hid hC
          clear hC
          have c0 := G2.out.cell
          go_wp2_with fail
          refine (confirms_run _ 2 ms _ k y _ hl10 hyl hk10 G2.out.mems).mono ?_
          rintro e Y3 ⟨rfl, hbW⟩
          have G3 := Lib.hid (G2.out.bel hbW)
          rw [F2.out HC.out]
          clear hbW c0
          have c0 := G3.out.cell
          go_wp2_with fail
          refine (confirms_run _ 2 ms _ k b _ hl10 hbl hk10 G3.out.mems).mono ?_
          rintro e Y4 ⟨rfl, hbW⟩
          have G4 := Lib.hid (G3.out.bel hbW)
          rw [HC.out]
          clear hbW c0
          have c0 := G4.out.cell
          go_wp2_with fail
          refine (accepts_run _ 2 ms _ k 0 b _ hl10 (by omega) hbl hk10 G4.out.mems).mono ?_
          rintro e Y5 ⟨rfl, hbW⟩
          have G5 := Lib.hid (G4.out.bel hbW)
          rw [F3.out HC.out]
          clear hbW c0
          have c0 := G5.out.cell
          go_wp2_with fail
          refine (accepts_run _ 2 ms _ k b 0 _ hl10 hbl (by omega) hk10 G5.out.mems).mono ?_
          rintro e Y6 ⟨rfl, hbW⟩
          have G6 := Lib.hid (G5.out.bel hbW)
          rw [F4.out HC.out]
          clear hbW c0
          go_wp2_with fail
          go_roundw
          case rel => exact ⟨i + 1, by omega, by go_num, G6⟩
          case measure => simp [intOf]; omega
    · obtain rfl : i = 12 := by omega
      go_wp2_with fail
      refine (awake18 _).mono ?_
      rintro e Z ⟨rfl, hbz⟩
      have HZ := Lib.hid (bstep hM.out.below hbz)
      clear hbz
      go_wp2_with fail
      go_ret
      exact ⟨rfl, HZ.out⟩
end Go.Proofs.Ytkpfjflemlmhfaa
