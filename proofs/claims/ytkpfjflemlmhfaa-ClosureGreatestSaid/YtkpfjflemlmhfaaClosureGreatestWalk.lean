/- The walk of ClosureGreatest: Greatest is empty or a quorum, lies in the set, and has every quorum in the set as a subset. -/
import Derived.Test.YtkpfjflemlmhfaaCMade
import Derived.Deep.DeepCutAuto
import Derived.Deep.CutRange
namespace Go.Proofs.Ytkpfjflemlmhfaa
set_option linter.unusedVariables false
open Go.RowKit

theorem and_eq_iff {a b : Nat} : a &&& b = a ↔ Sub a b := by
  constructor
  · intro h k hk
    rw [← h, Nat.testBit_and, Bool.and_eq_true] at hk
    exact hk.2
  · intro h
    apply Nat.eq_of_testBit_eq
    intro k
    rw [Nat.testBit_and]
    cases hb : a.testBit k
    · rfl
    · rw [h k hb]; rfl
theorem pow_fact (L : Nat) (hL : L ≤ 10) : wrap64 (2 ^ L) = ((2 ^ L : Nat) : Int) := by
  have all : ∀ L : Fin 11, wrap64 (2 ^ L.val) = ((2 ^ L.val : Nat) : Int) := by decide +kernel
  exact all ⟨L, by omega⟩

set_option maxRecDepth 100000 in
set_option maxHeartbeats 4000000 in
theorem walkClosureGreatest (a0 : Option Addr) (len0 cap0 : Nat) (z0 : List Int) (w : World) (w0 : IsRow .i64 w a0 len0 cap0 z0) :
    Calls Try.prog 4 #[.slice a0 len0 cap0] w fun e w' => e = .returned (.bool true) ∧ Below w.heap.size w w' := by
  have HR := Lib.hid w0
  clear w0
  go_enter Try.func4, Try.ntmps4
  go_wp2_with fail
  refine (TNew_run _ _ _ _ _ HR.out).mono ?_
  rintro e v0 ⟨rfl, hs0, hb0⟩
  have HS0 := Lib.hid hs0
  have HB0 := Lib.hid hb0
  have hsl := hs0.lt
  clear hs0 hb0
  go_wp2_with fail
  refine (config_run _ 7 (by omega) (by omega) _ HS0.out).mono ?_
  rintro e v2 ⟨cv, ms, rfl, hl1, hl2, hM, hok, hs2, hg2⟩
  have hM0 := id hM
  obtain ⟨A, c, hcv, _⟩ := hM0
  subst hcv
  have hba := balloc (bref v2) (.cells #[.slice A ms.length c] 27)
  have hCM : CMade w v2.heap.size (.slice A ms.length c) ms (v2.alloc (.cells #[.slice A ms.length c] 27)) :=
    ⟨hs2.alloc _, alloc_at rfl, (hM.both (Q := fun b => w.heap.size < b) (fun _ _ _ => rfl) (fun k _ hk => by omega)).below hba, hs2.lt, bstep (bgrownC HB0.out hg2 (Nat.le_refl _)) hba⟩
  have hdl := declS_lt ms ms.length (by omega)
  have hl10 : ms.length ≤ 10 := by omega
  obtain ⟨D, hD⟩ : ∃ D, declS ms ms.length = D := ⟨_, rfl⟩
  have HD := Lib.hid hD
  rw [hD] at hdl
  obtain ⟨L, hL⟩ : ∃ L, ms.length = L := ⟨_, rfl⟩
  have HL := Lib.hid hL
  rw [hL] at hCM hl2
  have HM := Lib.hid hCM
  have hpw : 2 ^ L ≤ 2 ^ 7 := Nat.pow_le_pow_right (by omega) hl2
  have hp1 : 1 ≤ 2 ^ L := Nat.one_le_pow _ _ (by omega)
  have hpf := pow_fact L (by omega)
  clear hM hok hs2 hg2 hba HS0 HB0 hCM hD hl1
  obtain ⟨N, hN⟩ : ∃ N, 2 ^ L = N := ⟨_, rfl⟩
  rw [hN] at hpw hp1 hpf
  clear hN
  have hN2 : N ≤ 128 := hpw
  clear hpw
  rw [hL]
  clear hL
  go_upto_region 3 with fail
  generalize v2.alloc (.cells #[.slice A L c] 27) = W1 at *
  generalize v2.heap.size = g at *
  have c0 := HM.out.cell
  go_wp2_with fail
  refine (TN_run _ _ _ (by omega) (by omega) HM.out.tape).mono ?_
  rintro e W2 ⟨r, hr0, hr1, rfl, hs2, hg2⟩
  obtain ⟨X, rfl⟩ := Int.eq_ofNat_of_zero_le hr0
  have HM2 := Lib.hid (HM.out.grown hs2 hg2)
  clear hs2 hg2 HM c0
  have hXl : X < 1024 := by omega
  have c0 := HM2.out.cell
  go_wp2_with fail
  refine (greatest_run _ 2 ms _ X _ hl10 hXl HM2.out.mems).mono ?_
  rintro e W3 ⟨G, rfl, hGl, hgr, hb3⟩
  rw [HD.out] at hgr
  have HM3 := Lib.hid (HM2.out.bel hb3)
  have HGR := Lib.hid hgr
  have hgx := i64_and_nat G X (by omega) (by omega)
  rw [and_eq_iff.2 (sub_and.1 hgr.sub).1] at hgx
  clear hgr hb3 c0 HM2
  have c0 := HM3.out.cell
  go_upto_region 5 with fail
  go_cut [35] (fun u W => u = .bool false ∧ Hid (CMade w g (.slice A L c) ms W))
  case first =>
    by_cases z1 : G = 0
    · have hz1 : ((G : Int) != 0) = false := by rw [z1]; rfl
      clear z1
      go_wp2_with fail
      go_meet
      exact ⟨rfl, HM3⟩
    · have hz1 : ((G : Int) != 0) = true := by simpa using z1
      go_wp2_with fail
      refine (quorum_run _ 2 ms _ G _ hl10 hGl HM3.out.mems).mono ?_
      rintro e W5 ⟨b, rfl, hb, hb5⟩
      obtain rfl : b = true := hb.2 ⟨z1, by rw [HD.out]; exact (sub_and.1 HGR.out.sub).2, HGR.out.closed⟩
      have HM5 := Lib.hid (HM3.out.bel hb5)
      clear hb hb5
      go_wp2_with fail
      go_meet
      exact ⟨rfl, HM5⟩
  case rest =>
    obtain ⟨rfl, HM5⟩ := hcut
    clear HM3 c0 hgx
    go_wp2_with fail
    go_loopw [7] (fun t W => ∃ k : Nat, k ≤ N ∧ t = .int .i64 k ∧ Hid (CMade w g (.slice A L c) ms W)) (fun t _ => N - (intOf t).toNat)
    case atStart => exact ⟨0, by omega, rfl, HM5⟩
    case round =>
      obtain ⟨k, hk, rfl, hM⟩ := hrel
      have c0 := hM.out.cell
      by_cases hlt : k < N
      · have hkl : k < 1024 := by omega
        have hkx := i64_and_nat k X (by omega) (by omega)
        by_cases hsub : k &&& X = k
        · have hSX := Lib.hid (and_eq_iff.1 hsub)
          rw [hsub] at hkx
          clear hsub
          go_wp2_with fail
          refine (quorum_run _ 2 ms _ k _ hl10 hkl hM.out.mems).mono ?_
          rintro e W6 ⟨b, rfl, hb, hb6⟩
          have hM6 := Lib.hid (hM.out.bel hb6)
          clear hb6 c0 hM
          cases b
          · clear hb
            go_wp2_with fail
            go_roundw
            case rel => exact ⟨k + 1, by omega, by go_num, hM6⟩
            case measure => simp [intOf]; omega
          · obtain ⟨_, h2, h3⟩ := hb.1 rfl
            rw [HD.out] at h2
            have hkg := i64_and_nat k G (by omega) (by omega)
            rw [and_eq_iff.2 (HGR.out.most k hkl (sub_and.2 ⟨hSX.out, h2⟩) h3)] at hkg
            clear hb h2 h3
            go_wp2_with fail
            go_roundw
            case rel => exact ⟨k + 1, by omega, by go_num, hM6⟩
            case measure => simp [intOf]; omega
        · obtain ⟨q, hq⟩ : ∃ q, k &&& X = q := ⟨_, rfl⟩
          rw [hq] at hkx hsub
          have hne : ((q : Int) == (k : Int)) = false := by rw [beq_eq_false_iff_ne]; omega
          clear hq
          go_wp2_with fail
          go_roundw
          case rel => exact ⟨k + 1, by omega, by go_num, hM⟩
          case measure => simp [intOf]; omega
      · obtain rfl : k = N := by omega
        go_wp2_with fail
        refine (awake09 _).mono ?_
        rintro e Z ⟨rfl, hbz⟩
        have HZ := Lib.hid (bstep hM.out.below hbz)
        clear hbz
        go_wp2_with fail
        go_ret
        exact ⟨rfl, HZ.out⟩
end Go.Proofs.Ytkpfjflemlmhfaa
