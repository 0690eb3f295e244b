/- The walk of IntersectionDecides: Holds says whether two quorums are disjoint, and Disjoint returns two. -/
import Derived.Test.YtbbdmaakphoofaaAwake12
import Derived.Test.YtbbdmaakphoofaaRefQuor
import Derived.Deep.DeepCutAuto
import Derived.Deep.CutRange
namespace Go.Proofs.Ytbbdmaakphoofaa
set_option linter.unusedVariables false
set_option linter.unusedSimpArgs false
open Go.RowKit

set_option maxRecDepth 100000 in
set_option maxHeartbeats 4000000 in
theorem walkIntersectionDecides (a0 : Option Addr) (len0 cap0 : Nat) (z0 : List Int) (w : World) (w0 : IsRow .i64 w a0 len0 cap0 z0) :
    Calls Try.prog 6 #[.slice a0 len0 cap0] w fun e w' => e = .returned (.bool true) ∧ Below w.heap.size w w' := by
  have HR := Lib.hid w0
  clear w0
  go_enter Try.func6, Try.ntmps6
  go_wp2_with fail
  refine (TNew_run _ _ _ _ _ HR.out).mono ?_
  rintro e v0 ⟨rfl, hs0, hb0⟩
  have HS0 := Lib.hid hs0
  have HB0 := Lib.hid hb0
  have hsl := hs0.lt
  clear hs0 hb0
  go_wp2_with fail
  refine (config_run _ 6 (by omega) (by omega) _ HS0.out).mono ?_
  rintro e v2 ⟨cv, ms, rfl, hl1, hl2, hM, hok, hs2, hg2⟩
  have hM0 := id hM
  obtain ⟨A, c, hcv, _⟩ := hM0
  obtain ⟨L, hL⟩ : ∃ L, ms.length = L := ⟨_, rfl⟩
  rw [hL] at hcv
  subst hcv
  have hba := balloc (bref v2) (.cells #[.slice A L c] 27)
  have HM := Lib.hid (show CMade w v2.heap.size (.slice A L c) ms (v2.alloc (.cells #[.slice A L c] 27)) from
    ⟨hs2.alloc _, alloc_at rfl, (hM.both (Q := fun b => w.heap.size < b) (fun _ _ _ => rfl) (fun k _ hk => by omega)).below hba, hs2.lt, bstep (bgrownC HB0.out hg2 (Nat.le_refl _)) hba⟩)
  have HL := Lib.hid hL
  have HOK := Lib.hid hok
  have hl10 : ms.length ≤ 10 := by omega
  clear hM hok hs2 hg2 hba HS0 HB0 hl1 hL
  go_upto_region 3 with fail
  generalize v2.alloc (.cells #[.slice A L c] 27) = W1 at *
  generalize v2.heap.size = g at *
  have c0 := HM.out.cell
  have hL6 : L ≤ 6 := by have := HL.out; omega
  have hp := pow11 L (by omega)
  have hp8 : 2 ^ L ≤ 2 ^ 6 := Nat.pow_le_pow_right (by omega) hL6
  obtain ⟨N, hN⟩ : ∃ N, 2 ^ L = N := ⟨_, rfl⟩
  have HNL := Lib.hid hN
  rw [hN] at hp hp8
  clear hN
  have hLi : (L : Int) < 64 := by omega
  go_wp2_with fail
  refine (holds12_run _ ms _ _ hl10 HM.out.mems HOK.out).mono ?_
  rintro e W2 ⟨hho, hb2⟩
  have HM2 := Lib.hid (HM.out.bel hb2)
  clear hb2 c0 HM
  have c0 := HM2.out.cell
  rcases hho with ⟨rfl, hno⟩ | ⟨rfl, hex⟩
  · have HNO := Lib.hid hno
    clear hno
    go_wp2_with fail
    refine (disjoint12_run _ ms _ _ hl10 HM2.out.mems HOK.out).mono ?_
    rintro e W3 ⟨hdj, hb3⟩
    have he : e = .returned (.tuple #[.int .i64 0, .int .i64 0, .int .i64 11]) := by
      rcases hdj with ⟨i, a, b, _, hi, hA, _⟩ | ⟨h1, _⟩
      · exact (HNO.out a (ord_lt _ hl10 _ (List.mem_of_getElem? hi)) hA).elim
      · exact h1
    subst he
    have HM3 := Lib.hid (HM2.out.bel hb3)
    clear hdj hb3 c0 HM2
    go_wp2_with fail
    go_loopw [10] (fun t W => ∃ x : Nat, x ≤ N ∧ t = .int .i64 x ∧ Hid (CMade w g (.slice A L c) ms W)) (fun t _ => N - (intOf t).toNat)
    case atStart => exact ⟨0, by omega, rfl, HM3⟩
    case round =>
      obtain ⟨x, hx, rfl, hM⟩ := hrel
      have c0 := hM.out.cell
      by_cases hlt : x < N
      · have hxN : (x : Int) < (N : Int) := by omega
        obtain ⟨Wo, hWo⟩ : ∃ z, z = wr := ⟨_, rfl⟩
        subst hWo
        go_wp2_with fail
        try rw [hp]
        go_loopw [11] (fun t W => ∃ y : Nat, y ≤ x ∧ t = .int .i64 y ∧ Hid (CMade w g (.slice A L c) ms W)) (fun t _ => x - (intOf t).toNat)
        case atStart => exact ⟨0, by omega, rfl, hM⟩
        case round =>
          obtain ⟨y, hy, rfl, hM2⟩ := hrel
          have c1 := hM2.out.cell
          by_cases hlt2 : y < x
          · have hyx : (y : Int) < (x : Int) := by omega
            have hand := i64_and_nat x y (by omega) (by omega)
            by_cases hxy : x &&& y = 0
            · rw [hxy] at hand
              have HXY := Lib.hid hxy
              clear hxy
              go_wp2_with fail
              refine (rquorum_run _ 2 ms _ x _ hl10 (by omega) hM2.out.mems).mono ?_
              rintro e W5 ⟨q, rfl, hq, hb5⟩
              have hM5 := Lib.hid (hM2.out.bel hb5)
              clear hb5 c1
              cases q
              · clear hq
                go_wp2_with fail
                go_roundw
                case rel => exact ⟨y + 1, by omega, by go_num, hM5⟩
                case measure => simp [intOf]; omega
              · have HQ := Lib.hid (hq.1 rfl)
                clear hq
                have c5 := hM5.out.cell
                go_wp2_with fail
                refine (rquorum_run _ 2 ms _ y _ hl10 (by omega) hM5.out.mems).mono ?_
                rintro e W6 ⟨q, rfl, hq, hb6⟩
                have hM6 := Lib.hid (hM5.out.bel hb6)
                clear hb6 c5
                cases q
                · clear hq
                  go_wp2_with fail
                  go_roundw
                  case rel => exact ⟨y + 1, by omega, by go_num, hM6⟩
                  case measure => simp [intOf]; omega
                · exfalso
                  obtain ⟨hy0, hyD, hyC⟩ := hq.1 rfl
                  refine HNO.out x (by rw [HL.out, HNL.out]; omega) ⟨HQ.out, y, by omega, hy0, fun j hj => ?_, hyC⟩
                  rw [Nat.testBit_and, hyD j hj, Bool.and_true, outS_bit, HL.out]
                  have hjL : j < L := bit_lt hj (by rw [HNL.out]; omega)
                  have hxj : x.testBit j = false := by
                    have h1 : (x &&& y).testBit j = false := by rw [HXY.out]; simp
                    rw [Nat.testBit_and, hj, Bool.and_true] at h1
                    exact h1
                  rw [decide_eq_true hjL, hxj]; rfl
            · obtain ⟨q, hq⟩ : ∃ q, x &&& y = q := ⟨_, rfl⟩
              rw [hq] at hand hxy
              clear hq
              have hne : ((q : Int) == 0) = false := by rw [beq_eq_false_iff_ne]; omega
              clear c1
              go_wp2_with fail
              go_roundw
              case rel => exact ⟨y + 1, by omega, by go_num, hM2⟩
              case measure => simp [intOf]; omega
          · obtain rfl : x = y := by omega
            clear c1
            go_wp2_with fail
            go_roundw
            case rel => exact ⟨x + 1, by omega, by go_num, hM2⟩
            case measure => simp [intOf]; omega
      · obtain rfl : x = N := by omega
        have hNN : ¬ (x : Int) < (x : Int) := by omega
        go_wp2_with fail
        refine (awake12 _).mono ?_
        rintro e Z ⟨rfl, hbz⟩
        have HZ := Lib.hid (bstep hM.out.below hbz)
        clear hbz
        go_wp2_with fail
        go_ret
        exact ⟨rfl, HZ.out⟩
  · have HEX := Lib.hid hex
    clear hex
    go_wp2_with fail
    refine (disjoint12_run _ ms _ _ hl10 HM2.out.mems HOK.out).mono ?_
    rintro e W3 ⟨hdj, hb3⟩
    obtain ⟨i, a, b, he, hi, hA, hgr, hbl, _⟩ : ∃ i a b : Nat, e = .returned (.tuple #[.int .i64 (a : Int), .int .i64 (b : Int), .int .i64 0]) ∧ (ordN ms.length)[i]? = some a ∧ Apart 2 ms a ∧ IsGr 2 ms (outS ms.length a &&& declS ms ms.length) b ∧ b < 1024 ∧ (∀ j t : Nat, j < i → (ordN ms.length)[j]? = some t → ¬ Apart 2 ms t) := by
      rcases hdj with h | ⟨_, hno⟩
      · exact h
      · obtain ⟨t, ht, hA⟩ := HEX.out
        exact (hno t ht hA).elim
    subst he
    have hal : a < 1024 := by
      have h1 := ord_lt _ hl10 _ (List.mem_of_getElem? hi)
      have h2 : 2 ^ ms.length ≤ 2 ^ 10 := Nat.pow_le_pow_right (by omega) hl10
      omega
    have HA := Lib.hid hA.1
    have hb0 : b ≠ 0 := (apart_gr hbl hgr).1 hA.2
    have hsub := sub_and.1 hgr.sub
    have HB := Lib.hid (show b ≠ 0 ∧ Sub b (declS ms ms.length) ∧ Closed 2 ms b from ⟨hb0, hsub.2, hgr.closed⟩)
    have hab : a &&& b = 0 := Nat.eq_of_testBit_eq fun j => by
      rw [Nat.testBit_and, Nat.zero_testBit]
      cases hj : b.testBit j
      · rw [Bool.and_false]
      · have := hsub.1 j hj
        rw [outS_bit, Bool.and_eq_true, Bool.not_eq_true'] at this
        rw [this.2]; rfl
    have hand := i64_and_nat a b (by omega) (by omega)
    rw [hab] at hand
    have HM3 := Lib.hid (HM2.out.bel hb3)
    clear hdj hb3 c0 HM2 hi hA hgr hb0 hsub hab
    have c3 := HM3.out.cell
    go_wp2_with fail
    refine (rquorum_run _ 2 ms _ a _ hl10 hal HM3.out.mems).mono ?_
    rintro e W4 ⟨q, rfl, hq, hb4⟩
    obtain rfl : q = true := hq.2 HA.out
    have HM4 := Lib.hid (HM3.out.bel hb4)
    clear hb4 c3 hq HM3
    have c4 := HM4.out.cell
    go_wp2_with fail
    refine (rquorum_run _ 2 ms _ b _ hl10 hbl HM4.out.mems).mono ?_
    rintro e W5 ⟨q, rfl, hq, hb5⟩
    obtain rfl : q = true := hq.2 HB.out
    have HM5 := Lib.hid (HM4.out.bel hb5)
    clear hb5 c4 hq HM4
    go_wp2_with fail
    go_loopw [10] (fun t W => ∃ x : Nat, x ≤ N ∧ t = .int .i64 x ∧ Hid (CMade w g (.slice A L c) ms W)) (fun t _ => N - (intOf t).toNat)
    case atStart => exact ⟨0, by omega, rfl, HM5⟩
    case round =>
      obtain ⟨x, hx, rfl, hM⟩ := hrel
      have c0 := hM.out.cell
      by_cases hlt : x < N
      · have hxN : (x : Int) < (N : Int) := by omega
        obtain ⟨Wo, hWo⟩ : ∃ z, z = wr := ⟨_, rfl⟩
        subst hWo
        go_wp2_with fail
        try rw [hp]
        go_loopw [11] (fun t W => ∃ y : Nat, y ≤ x ∧ t = .int .i64 y ∧ Hid (CMade w g (.slice A L c) ms W)) (fun t _ => x - (intOf t).toNat)
        case atStart => exact ⟨0, by omega, rfl, hM⟩
        case round =>
          obtain ⟨y, hy, rfl, hM2⟩ := hrel
          have c1 := hM2.out.cell
          by_cases hlt2 : y < x
          · have hyx : (y : Int) < (x : Int) := by omega
            clear c1
            go_wp2_with fail
            go_roundw
            case rel => exact ⟨y + 1, by omega, by go_num, hM2⟩
            case measure => simp [intOf]; omega
          · obtain rfl : x = y := by omega
            clear c1
            go_wp2_with fail
            go_roundw
            case rel => exact ⟨x + 1, by omega, by go_num, hM2⟩
            case measure => simp [intOf]; omega
      · obtain rfl : x = N := by omega
        have hNN : ¬ (x : Int) < (x : Int) := by omega
        go_wp2_with fail
        refine (awake12 _).mono ?_
        rintro e Z ⟨rfl, hbz⟩
        have HZ := Lib.hid (bstep hM.out.below hbz)
        clear hbz
        go_wp2_with fail
        go_ret
        exact ⟨rfl, HZ.out⟩
end Go.Proofs.Ytbbdmaakphoofaa
