/- The walk of IntactQuorum: the intact members are a quorum of both, or none; the befouled ones are the least dispensable set that contains the ill-behaved ones. -/
import Derived.Test.YtacpfcckilnbfaaGreatB6
import Derived.Test.YtacpfcckilnbfaaGreatAwake15
import Derived.Test.YtacpfcckilnbfaaGreatIntLink
import Derived.Test.YtacpfcckilnbfaaGreatMkSet3
import Derived.Test.YtacpfcckilnbfaaGreatQuoMath
import Derived.Test.YtacpfcckilnbfaaGreatMkIn
namespace Go.Proofs.YtacpfcckilnbfaaGreat
set_option linter.unusedVariables false
set_option linter.unusedSimpArgs false
open Go.RowKit

set_option maxRecDepth 100000 in
set_option maxHeartbeats 8000000 in
theorem walkIntactQuorum (a0 : Option Addr) (len0 cap0 : Nat) (z0 : List Int) (w : World) (w0 : IsRow .i64 w a0 len0 cap0 z0) :
    Calls Tryz.prog 7 #[.slice a0 len0 cap0] w fun e w' => e = .returned (.bool true) ∧ Below w.heap.size w w' := by
  have HR := Lib.hid w0
  clear w0
  go_enter Tryz.func7, Tryz.ntmps7
  go_wp2_with fail
  refine (TNew_run _ _ _ _ _ HR.out).mono ?_
  rintro e v0 ⟨rfl, hs0, hb0⟩
  have HS0 := Lib.hid hs0
  have HB0 := Lib.hid hb0
  have hsl := hs0.lt
  clear hs0 hb0 HR
  go_wp2_with fail
  refine (mkPair_run _ 6 (by omega) (by omega) _ HS0.out).mono ?_
  rintro e v2 ⟨vl, vh, ls, hs, rfl, hpm, hln, hML, hMH, hs2, hg2⟩
  obtain ⟨Al, cl, rfl⟩ := hML.slice
  obtain ⟨Ah, ch, rfl⟩ := hMH.slice
  have hlen := hpm.len
  obtain ⟨L, hL⟩ : ∃ L, ls.length = L := ⟨_, rfl⟩
  rw [hlen] at hMH ⊢
  rw [hL] at hML hMH hln ⊢
  have HM := Lib.hid (show PMade w v2.heap.size (.slice Al L cl) (.slice Ah L ch) ls hs ((v2.alloc (.cells #[.slice Al L cl] 27)).alloc (.cells #[.slice Ah L ch] 27)) from
    (show PMade w v2.heap.size (.slice Al L cl) (.slice Ah L ch) ls hs _ from ⟨(hs2.alloc _).alloc _, alloc_on (alloc_at rfl), alloc_at (alloc_sz _ _),
      (hML.both (w' := v2) (Q := fun b => w.heap.size < b) (fun _ _ _ => rfl) (fun k _ hk => by have : v0.heap.size ≤ k := hk; omega)).below (balloc (balloc (bref v2) _) _),
      (hMH.both (w' := v2) (Q := fun b => w.heap.size < b) (fun _ _ _ => rfl) (fun k _ hk => by have : v0.heap.size ≤ k := hk; omega)).below (balloc (balloc (bref v2) _) _), hs2.lt, bstep (bgrownC HB0.out hg2 (Nat.le_refl _)) (balloc (balloc (bref v2) _) _)⟩))
  have HP := Lib.hid hpm
  have HL := Lib.hid hL
  have HLH := Lib.hid (hlen.trans hL)
  have h1L : 1 ≤ L := by rw [← hL]; exact hpm.one
  have hp2 : 2 ^ L ≤ 2 ^ 6 := Nat.pow_le_pow_right (by omega) hln
  have hp1 : 1 ≤ 2 ^ L := Nat.one_le_two_pow
  have hpw := pow11 L (by omega)
  have hn64 : (L : Int) < 64 := by omega
  have hn0 : (0 : Int) ≤ (L : Int) := by omega
  obtain ⟨M, hM⟩ : ∃ M, 2 ^ L - 1 = M := ⟨_, rfl⟩
  have HMM := Lib.hid hM
  obtain ⟨N, hN⟩ : ∃ N, 2 ^ L = N := ⟨_, rfl⟩
  have HNN := Lib.hid hN
  rw [hN] at hp2 hp1 hpw hM
  have HMN := Lib.hid (show M + 1 = N by omega)
  have hM64 : M < 64 := by omega
  clear hN hM
  clear hML hMH hs2 hg2 HS0 HB0 hlen hpm hL
  go_upto_region 3 with fail
  generalize ((v2.alloc (.cells #[.slice Al L cl] 27)).alloc (.cells #[.slice Ah L ch] 27)) = W1 at *
  generalize v2.heap.size = g at *
  have HM0 := HM
  have c0 := HM.out.cl
  go_upto_region 4 with fail
  rw [show (N : Int) - 1 = (M : Int) by have := HMN.out; omega]
  clear c0 hpw HM
  have c0 := HM0.out.cl
  have c1 := HM0.out.ch
  go_wp2_with fail
  refine (D3.mkSetN_run _ ls _ _ (by rw [HL.out]; exact h1L) (by rw [HL.out]; omega) HM0.out.tape HM0.out.ml).mono ?_
  rintro e W1 ⟨s, rfl, hs1, hs2, hg2⟩
  have HM1 := Lib.hid (HM0.out.grown hs2 hg2)
  have HSs := Lib.hid hs1
  clear hs1 hs2 hg2 c0 c1
  have c0 := HM1.out.cl
  have c1 := HM1.out.ch
  go_wp2_with fail
  refine (inof_run _ _ ls hs _ _ s HSs.out _ (by rw [HL.out]; omega) HM1.out.ml HM1.out.mh HP.out).mono ?_
  rintro e W2 ⟨⟨a, rfl, ha⟩, hbx⟩
  have HM2 := Lib.hid (HM1.out.bel hbx)
  have HA := Lib.hid ha
  clear ha
  clear hbx c0 c1
  have c0 := HM2.out.cl
  have c1 := HM2.out.ch
  go_wp2_with fail
  refine (inbef_run _ _ ls hs _ _ s HSs.out _ (by rw [HL.out]; omega) HM2.out.ml HM2.out.mh HP.out).mono ?_
  rintro e W3 ⟨⟨b, rfl, hb⟩, hbx⟩
  have HM3 := Lib.hid (HM2.out.bel hbx)
  have HB := Lib.hid hb
  clear hb
  clear hbx c0 c1
  have hal := HA.out.lt
  rw [HL.out, HNN.out] at hal
  have ha64 : a < 64 := by have := HMN.out; omega
  have HBB := Lib.hid (show b = outS ls.length a from by
    obtain ⟨a', h1, h2⟩ := HB.out
    rw [h2, of_uniq HP.out (by rw [HL.out]; omega) h1 HA.out])
  have hb64 : b < 64 := by
    have h := outS_lt2 ls.length a
    rw [← HBB.out, HL.out, HNN.out] at h; have := HMN.out; omega
  have hand1 : bits .and .i64 (a : Int) (b : Int) = 0 := by
    rw [i64_and_nat a b (by omega) (by omega), HBB.out, and_out]; rfl
  have hor1 : bits .or .i64 (a : Int) (b : Int) = (M : Int) := by
    rw [i64_or_nat a b (by omega) (by omega), HBB.out, or_out HA.out.lt, HL.out, HMM.out]
  have hs64 : s < 64 := by have h := HSs.out; rw [HL.out, HNN.out] at h; have := HMN.out; omega
  have hand2 : bits .and .i64 (a : Int) (s : Int) = 0 := by
    rw [i64_and_nat a s (by omega) (by omega), of_ill HP.out (by rw [HL.out]; omega) HSs.out HA.out]; rfl
  clear hal HB
  have c0 := HM3.out.cl
  have c1 := HM3.out.ch
  by_cases hz : a = 0
  · subst hz
    have hand1' : bits .and .i64 0 (b : Int) = 0 := hand1
    have hor1' : bits .or .i64 0 (b : Int) = (M : Int) := hor1
    have hand2' : bits .and .i64 0 (s : Int) = 0 := hand2
    clear hand1 hor1 hand2
    have HM5 := HM3
    go_wp2_with fail
    refine (rdall_run _ _ ls hs _ _ s HSs.out _ (by rw [HL.out]; omega) HM5.out.ml HM5.out.mh HP.out).mono ?_
    rintro e W6 ⟨⟨vl, L0, rfl, hnv, hal⟩, hb6⟩
    have HM6 := Lib.hid (HM5.out.bel hb6)
    have HAL := Lib.hid hal
    obtain ⟨An, cn, rfl⟩ := hnv.slice
    have hzl : (zs L0).length = L0.length := by unfold zs; simp
    have hnv2 := hnv.both (w' := W6) (Q := fun _ => True) (fun _ _ _ => rfl) (fun _ _ _ => trivial)
    rw [hzl] at hnv2 ⊢
    obtain ⟨m, hm⟩ : ∃ m, L0.length = m := ⟨_, rfl⟩
    have hm10 : m ≤ 20000 := by rw [← hm]; exact hal.1
    rw [hm] at hnv2 ⊢
    have HNV := Lib.hid hnv2
    have HML := Lib.hid hm
    clear hb6 hnv hal hzl hnv2 hm c0 c1
    have c0 := HM6.out.cl
    go_wp2_with fail
    refine (rdints_run _ ls _ s _ (by rw [HL.out]; omega) HSs.out HM6.out.ml HP.out.okl).mono ?_
    rintro e W7 ⟨⟨yes, rfl, hyes⟩, hb7⟩
    have HM7 := Lib.hid (HM6.out.bel hb7)
    have HN7 := Lib.hid (HNV.out.below hb7)
    have HY := Lib.hid hyes
    clear hb7 hyes c0
    cases yes
    · skip
      go_wp2_with fail
      refine (awake15 _).mono ?_
      rintro e W99 ⟨rfl, hb9⟩
      have HF := Lib.hid (HM7.out.bel hb9).below
      clear hb9
      go_wp2_with fail
      go_ret
      exact ⟨rfl, HF.out⟩
    · have HLE := Lib.hid (of_least HP.out (by rw [HL.out]; omega) HSs.out HA.out (HY.out.1 (by first | rfl | trivial)) HAL.out)
      have HBO := Lib.hid (show b = outS ls.length 0 from HBB.out)
      have HLT := Lib.hid (show ∀ x, x ∈ L0 → x < 1024 from fun x hx => by
        have h1 := ((HAL.out.2 x).1 hx).1
        rw [HL.out, HNN.out] at h1; omega)
      go_wp2_with fail
      go_loopw [114] (fun t W => ∃ j : Nat, j ≤ m ∧ t = .int .i64 (j : Int) ∧ Hid (Below W7.heap.size W7 W)) (fun t _ => m - (intOf t).toNat)
      case atStart => exact ⟨0, Nat.zero_le _, rfl, Lib.hid (bref _)⟩
      case round =>
        obtain ⟨j, hj, rfl, hBf⟩ := hrel
        by_cases hlt2 : j < m
        · have HN8 := Lib.hid (HN7.out.below hBf.out)
          obtain ⟨x, hx⟩ : ∃ x, L0[j]? = some x := ⟨_, List.getElem?_eq_getElem (by rw [HML.out]; exact hlt2)⟩
          obtain ⟨A', c', hA', hcl⟩ := HN8.out
          injection hA' with q1 q2 q3
          subst q1
          obtain ⟨bn, on, hbn, _, hcn⟩ := hcl j (by unfold zs; rw [List.length_map, HML.out]; exact hlt2)
          subst hbn
          rw [zs_getD hx] at hcn
          have hx10 := HLT.out x (List.mem_of_getElem? hx)
          have hand := i64_and_nat x b (by omega) (by omega)
          rw [show x &&& b = b by rw [HBO.out]; exact HLE.out.2 x (List.mem_of_getElem? hx)] at hand
          clear hcl hx q2 q3 hx10
          go_wp2_with fail
          go_roundw
          case rel => exact ⟨j + 1, hlt2, by go_num, hBf⟩
          case measure => simp [intOf]; omega
        · obtain rfl : j = m := by omega
          have HN8 := Lib.hid (HN7.out.below hBf.out)
          have HM8 := Lib.hid (HM7.out.bel hBf.out)
          have HIN := Lib.hid (show decide (b ∈ L0) = true from decide_eq_true (by rw [HBO.out]; exact HLE.out.1))
          go_wp2_with fail
          refine (mkin_run _ _ L0 b _ (by rw [HML.out]; omega) HN8.out).mono ?_
          rintro e W9 ⟨rfl, hb9⟩
          rw [HIN.out]
          have HM9 := Lib.hid (HM8.out.bel hb9)
          clear hb9
          go_wp2_with fail
          refine (awake15 _).mono ?_
          rintro e W99 ⟨rfl, hb9⟩
          have HF := Lib.hid (HM9.out.bel hb9).below
          clear hb9
          go_wp2_with fail
          go_ret
          exact ⟨rfl, HF.out⟩
  · have hzi : ¬ (a : Int) = 0 := by omega
    have HQ := Lib.hid (of_isq HP.out (by rw [HL.out]; omega) HSs.out HA.out hz)
    go_wp2_with fail
    refine (rquorum_run _ 3 hs _ a _ (by rw [HLH.out]; omega) (by omega) HM3.out.mh).mono ?_
    rintro e W4 ⟨bq, rfl, hq, hb4⟩
    obtain rfl : bq = true := hq.2 HQ.out.1
    have HM4 := Lib.hid (HM3.out.bel hb4)
    clear hb4 hq c0 c1
    have c0 := HM4.out.cl
    have c1 := HM4.out.ch
    go_wp2_with fail
    refine (rquorum_run _ 3 ls _ a _ (by rw [HL.out]; omega) (by omega) HM4.out.ml).mono ?_
    rintro e W5 ⟨bq, rfl, hq, hb5⟩
    obtain rfl : bq = true := hq.2 HQ.out.2
    have HM5 := Lib.hid (HM4.out.bel hb5)
    clear hb5 hq c0 c1
    have c0 := HM5.out.cl
    have c1 := HM5.out.ch
    go_wp2_with fail
    refine (rdall_run _ _ ls hs _ _ s HSs.out _ (by rw [HL.out]; omega) HM5.out.ml HM5.out.mh HP.out).mono ?_
    rintro e W6 ⟨⟨vl, L0, rfl, hnv, hal⟩, hb6⟩
    have HM6 := Lib.hid (HM5.out.bel hb6)
    have HAL := Lib.hid hal
    obtain ⟨An, cn, rfl⟩ := hnv.slice
    have hzl : (zs L0).length = L0.length := by unfold zs; simp
    have hnv2 := hnv.both (w' := W6) (Q := fun _ => True) (fun _ _ _ => rfl) (fun _ _ _ => trivial)
    rw [hzl] at hnv2 ⊢
    obtain ⟨m, hm⟩ : ∃ m, L0.length = m := ⟨_, rfl⟩
    have hm10 : m ≤ 20000 := by rw [← hm]; exact hal.1
    rw [hm] at hnv2 ⊢
    have HNV := Lib.hid hnv2
    have HML := Lib.hid hm
    clear hb6 hnv hal hzl hnv2 hm c0 c1
    have c0 := HM6.out.cl
    go_wp2_with fail
    refine (rdints_run _ ls _ s _ (by rw [HL.out]; omega) HSs.out HM6.out.ml HP.out.okl).mono ?_
    rintro e W7 ⟨⟨yes, rfl, hyes⟩, hb7⟩
    have HM7 := Lib.hid (HM6.out.bel hb7)
    have HN7 := Lib.hid (HNV.out.below hb7)
    have HY := Lib.hid hyes
    clear hb7 hyes c0
    cases yes
    · have HA0 := Lib.hid (show a = 0 from of_none HA.out (fun h => by have := HY.out.2 h; cases this))
      exact absurd HA0.out hz
    · have HLE := Lib.hid (of_least HP.out (by rw [HL.out]; omega) HSs.out HA.out (HY.out.1 (by first | rfl | trivial)) HAL.out)
      have HBO := Lib.hid (show b = outS ls.length a from HBB.out)
      have HLT := Lib.hid (show ∀ x, x ∈ L0 → x < 1024 from fun x hx => by
        have h1 := ((HAL.out.2 x).1 hx).1
        rw [HL.out, HNN.out] at h1; omega)
      go_wp2_with fail
      go_loopw [114] (fun t W => ∃ j : Nat, j ≤ m ∧ t = .int .i64 (j : Int) ∧ Hid (Below W7.heap.size W7 W)) (fun t _ => m - (intOf t).toNat)
      case atStart => exact ⟨0, Nat.zero_le _, rfl, Lib.hid (bref _)⟩
      case round =>
        obtain ⟨j, hj, rfl, hBf⟩ := hrel
        by_cases hlt2 : j < m
        · have HN8 := Lib.hid (HN7.out.below hBf.out)
          obtain ⟨x, hx⟩ : ∃ x, L0[j]? = some x := ⟨_, List.getElem?_eq_getElem (by rw [HML.out]; exact hlt2)⟩
          obtain ⟨A', c', hA', hcl⟩ := HN8.out
          injection hA' with q1 q2 q3
          subst q1
          obtain ⟨bn, on, hbn, _, hcn⟩ := hcl j (by unfold zs; rw [List.length_map, HML.out]; exact hlt2)
          subst hbn
          rw [zs_getD hx] at hcn
          have hx10 := HLT.out x (List.mem_of_getElem? hx)
          have hand := i64_and_nat x b (by omega) (by omega)
          rw [show x &&& b = b by rw [HBO.out]; exact HLE.out.2 x (List.mem_of_getElem? hx)] at hand
          clear hcl hx q2 q3 hx10
          go_wp2_with fail
          go_roundw
          case rel => exact ⟨j + 1, hlt2, by go_num, hBf⟩
          case measure => simp [intOf]; omega
        · obtain rfl : j = m := by omega
          have HN8 := Lib.hid (HN7.out.below hBf.out)
          have HM8 := Lib.hid (HM7.out.bel hBf.out)
          have HIN := Lib.hid (show decide (b ∈ L0) = true from decide_eq_true (by rw [HBO.out]; exact HLE.out.1))
          go_wp2_with fail
          refine (mkin_run _ _ L0 b _ (by rw [HML.out]; omega) HN8.out).mono ?_
          rintro e W9 ⟨rfl, hb9⟩
          rw [HIN.out]
          have HM9 := Lib.hid (HM8.out.bel hb9)
          clear hb9
          go_wp2_with fail
          refine (awake15 _).mono ?_
          rintro e W99 ⟨rfl, hb9⟩
          have HF := Lib.hid (HM9.out.bel hb9).below
          clear hb9
          go_wp2_with fail
          go_ret
          exact ⟨rfl, HF.out⟩
end Go.Proofs.YtacpfcckilnbfaaGreat
