/- The walk of DispensableMeets: the meet of two dispensable sets that contain a set is dispensable, if Low has intersection despite this set. -/
import Derived.Test.YtacpfcckilnbfaaGreatB6
import Derived.Test.YtacpfcckilnbfaaGreatLink
import Derived.Test.YtacpfcckilnbfaaGreatMkSet3
import Derived.Test.YtacpfcckilnbfaaGreatMkIn
namespace Go.Proofs.YtacpfcckilnbfaaGreat
set_option linter.unusedVariables false
set_option linter.unusedSimpArgs false
open Go.RowKit

set_option maxRecDepth 100000 in
set_option maxHeartbeats 8000000 in
theorem walkDispensableMeets (a0 : Option Addr) (len0 cap0 : Nat) (z0 : List Int) (w : World) (w0 : IsRow .i64 w a0 len0 cap0 z0) :
    Calls Tryz.prog 3 #[.slice a0 len0 cap0] w fun e w' => e = .returned (.bool true) ∧ Below w.heap.size w w' := by
  have HR := Lib.hid w0
  clear w0
  go_enter Tryz.func3, Tryz.ntmps3
  go_wp2_with fail
  refine (TNew_run _ _ _ _ _ HR.out).mono ?_
  rintro e v0 ⟨rfl, hs0, hb0⟩
  have HS0 := Lib.hid hs0
  have HB0 := Lib.hid hb0
  have hsl := hs0.lt
  clear hs0 hb0 HR
  go_wp2_with fail
  refine (mkPair_run _ 6 (by omega) (by omega) _ HS0.out).mono ?_
  rintro e v2 ⟨vl, vh, ls, hs, rfl, hpm, hln, hML, hMH, hs2, hg2⟩
  obtain ⟨Al, cl, rfl⟩ := hML.slice
  obtain ⟨Ah, ch, rfl⟩ := hMH.slice
  have hlen := hpm.len
  obtain ⟨L, hL⟩ : ∃ L, ls.length = L := ⟨_, rfl⟩
  rw [hlen] at hMH ⊢
  rw [hL] at hML hMH hln ⊢
  have HM := Lib.hid (show PMade w v2.heap.size (.slice Al L cl) (.slice Ah L ch) ls hs ((v2.alloc (.cells #[.slice Al L cl] 27)).alloc (.cells #[.slice Ah L ch] 27)) from
    (show PMade w v2.heap.size (.slice Al L cl) (.slice Ah L ch) ls hs _ from ⟨(hs2.alloc _).alloc _, alloc_on (alloc_at rfl), alloc_at (alloc_sz _ _),
      (hML.both (w' := v2) (Q := fun b => w.heap.size < b) (fun _ _ _ => rfl) (fun k _ hk => by have : v0.heap.size ≤ k := hk; omega)).below (balloc (balloc (bref v2) _) _),
      (hMH.both (w' := v2) (Q := fun b => w.heap.size < b) (fun _ _ _ => rfl) (fun k _ hk => by have : v0.heap.size ≤ k := hk; omega)).below (balloc (balloc (bref v2) _) _), hs2.lt, bstep (bgrownC HB0.out hg2 (Nat.le_refl _)) (balloc (balloc (bref v2) _) _)⟩))
  have HP := Lib.hid hpm
  have HL := Lib.hid hL
  have HLH := Lib.hid (hlen.trans hL)
  have h1L : 1 ≤ L := by rw [← hL]; exact hpm.one
  have hp2 : 2 ^ L ≤ 2 ^ 6 := Nat.pow_le_pow_right (by omega) hln
  have hp1 : 1 ≤ 2 ^ L := Nat.one_le_two_pow
  have hpw := pow11 L (by omega)
  have hn64 : (L : Int) < 64 := by omega
  have hn0 : (0 : Int) ≤ (L : Int) := by omega
  clear hpw hn64 hn0 hp1
  clear hML hMH hs2 hg2 HS0 HB0 hlen hpm hL
  go_upto_region 3 with fail
  generalize ((v2.alloc (.cells #[.slice Al L cl] 27)).alloc (.cells #[.slice Ah L ch] 27)) = W1 at *
  generalize v2.heap.size = g at *
  have c0 := HM.out.cl
  go_wp2_with fail
  refine (D3.mkSetN_run _ ls _ _ (by rw [HL.out]; exact h1L) (by rw [HL.out]; omega) HM.out.tape HM.out.ml).mono ?_
  rintro e W2 ⟨s, rfl, hs1, hs2, hg2⟩
  have HM2 := Lib.hid (HM.out.grown hs2 hg2)
  have HS := Lib.hid hs1
  clear hs1 hs2 hg2 c0
  have c0 := HM2.out.cl
  have c1 := HM2.out.ch
  go_wp2_with fail
  refine (dpall_run _ _ ls hs _ _ s HS.out _ (by rw [HL.out]; omega) HM2.out.ml HM2.out.mh HP.out).mono ?_
  rintro e W3 ⟨⟨vl, L0, rfl, hnv, hal⟩, hb3⟩
  have HM3 := Lib.hid (HM2.out.bel hb3)
  have HAL := Lib.hid hal
  obtain ⟨An, cn, rfl⟩ := hnv.slice
  have hzl : (zs L0).length = L0.length := by unfold zs; simp
  have hnv2 := hnv.both (w' := W3) (Q := fun _ => True) (fun _ _ _ => rfl) (fun _ _ _ => trivial)
  rw [hzl] at hnv2 ⊢
  obtain ⟨m, hm⟩ : ∃ m, L0.length = m := ⟨_, rfl⟩
  have hm10 : m ≤ 1024 := by rw [← hm]; exact hal.2.1
  rw [hm] at hnv2 ⊢
  have HNV := Lib.hid hnv2
  have HML := Lib.hid hm
  clear hb3 hnv hal hzl hnv2 hm c0 c1
  have c0 := HM3.out.cl
  go_wp2_with fail
  refine (dpints_run _ ls _ s _ (by rw [HL.out]; omega) HS.out HM3.out.ml HP.out.okl).mono ?_
  rintro e W4 ⟨⟨yes, rfl, hyes⟩, hb4⟩
  have HM4 := Lib.hid (HM3.out.bel hb4).below
  have HN4 := Lib.hid (HNV.out.below hb4)
  have HIN := Lib.hid (show yes = true → ∀ x y, x ∈ L0 → y ∈ L0 → x &&& y ∈ L0 from fun h x y hx hy => all_meets HP.out (by rw [HL.out]; omega) HS.out HAL.out (hyes.1 h) hx hy)
  have HLT := Lib.hid (show ∀ x, x ∈ L0 → x < 1024 from fun x hx => by
    have h1 := ((HAL.out.2.2 x).1 hx).1
    rw [HL.out] at h1; omega)
  clear hb4 hyes c0 HM3 HM2 HM HNV hp2
  go_wp2_with fail
  go_loopw [46] (fun t W => ∃ k : Nat, k ≤ m ∧ t = .int .i64 (k : Int) ∧ Hid (Below W4.heap.size W4 W)) (fun t _ => m - (intOf t).toNat)
  case atStart => exact ⟨0, Nat.zero_le _, rfl, Lib.hid (bref _)⟩
  case round =>
    obtain ⟨k, hk, rfl, hBe⟩ := hrel
    by_cases hlt : k < m
    · have HN5 := Lib.hid (HN4.out.below hBe.out)
      obtain ⟨x, hx⟩ : ∃ x, L0[k]? = some x := ⟨_, List.getElem?_eq_getElem (by rw [HML.out]; exact hlt)⟩
      obtain ⟨A', c', hA', hcl⟩ := HN5.out
      injection hA' with q1 q2 q3
      subst q1
      obtain ⟨bn, on, hbn, _, hcn⟩ := hcl k (by unfold zs; rw [List.length_map, HML.out]; exact hlt)
      subst hbn
      rw [zs_getD hx] at hcn
      have HXM := Lib.hid (List.mem_of_getElem? hx)
      clear hcl hx q2 q3
      obtain ⟨wo, rfl⟩ : ∃ wo : World, wo = wr := ⟨_, rfl⟩
      go_wp2_with fail
      clear hcn
      go_loopw [52] (fun t W => ∃ j : Nat, j ≤ m ∧ t = .int .i64 (j : Int) ∧ Hid (Below W4.heap.size W4 W)) (fun t _ => m - (intOf t).toNat)
      case atStart => exact ⟨0, Nat.zero_le _, rfl, hBe⟩
      case round =>
        obtain ⟨j, hj, rfl, hBf⟩ := hrel
        by_cases hlt2 : j < m
        · have HN6 := Lib.hid (HN4.out.below hBf.out)
          obtain ⟨y, hy⟩ : ∃ y, L0[j]? = some y := ⟨_, List.getElem?_eq_getElem (by rw [HML.out]; exact hlt2)⟩
          obtain ⟨A', c', hA', hcl⟩ := HN6.out
          injection hA' with q1 q2 q3
          subst q1
          obtain ⟨bn2, on2, hbn, _, hcn⟩ := hcl j (by unfold zs; rw [List.length_map, HML.out]; exact hlt2)
          have hbx := Option.some.inj hbn
          injection hbx with e1 e2 e3
          subst e1
          subst e2
          rw [zs_getD hy] at hcn
          have HYM := Lib.hid (List.mem_of_getElem? hy)
          clear hcl hy q2 q3
          cases yes
          · go_wp2_with fail
            go_roundw
            case rel => exact ⟨j + 1, hlt2, by go_num, hBf⟩
            case measure => simp [intOf]; omega
          · have hand := i64_and_nat x y (by have := HLT.out x HXM.out; omega) (by have := HLT.out y HYM.out; omega)
            have HMX := Lib.hid (show decide (x &&& y ∈ L0) = true from decide_eq_true (HIN.out (by first | rfl | trivial) x y HXM.out HYM.out))
            generalize x &&& y = z at hand HMX
            go_wp2_with fail
            refine (mkin_run _ _ L0 z _ (by rw [HML.out]; omega) HN6.out).mono ?_
            rintro e W7 ⟨rfl, hb7⟩
            have HB7 := Lib.hid (bstep hBf.out hb7)
            rw [HMX.out]
            clear hb7 hcn
            go_wp2_with fail
            go_roundw
            case rel => exact ⟨j + 1, hlt2, by go_num, HB7⟩
            case measure => simp [intOf]; omega
        · obtain rfl : j = m := by omega
          go_wp2_with fail
          go_roundw
          case rel => exact ⟨k + 1, hlt, by go_num, hBf⟩
          case measure => simp [intOf]; omega
    · obtain rfl : k = m := by omega
      go_wp2_with fail
      refine (awake14 _).mono ?_
      rintro e W9 ⟨rfl, hb9⟩
      have HF := Lib.hid (bstep (bstep HM4.out hBe.out) hb9)
      clear hb9
      go_wp2_with fail
      go_ret
      exact ⟨rfl, HF.out⟩
end Go.Proofs.YtacpfcckilnbfaaGreat
