/- The walk of DispensableAll: the sets of All are those that Is says; the set of all members is among them; all contain the undeclared members. -/
import Derived.Test.YtacpfcckilnbfaaGreatB6
import Derived.Test.YtacpfcckilnbfaaGreatLink
import Derived.Test.YtacpfcckilnbfaaGreatMkSet3
import Derived.Test.YtacpfcckilnbfaaGreatMkIn
namespace Go.Proofs.YtacpfcckilnbfaaGreat
set_option linter.unusedVariables false
set_option linter.unusedSimpArgs false
open Go.RowKit

set_option maxRecDepth 100000 in
set_option maxHeartbeats 8000000 in
theorem walkDispensableAll (a0 : Option Addr) (len0 cap0 : Nat) (z0 : List Int) (w : World) (w0 : IsRow .i64 w a0 len0 cap0 z0) :
    Calls Tryz.prog 4 #[.slice a0 len0 cap0] w fun e w' => e = .returned (.bool true) ∧ Below w.heap.size w w' := by
  have HR := Lib.hid w0
  clear w0
  go_enter Tryz.func4, Tryz.ntmps4
  go_wp2_with fail
  refine (TNew_run _ _ _ _ _ HR.out).mono ?_
  rintro e v0 ⟨rfl, hs0, hb0⟩
  have HS0 := Lib.hid hs0
  have HB0 := Lib.hid hb0
  have hsl := hs0.lt
  clear hs0 hb0 HR
  go_wp2_with fail
  refine (mkPair_run _ 5 (by omega) (by omega) _ HS0.out).mono ?_
  rintro e v2 ⟨vl, vh, ls, hs, rfl, hpm, hln, hML, hMH, hs2, hg2⟩
  obtain ⟨Al, cl, rfl⟩ := hML.slice
  obtain ⟨Ah, ch, rfl⟩ := hMH.slice
  have hlen := hpm.len
  obtain ⟨L, hL⟩ : ∃ L, ls.length = L := ⟨_, rfl⟩
  rw [hlen] at hMH ⊢
  rw [hL] at hML hMH hln ⊢
  have HM := Lib.hid (show PMade w v2.heap.size (.slice Al L cl) (.slice Ah L ch) ls hs ((v2.alloc (.cells #[.slice Al L cl] 27)).alloc (.cells #[.slice Ah L ch] 27)) from
    (show PMade w v2.heap.size (.slice Al L cl) (.slice Ah L ch) ls hs _ from ⟨(hs2.alloc _).alloc _, alloc_on (alloc_at rfl), alloc_at (alloc_sz _ _),
      (hML.both (w' := v2) (Q := fun b => w.heap.size < b) (fun _ _ _ => rfl) (fun k _ hk => by have : v0.heap.size ≤ k := hk; omega)).below (balloc (balloc (bref v2) _) _),
      (hMH.both (w' := v2) (Q := fun b => w.heap.size < b) (fun _ _ _ => rfl) (fun k _ hk => by have : v0.heap.size ≤ k := hk; omega)).below (balloc (balloc (bref v2) _) _), hs2.lt, bstep (bgrownC HB0.out hg2 (Nat.le_refl _)) (balloc (balloc (bref v2) _) _)⟩))
  have HP := Lib.hid hpm
  have HL := Lib.hid hL
  have HLH := Lib.hid (hlen.trans hL)
  have h1L : 1 ≤ L := by rw [← hL]; exact hpm.one
  have hp2 : 2 ^ L ≤ 2 ^ 5 := Nat.pow_le_pow_right (by omega) hln
  have hp1 : 1 ≤ 2 ^ L := Nat.one_le_two_pow
  have hpw := pow11 L (by omega)
  have hn64 : (L : Int) < 64 := by omega
  have hn0 : (0 : Int) ≤ (L : Int) := by omega
  obtain ⟨M, hM⟩ : ∃ M, 2 ^ L - 1 = M := ⟨_, rfl⟩
  have HMM := Lib.hid hM
  obtain ⟨N, hN⟩ : ∃ N, 2 ^ L = N := ⟨_, rfl⟩
  have HNN := Lib.hid hN
  rw [hN] at hp2 hp1 hpw hM
  have HMN := Lib.hid (show M + 1 = N by omega)
  have hM64 : M < 64 := by omega
  have HKM := Lib.hid (show ∀ W W', W.cell? ⟨v2.heap.size, 0, none⟩ = some (.slice Al L cl) ∧ PMade w v2.heap.size (.slice Al L cl) (.slice Ah L ch) ls hs W → Below W.heap.size W W' → W'.cell? ⟨v2.heap.size, 0, none⟩ = some (.slice Al L cl) ∧ PMade w v2.heap.size (.slice Al L cl) (.slice Ah L ch) ls hs W' from fun W W' h hb => ⟨(h.2.bel hb).cl, h.2.bel hb⟩)
  clear hN hM
  clear hML hMH hs2 hg2 HS0 HB0 hlen hpm hL
  go_upto_region 3 with fail
  generalize ((v2.alloc (.cells #[.slice Al L cl] 27)).alloc (.cells #[.slice Ah L ch] 27)) = W1 at *
  generalize v2.heap.size = g at *
  have c0 := HM.out.cl
  go_upto_region 4 with fail
  rw [show (N : Int) - 1 = (M : Int) by have := HMN.out; omega]
  clear c0 hpw
  have c0 := HM.out.cl
  go_wp2_with fail
  refine (D3.mkSetN_run _ ls _ _ (by rw [HL.out]; exact h1L) (by rw [HL.out]; omega) HM.out.tape HM.out.ml).mono ?_
  rintro e W2 ⟨s, rfl, hs1, hs2, hg2⟩
  have HM2 := Lib.hid (HM.out.grown hs2 hg2)
  have HS := Lib.hid hs1
  clear hs1 hs2 hg2 c0
  have c0 := HM2.out.cl
  have c1 := HM2.out.ch
  go_wp2_with fail
  refine (dpall_run _ _ ls hs _ _ s HS.out _ (by rw [HL.out]; omega) HM2.out.ml HM2.out.mh HP.out).mono ?_
  rintro e W3 ⟨⟨vl, L0, rfl, hnv, hal⟩, hb3⟩
  have HM3 := Lib.hid (HM2.out.bel hb3)
  have HAL := Lib.hid hal
  obtain ⟨An, cn, rfl⟩ := hnv.slice
  have hzl : (zs L0).length = L0.length := by unfold zs; simp
  have hnv2 := hnv.both (w' := W3) (Q := fun _ => True) (fun _ _ _ => rfl) (fun _ _ _ => trivial)
  rw [hzl] at hnv2 ⊢
  obtain ⟨m, hm⟩ : ∃ m, L0.length = m := ⟨_, rfl⟩
  have hm10 : m ≤ 1024 := by rw [← hm]; exact hal.2.1
  rw [hm] at hnv2 ⊢
  have HNV := Lib.hid hnv2
  have HML := Lib.hid hm
  clear hb3 hnv hal hzl hnv2 hm c0 c1
  have HFU := Lib.hid (show decide (M ∈ L0) = true from decide_eq_true (by have h := all_full HP.out (by rw [HL.out]; omega) HS.out HAL.out; rw [HL.out, HMM.out] at h; exact h))
  go_wp2_with fail
  refine (mkin_run _ _ L0 M _ (by rw [HML.out]; omega) HNV.out).mono ?_
  rintro e W4 ⟨rfl, hb4⟩
  rw [HFU.out]
  have HM4 := Lib.hid (HM3.out.bel hb4)
  have HN4 := Lib.hid (HNV.out.below hb4)
  clear hb4 HM3 HM2 HM HNV HFU
  go_wp2_with fail
  go_loopw [10] (fun t W => ∃ k : Nat, k ≤ N ∧ t = .int .i64 (k : Int) ∧ Hid (Below W4.heap.size W4 W)) (fun t _ => N - (intOf t).toNat)
  case atStart => exact ⟨0, Nat.zero_le _, rfl, Lib.hid (bref _)⟩
  case round =>
    obtain ⟨k, hk, rfl, hBe⟩ := hrel
    by_cases hlt : k ≤ M
    · have hlti : (k : Int) ≤ (M : Int) := by omega
      have HMr := Lib.hid (HM4.out.bel hBe.out)
      have HK := Lib.hid (show k < 2 ^ ls.length by rw [HL.out, HNN.out]; have := HMN.out; omega)
      have c0 := HMr.out.cl
      have c1 := HMr.out.ch
      go_wp2_with fail
      refine (dpIs_run _ _ ls hs _ _ k HK.out _ (by rw [HL.out]; omega) HMr.out.ml HMr.out.mh HP.out).mono ?_
      rintro e W5 ⟨⟨yes, rfl, hyes⟩, hb5⟩
      have HB5 := Lib.hid (bstep hBe.out hb5)
      have HN5 := Lib.hid (HN4.out.below HB5.out)
      have HY := Lib.hid hyes
      have hs10 : s < 64 := by
        have h1 := HS.out
        rw [HL.out, HNN.out] at h1; omega
      have hand := i64_and_nat k s (by omega) (by omega)
      have HSU := Lib.hid (show k &&& s = s ↔ Sub s k from by rw [Nat.and_comm]; exact and_self_sub)
      clear hb5 hyes c0 c1
      generalize k &&& s = z at hand HSU
      by_cases hz : z = s
      · have HDE := Lib.hid (show decide (k ∈ L0) = yes from by
          rw [Bool.eq_iff_iff, decide_eq_true_iff, HAL.out.2.2 k, HY.out]
          exact ⟨fun h => h.2.2, fun h => ⟨HK.out, HSU.out.1 hz, h⟩⟩)
        have HZ := Lib.hid hz
        subst hz
        go_wp2_with fail
        refine (mkin_run _ _ L0 k _ (by rw [HML.out]; omega) HN5.out).mono ?_
        rintro e W6 ⟨rfl, hb6⟩
        rw [HDE.out]
        have HB6 := Lib.hid (bstep HB5.out hb6)
        clear hb6
        cases yes
        · go_wp2_with fail
          go_roundw
          case rel => exact ⟨k + 1, by have := HMN.out; omega, by go_num, HB6⟩
          case measure => simp [intOf]; have := HMN.out; omega
        · go_wp2_with fail
          go_roundw
          case rel => exact ⟨k + 1, by have := HMN.out; omega, by go_num, HB6⟩
          case measure => simp [intOf]; have := HMN.out; omega
      · have HDE := Lib.hid (show decide (k ∈ L0) = false from decide_eq_false (fun h => hz (HSU.out.2 ((HAL.out.2.2 k).1 h).2.1)))
        have hzi : ¬ (z : Int) = (s : Int) := by omega
        clear hz
        go_wp2_with fail
        refine (mkin_run _ _ L0 k _ (by rw [HML.out]; omega) HN5.out).mono ?_
        rintro e W6 ⟨rfl, hb6⟩
        rw [HDE.out]
        have HB6 := Lib.hid (bstep HB5.out hb6)
        clear hb6
        go_wp2_with fail
        go_roundw
        case rel => exact ⟨k + 1, by have := HMN.out; omega, by go_num, HB6⟩
        case measure => simp [intOf]; have := HMN.out; omega
    · have HM6 := Lib.hid (HM4.out.bel hBe.out)
      have HN6 := Lib.hid (HN4.out.below hBe.out)
      have hlti : ¬ (k : Int) ≤ (M : Int) := by omega
      clear HM4 HN4 hBe
      obtain ⟨wo, rfl⟩ : ∃ wo : World, wo = wr := ⟨_, rfl⟩
      have hDl : declS ls ls.length < 1024 := declS_lt ls _ (by rw [HL.out]; omega)
      have hM10 : M < 1024 := by omega
      have han : bits .andNot .i64 (M : Int) ((declS ls ls.length : Nat) : Int) = ((outS L (declS ls ls.length) : Nat) : Int) := by
        have h := andNot_nat M (declS ls ls.length) hM10 hDl
        rw [h]
        unfold outS
        rw [HMM.out]
      have HUN := Lib.hid (show ∀ x, x ∈ L0 → x &&& outS L (declS ls ls.length) = outS L (declS ls ls.length) from fun x hx => by
        have h := all_undecl HP.out (by rw [HL.out]; omega) HAL.out hx
        rw [HL.out] at h ⊢; exact h)
      have HDR := Lib.hid (fun W (h : MemsAt (fun b => w.heap.size < b) 3 W (.slice Al L cl) ls) => rdeclared_run _ 3 ls _ W (by rw [HL.out]; omega) h)
      have hOl := outS_lt L (declS ls ls.length) (by omega)
      generalize outS L (declS ls ls.length) = O at han HUN hOl
      generalize declS ls ls.length = D at han HDR hDl
      have HLT := Lib.hid (show ∀ x, x ∈ L0 → x < 1024 from fun x hx => by
        have h1 := ((HAL.out.2.2 x).1 hx).1
        rw [HL.out, HNN.out] at h1; omega)
      go_wp2_with fail
      go_loopw [75] (fun t W => ∃ j : Nat, j ≤ m ∧ t = .int .i64 (j : Int) ∧ Hid (Below wo.heap.size wo W)) (fun t _ => m - (intOf t).toNat)
      case atStart => exact ⟨0, Nat.zero_le _, rfl, Lib.hid (bref _)⟩
      case round =>
        obtain ⟨j, hj, rfl, hBf⟩ := hrel
        by_cases hlt2 : j < m
        · have HN7 := Lib.hid (HN6.out.below hBf.out)
          obtain ⟨x, hx⟩ : ∃ x, L0[j]? = some x := ⟨_, List.getElem?_eq_getElem (by rw [HML.out]; exact hlt2)⟩
          obtain ⟨A', c', hA', hcl⟩ := HN7.out
          injection hA' with q1 q2 q3
          subst q1
          obtain ⟨bn, on, hbn, _, hcn⟩ := hcl j (by unfold zs; rw [List.length_map, HML.out]; exact hlt2)
          subst hbn
          rw [zs_getD hx] at hcn
          have hand := i64_and_nat x O (by have := HLT.out x (List.mem_of_getElem? hx); omega) (by omega)
          rw [HUN.out x (List.mem_of_getElem? hx)] at hand
          have hpm := HM6.out.bel hBf.out
          have hS := Lib.hid (HKM.out _ _ ⟨hpm.cl, hpm⟩ (bdrew (bref wr)))
          have HBD := Lib.hid (bstep hBf.out (bdrew (bref wr)))
          clear hcl hx q2 q3 hpm
          go_upto_region 17 with fail
          clear hcn
          go_region_held3 (fun W => W.cell? ⟨g, 0, none⟩ = some (.slice Al L cl) ∧ PMade w g (.slice Al L cl) (.slice Ah L ch) ls hs W) (first | exact hS.out | exact hSK | exact HKM.out _ _ (by assumption) hbK | go_keep)
            (first
              | (go_at_call 20; refine (HDR.out _ (by exact (show PMade w g (.slice Al L cl) (.slice Ah L ch) ls hs _ from (by assumption : _ ∧ _).2).ml)).mono ?_; rintro e WK ⟨rfl, hbK⟩; have HBD := Lib.hid (bstep HBD.out hbK); have hSK := HKM.out _ _ (by assumption) hbK))
          all_goals
            go_wp2_with fail
            go_roundw
            case rel => exact ⟨j + 1, hlt2, by go_num, HBD⟩
            case measure => simp [intOf]; omega
        · obtain rfl : j = m := by omega
          have HM8 := Lib.hid (HM6.out.bel hBf.out).below
          go_wp2_with fail
          refine (awake14 _).mono ?_
          rintro e W9 ⟨rfl, hb9⟩
          have HF := Lib.hid (bstep HM8.out hb9)
          clear hb9
          go_wp2_with fail
          go_ret
          exact ⟨rfl, HF.out⟩
end Go.Proofs.YtacpfcckilnbfaaGreat
