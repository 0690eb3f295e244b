/- The walk of DispensableMeans: a set is dispensable exactly if what is left is a quorum of High, or nothing, and Low behind its deletion has no two disjoint quorums. -/
import Derived.Test.YtacpfcckilnbfaaGreatB6
namespace Go.Proofs.YtacpfcckilnbfaaGreat
set_option linter.unusedVariables false
set_option linter.unusedSimpArgs false
open Go.RowKit

set_option maxRecDepth 100000 in
set_option maxHeartbeats 8000000 in
theorem walkDispensableMeans (a0 : Option Addr) (len0 cap0 : Nat) (z0 : List Int) (w : World) (w0 : IsRow .i64 w a0 len0 cap0 z0) :
    Calls Tryz.prog 6 #[.slice a0 len0 cap0] w fun e w' => e = .returned (.bool true) ∧ Below w.heap.size w w' := by
  have HR := Lib.hid w0
  clear w0
  go_enter Tryz.func6, Tryz.ntmps6
  go_wp2_with fail
  refine (TNew_run _ _ _ _ _ HR.out).mono ?_
  rintro e v0 ⟨rfl, hs0, hb0⟩
  have HS0 := Lib.hid hs0
  have HB0 := Lib.hid hb0
  have hsl := hs0.lt
  clear hs0 hb0 HR
  go_wp2_with fail
  refine (mkPair_run _ 6 (by omega) (by omega) _ HS0.out).mono ?_
  rintro e v2 ⟨vl, vh, ls, hs, rfl, hpm, hln, hML, hMH, hs2, hg2⟩
  obtain ⟨Al, cl, rfl⟩ := hML.slice
  obtain ⟨Ah, ch, rfl⟩ := hMH.slice
  have hlen := hpm.len
  obtain ⟨L, hL⟩ : ∃ L, ls.length = L := ⟨_, rfl⟩
  rw [hlen] at hMH ⊢
  rw [hL] at hML hMH hln ⊢
  have HM := Lib.hid (show PMade w v2.heap.size (.slice Al L cl) (.slice Ah L ch) ls hs ((v2.alloc (.cells #[.slice Al L cl] 27)).alloc (.cells #[.slice Ah L ch] 27)) from
    (show PMade w v2.heap.size (.slice Al L cl) (.slice Ah L ch) ls hs _ from ⟨(hs2.alloc _).alloc _, alloc_on (alloc_at rfl), alloc_at (alloc_sz _ _),
      (hML.both (w' := v2) (Q := fun b => w.heap.size < b) (fun _ _ _ => rfl) (fun k _ hk => by have : v0.heap.size ≤ k := hk; omega)).below (balloc (balloc (bref v2) _) _),
      (hMH.both (w' := v2) (Q := fun b => w.heap.size < b) (fun _ _ _ => rfl) (fun k _ hk => by have : v0.heap.size ≤ k := hk; omega)).below (balloc (balloc (bref v2) _) _), hs2.lt, bstep (bgrownC HB0.out hg2 (Nat.le_refl _)) (balloc (balloc (bref v2) _) _)⟩))
  have HP := Lib.hid hpm
  have HL := Lib.hid hL
  have HLH := Lib.hid (hlen.trans hL)
  have h1L : 1 ≤ L := by rw [← hL]; exact hpm.one
  have hp2 : 2 ^ L ≤ 2 ^ 6 := Nat.pow_le_pow_right (by omega) hln
  have hp1 : 1 ≤ 2 ^ L := Nat.one_le_two_pow
  have hpw := pow11 L (by omega)
  have hn64 : (L : Int) < 64 := by omega
  have hn0 : (0 : Int) ≤ (L : Int) := by omega
  obtain ⟨M, hM⟩ : ∃ M, 2 ^ L - 1 = M := ⟨_, rfl⟩
  have hw1 : wrap64 (((2 ^ L : Nat) : Int) - 1) = (M : Int) := by unfold wrap64; omega
  have HMM := Lib.hid hM
  have HO := Lib.hid (fun b (hb : b ≤ M) => outS_sub L b (by omega) (by rw [hM]; exact hb))
  rw [hM] at HO
  obtain ⟨N, hN⟩ : ∃ N, 2 ^ L = N := ⟨_, rfl⟩
  have HNN := Lib.hid hN
  rw [hN] at hp2 hp1 hpw hw1 hM
  have HMN := Lib.hid (show M + 1 = N by omega)
  have hM64 : M < 64 := by omega
  clear hN hM
  clear hML hMH hs2 hg2 HS0 HB0 hlen hpm hL
  go_upto_region 3 with fail
  generalize ((v2.alloc (.cells #[.slice Al L cl] 27)).alloc (.cells #[.slice Ah L ch] 27)) = W1 at *
  generalize v2.heap.size = g at *
  have c0 := HM.out.cl
  go_upto_region 4 with fail
  rw [show (N : Int) - 1 = (M : Int) by have := HMN.out; omega]
  clear c0 hpw hw1
  go_wp2_with fail
  go_loopw [7] (fun t W => ∃ i : Nat, i ≤ 6 ∧ t = .int .i64 (i : Int) ∧ Hid (PMade w g (.slice Al L cl) (.slice Ah L ch) ls hs W)) (fun t _ => 6 - (intOf t).toNat)
  case atStart => exact ⟨0, by omega, rfl, HM⟩
  case round =>
    obtain ⟨i, hi, rfl, HMr⟩ := hrel
    by_cases hlt : i < 6
    · have hlt2 : (i : Int) < 6 := by omega
      go_wp2_with fail
      refine (TN_run _ _ 64 (by omega) (by omega) HMr.out.tape).mono ?_
      rintro e W2 ⟨r, hr0, hr1, rfl, hs2, hg2⟩
      obtain ⟨q, rfl⟩ : ∃ q : Nat, r = (q : Int) := ⟨r.toNat, by omega⟩
      have HM2 := Lib.hid (HMr.out.grown hs2 hg2)
      have hand := i64_and_nat q M (by omega) (by omega)
      have hbM : q &&& M ≤ M := Nat.and_le_right
      generalize q &&& M = b at *
      have hb2 : b < N := by have := HMN.out; omega
      have HB := Lib.hid (show b < 2 ^ ls.length by rw [HL.out, HNN.out]; exact hb2)
      have hO := HO.out b hbM
      have HAV := Lib.hid (show AvT hs b ↔ (outS L b = 0 ∨ IsQ 3 hs (outS L b)) from by unfold AvT; rw [HLH.out])
      have hOl := outS_lt L b (by omega)
      generalize outS L b = rr at hO HAV hOl
      have c0 := HM2.out.cl
      have c1 := HM2.out.ch
      clear hs2 hg2
      go_wp2_with fail
      refine (dpIs_run _ _ ls hs _ _ b HB.out _ (by rw [HL.out]; omega) HM2.out.ml HM2.out.mh HP.out).mono ?_
      rintro e W3 ⟨⟨x, rfl, hx⟩, hb3⟩
      have HM3 := Lib.hid (HM2.out.bel hb3)
      have HX := Lib.hid hx
      clear hb3 hx c0 c1
      have c0 := HM3.out.cl
      have c1 := HM3.out.ch
      by_cases hr0 : rr = 0
      · have HY := Lib.hid (show AvT hs b from HAV.out.2 (.inl hr0))
        subst hr0
        go_wp2_with fail
        refine (D3.rdelete_run _ ls _ b _ (by rw [HL.out]; omega) (by omega) HM3.out.ml HP.out.okl).mono ?_
        rintro e W5 ⟨vd, rfl, hmd, hb5⟩
        have HM5 := Lib.hid (HM3.out.bel hb5)
        have HMD := Lib.hid hmd
        clear hb5 hmd
        go_wp2_with fail
        refine (D3.rholds_run _ (D3.delM b ls) _ _ (by rw [D3.delM_len, HL.out]; omega) HMD.out (D3.delM_ok HP.out.okl)).mono ?_
        rintro e W6 ⟨⟨z, rfl, hz⟩, hb6⟩
        have HM6 := Lib.hid (HM5.out.bel hb6)
        have HXX := Lib.hid (show x = (true && z) from by
          rw [Bool.eq_iff_iff, Bool.and_eq_true, HX.out]
          exact ⟨fun h => ⟨rfl, hz.2 h.2⟩, fun h => ⟨HY.out, hz.1 h.2⟩⟩)
        clear hb6 hz c0 c1
        have hxx := HXX.out
        subst hxx
        clear HXX HX
        cases x
        · go_wp2_with fail
          go_roundw
          case rel => exact ⟨i + 1, by omega, by go_num, HM6⟩
          case measure => simp [intOf]; omega
        · go_wp2_with fail
          go_roundw
          case rel => exact ⟨i + 1, by omega, by go_num, HM6⟩
          case measure => simp [intOf]; omega
      · have hri : ¬ (rr : Int) = 0 := by omega
        go_wp2_with fail
        refine (rquorum_run _ 3 hs _ rr _ (by rw [HLH.out]; omega) (by omega) HM3.out.mh).mono ?_
        rintro e W4 ⟨y, rfl, hy, hb4⟩
        have HY := Lib.hid (show y = true ↔ AvT hs b from hy.trans (Iff.trans ⟨fun h => Or.inr h, fun h => h.resolve_left hr0⟩ HAV.out.symm))
        have HM4 := Lib.hid (HM3.out.bel hb4)
        clear hb4 hy c0 c1
        have c0 := HM4.out.cl
        have c1 := HM4.out.ch
        go_wp2_with fail
        refine (D3.rdelete_run _ ls _ b _ (by rw [HL.out]; omega) (by omega) HM4.out.ml HP.out.okl).mono ?_
        rintro e W5 ⟨vd, rfl, hmd, hb5⟩
        have HM5 := Lib.hid (HM4.out.bel hb5)
        have HMD := Lib.hid hmd
        clear hb5 hmd
        go_wp2_with fail
        refine (D3.rholds_run _ (D3.delM b ls) _ _ (by rw [D3.delM_len, HL.out]; omega) HMD.out (D3.delM_ok HP.out.okl)).mono ?_
        rintro e W6 ⟨⟨z, rfl, hz⟩, hb6⟩
        have HM6 := Lib.hid (HM5.out.bel hb6)
        have HXX := Lib.hid (show x = (y && z) from by
          rw [Bool.eq_iff_iff, Bool.and_eq_true, HX.out]
          exact ⟨fun h => ⟨HY.out.2 h.1, hz.2 h.2⟩, fun h => ⟨HY.out.1 h.1, hz.1 h.2⟩⟩)
        clear hb6 hz c0 c1
        have hxx := HXX.out
        subst hxx
        clear HXX HX
        cases y
        · cases z
          · go_wp2_with fail
            go_roundw
            case rel => exact ⟨i + 1, by omega, by go_num, HM6⟩
            case measure => simp [intOf]; omega
          · go_wp2_with fail
            go_roundw
            case rel => exact ⟨i + 1, by omega, by go_num, HM6⟩
            case measure => simp [intOf]; omega
        · cases z
          · go_wp2_with fail
            go_roundw
            case rel => exact ⟨i + 1, by omega, by go_num, HM6⟩
            case measure => simp [intOf]; omega
          · go_wp2_with fail
            go_roundw
            case rel => exact ⟨i + 1, by omega, by go_num, HM6⟩
            case measure => simp [intOf]; omega
    · obtain rfl : i = 6 := by omega
      go_wp2_with fail
      refine (awake14 _).mono ?_
      rintro e W9 ⟨rfl, hb9⟩
      have HF := Lib.hid (HMr.out.bel hb9).below
      clear hb9
      go_wp2_with fail
      go_ret
      exact ⟨rfl, HF.out⟩
end Go.Proofs.YtacpfcckilnbfaaGreat
