/- The walk of IntactBlocks: no set of befouled members blocks an intact one. -/
import Derived.Test.YtacpfcckilnbfaaGreatB6
import Derived.Test.YtacpfcckilnbfaaGreatAwake15
import Derived.Test.YtacpfcckilnbfaaGreatIntLink
import Derived.Test.YtacpfcckilnbfaaGreatMkSet3
import Derived.Test.YtacpfcckilnbfaaGreatPMadeK
namespace Go.Proofs.YtacpfcckilnbfaaGreat
set_option linter.unusedVariables false
set_option linter.unusedSimpArgs false
open Go.RowKit

set_option maxRecDepth 100000 in
set_option maxHeartbeats 8000000 in
theorem walkIntactBlocks (a0 : Option Addr) (len0 cap0 : Nat) (z0 : List Int) (w : World) (w0 : IsRow .i64 w a0 len0 cap0 z0) :
    Calls Tryz.prog 8 #[.slice a0 len0 cap0] w fun e w' => e = .returned (.bool true) ∧ Below w.heap.size w w' := by
  have HR := Lib.hid w0
  clear w0
  go_enter Tryz.func8, Tryz.ntmps8
  go_wp2_with fail
  refine (TNew_run _ _ _ _ _ HR.out).mono ?_
  rintro e v0 ⟨rfl, hs0, hb0⟩
  have HS0 := Lib.hid hs0
  have HB0 := Lib.hid hb0
  have hsl := hs0.lt
  clear hs0 hb0 HR
  go_wp2_with fail
  refine (mkPair_run _ 6 (by omega) (by omega) _ HS0.out).mono ?_
  rintro e v2 ⟨vl, vh, ls, hs, rfl, hpm, hln, hML, hMH, hs2, hg2⟩
  obtain ⟨Al, cl, rfl⟩ := hML.slice
  obtain ⟨Ah, ch, rfl⟩ := hMH.slice
  have hlen := hpm.len
  obtain ⟨L, hL⟩ : ∃ L, ls.length = L := ⟨_, rfl⟩
  rw [hlen] at hMH ⊢
  rw [hL] at hML hMH hln ⊢
  have HM := Lib.hid (show PMade w v2.heap.size (.slice Al L cl) (.slice Ah L ch) ls hs ((v2.alloc (.cells #[.slice Al L cl] 27)).alloc (.cells #[.slice Ah L ch] 27)) from
    (show PMade w v2.heap.size (.slice Al L cl) (.slice Ah L ch) ls hs _ from ⟨(hs2.alloc _).alloc _, alloc_on (alloc_at rfl), alloc_at (alloc_sz _ _),
      (hML.both (w' := v2) (Q := fun b => w.heap.size < b) (fun _ _ _ => rfl) (fun k _ hk => by have : v0.heap.size ≤ k := hk; omega)).below (balloc (balloc (bref v2) _) _),
      (hMH.both (w' := v2) (Q := fun b => w.heap.size < b) (fun _ _ _ => rfl) (fun k _ hk => by have : v0.heap.size ≤ k := hk; omega)).below (balloc (balloc (bref v2) _) _), hs2.lt, bstep (bgrownC HB0.out hg2 (Nat.le_refl _)) (balloc (balloc (bref v2) _) _)⟩))
  have HP := Lib.hid hpm
  have HL := Lib.hid hL
  have HLH := Lib.hid (hlen.trans hL)
  have h1L : 1 ≤ L := by rw [← hL]; exact hpm.one
  have hp2 : 2 ^ L ≤ 2 ^ 6 := Nat.pow_le_pow_right (by omega) hln
  have hp1 : 1 ≤ 2 ^ L := Nat.one_le_two_pow
  have hpw := pow11 L (by omega)
  have hn64 : (L : Int) < 64 := by omega
  have hn0 : (0 : Int) ≤ (L : Int) := by omega
  obtain ⟨M, hM⟩ : ∃ M, 2 ^ L - 1 = M := ⟨_, rfl⟩
  have HMM := Lib.hid hM
  obtain ⟨N, hN⟩ : ∃ N, 2 ^ L = N := ⟨_, rfl⟩
  have HNN := Lib.hid hN
  rw [hN] at hp2 hp1 hpw hM
  have HMN := Lib.hid (show M + 1 = N by omega)
  have hM64 : M < 64 := by omega
  clear hN hM
  clear hML hMH hs2 hg2 HS0 HB0 hlen hpm hL
  go_upto_region 3 with fail
  generalize ((v2.alloc (.cells #[.slice Al L cl] 27)).alloc (.cells #[.slice Ah L ch] 27)) = W1 at *
  generalize v2.heap.size = g at *
  have hS := Lib.hid (show W1.drew.cell? ⟨g, 0, none⟩ = some (.slice Al L cl) ∧ W1.drew.cell? ⟨g + 1, 0, none⟩ = some (.slice Ah L ch) ∧ PMade w g (.slice Al L cl) (.slice Ah L ch) ls hs W1.drew from pmK ⟨HM.out.cl, HM.out.ch, HM.out⟩ (bdrew (bref _)))
  go_region_held3 (fun W => W.cell? ⟨g, 0, none⟩ = some (.slice Al L cl) ∧ W.cell? ⟨g + 1, 0, none⟩ = some (.slice Ah L ch) ∧ PMade w g (.slice Al L cl) (.slice Ah L ch) ls hs W) (first | exact hS.out | exact hSK | go_keep)
    (first
      | (go_at_call 14; refine (D3.mkSetN_run _ ls _ _ (by rw [HL.out]; exact h1L) (by rw [HL.out]; omega) (by exact (pmS (by assumption)).tape) (by exact (pmS (by assumption)).ml)).mono ?_; rintro e WK ⟨s, rfl, hs1, hs2, hg2⟩; have hSK := pmG (by assumption) hs2 hg2; have HSs := Lib.hid hs1; clear hs1 hs2 hg2)
      | (go_at_call 29; refine (inof_run _ _ ls hs _ _ s HSs.out _ (by rw [HL.out]; omega) (by exact (pmS (by assumption)).ml) (by exact (pmS (by assumption)).mh) HP.out).mono ?_; rintro e WL ⟨⟨a, rfl, ha⟩, hbK⟩; have hSK := pmK (by assumption) hbK; have HA := Lib.hid ha; clear ha hbK))
  all_goals
    have HM2 := Lib.hid (pmS (vl := .slice Al L cl) (vh := .slice Ah L ch) hSK)
    clear hSK HM hS
    have c0 := HM2.out.cl
    go_upto_region 7 with fail
    rw [show (N : Int) - 1 = (M : Int) by have := HMN.out; omega]
    have hal := HA.out.lt
    rw [HL.out, HNN.out] at hal
    have hMa : a < 64 := by have := HMN.out; omega
    clear c0 hpw hal
    go_wp2_with fail
    refine (rnodes_run a _ (by omega)).mono ?_
    rintro e W3 ⟨vn, rfl, hnv, hb3⟩
    have HM3 := Lib.hid (HM2.out.bel hb3)
    have hge : w.heap.size < W3.heap.size := by have := HM3.out.lt; have := HM3.out.low; omega
    have HNV0 := Lib.hid (hnv.both (w' := W3) (Q := fun b => w.heap.size < b) (fun _ _ _ => rfl) (fun q _ hq => by have := HM2.out.lt; have := HM2.out.low; show w.heap.size < q; have h5 : _ ≤ q := hq; omega))
    obtain ⟨Nn, cn, rfl⟩ := hnv.slice
    obtain ⟨m, hm⟩ : ∃ m, (nodL a 10).length = m := ⟨_, rfl⟩
    have hm10 := nodL_len a 10
    have hnv2 := HNV0.out
    rw [hm] at hm10 hnv2 ⊢
    have HNV := Lib.hid hnv2
    have HMm := Lib.hid hm
    have han : bits .andNot .i64 (M : Int) (a : Int) = ((outS L a : Nat) : Int) := by
      have h := andNot_nat M a (by omega) (by omega)
      rw [h]; unfold outS; rw [HMM.out]
    have HOD := Lib.hid (show ∀ j, a.testBit j = true → (outS L a).testBit j = false from fun j hj => by rw [outS_bit, hj]; simp)
    have hOl := outS_lt L a (by omega)
    generalize outS L a = bf at han HOD hOl
    clear hb3 hnv hm HNV0 hnv2 HM2
    go_wp2_with fail
    go_loopw [38] (fun t W => ∃ j : Nat, j ≤ m ∧ t = .int .i64 (j : Int) ∧ Hid (PMade w g (.slice Al L cl) (.slice Ah L ch) ls hs W) ∧ Hid (NodesAt (fun b => w.heap.size < b) W (.slice Nn m cn) (nodL a 10))) (fun t _ => m - (intOf t).toNat)
    case atStart => exact ⟨0, Nat.zero_le _, rfl, HM3, HNV⟩
    case round =>
      obtain ⟨j, hj, rfl, HMr, HNr⟩ := hrel
      by_cases hlt : j < m
      · obtain ⟨An, cn', hAn, hcl⟩ := HNr.out
        injection hAn with q1 q2 q3
        subst q1
        obtain ⟨bn, on, hbn, _, hcn⟩ := hcl j (by rw [HMm.out]; exact hlt)
        subst hbn
        obtain ⟨k, hkk, hk10, hkb⟩ := (nodL_mem a 10 ((nodL a 10).getD j 0)).1 (by rw [List.getD_eq_getElem?_getD, List.getElem?_eq_getElem (by rw [HMm.out]; exact hlt)]; exact List.getElem_mem _)
        rw [hkk] at hcn
        have HBK := Lib.hid (fun x (hx : x < 1024) (hd : ∀ j, a.testBit j = true → x.testBit j = false) => of_blocks HP.out (by rw [HL.out]; omega) HSs.out HA.out hkb hx hd)
        clear hcl hkk hkb q2 q3
        go_wp2_with fail
        clear hcn
        refine (TN_run _ _ 64 (by omega) (by omega) HMr.out.tape).mono ?_
        rintro e W4 ⟨r, hr0, hr1, rfl, hs2, hg2⟩
        obtain ⟨q, rfl⟩ : ∃ q : Nat, r = (q : Int) := ⟨r.toNat, by omega⟩
        have HM4 := Lib.hid (HMr.out.grown hs2 hg2)
        have HN4 := Lib.hid (HNr.out.both (w' := W4) (Q := fun b => w.heap.size < b) (fun p hp hP => hg2.block p hp (by simp; omega)) (fun _ _ h => h))
        have hand := i64_and_nat q M (by omega) (by omega)
        have hyM : q &&& M ≤ M := Nat.and_le_right
        generalize q &&& M = y at hand hyM
        have han2 : bits .andNot .i64 (y : Int) (a : Int) = ((minS y a : Nat) : Int) := andNot_nat y a (by omega) (by omega)
        have HXD := Lib.hid (show ∀ j, a.testBit j = true → (minS y a).testBit j = false from fun j hj => by rw [minS_bit, hj]; simp)
        have hxl : minS y a < 1024 := minS_lt (by omega)
        generalize minS y a = x at han2 HXD hxl
        have c0 := HM4.out.cl
        have c1 := HM4.out.ch
        clear hs2 hg2
        go_wp2_with fail
        refine (rblocks_run _ 3 ls _ k bf _ (by rw [HL.out]; omega) hOl hk10 HM4.out.ml).mono ?_
        rintro e W5 ⟨rfl, hb5⟩
        rw [(HBK.out bf hOl HOD.out).1]
        have HM5 := Lib.hid (HM4.out.bel hb5)
        have HN5 := Lib.hid (HN4.out.below hb5)
        clear hb5 c0 c1
        have c1 := HM5.out.ch
        go_wp2_with fail
        refine (rblocks_run _ 3 hs _ k bf _ (by rw [HLH.out]; omega) hOl hk10 HM5.out.mh).mono ?_
        rintro e W6 ⟨rfl, hb6⟩
        rw [(HBK.out bf hOl HOD.out).2]
        have HM6 := Lib.hid (HM5.out.bel hb6)
        have HN6 := Lib.hid (HN5.out.below hb6)
        clear hb6 c1
        have c1 := HM6.out.ch
        go_wp2_with fail
        refine (rblocks_run _ 3 hs _ k x _ (by rw [HLH.out]; omega) hxl hk10 HM6.out.mh).mono ?_
        rintro e W7 ⟨rfl, hb7⟩
        rw [(HBK.out x hxl HXD.out).2]
        have HM7 := Lib.hid (HM6.out.bel hb7)
        have HN7 := Lib.hid (HN6.out.below hb7)
        clear hb7 c1
        go_wp2_with fail
        go_roundw
        case rel => exact ⟨j + 1, hlt, by go_num, HM7, HN7⟩
        case measure => simp [intOf]; omega
      · obtain rfl : j = m := by omega
        go_wp2_with fail
        refine (awake15 _).mono ?_
        rintro e W99 ⟨rfl, hb9⟩
        have HF := Lib.hid (HMr.out.bel hb9).below
        clear hb9
        go_wp2_with fail
        go_ret
        exact ⟨rfl, HF.out⟩
end Go.Proofs.YtacpfcckilnbfaaGreat
