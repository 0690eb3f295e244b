/- The walk of ClosureUnion: the union of two quorums is a quorum, Greatest grows with the set, and Greatest of Greatest is Greatest. -/
import Derived.Test.YtkpfjflemlmhfaaCMade
import Derived.Deep.RegionHeld3
import Derived.Deep.DeepCutAuto
import Derived.Deep.CutRange
namespace Go.Proofs.Ytkpfjflemlmhfaa
set_option linter.unusedVariables false
open Go.RowKit

set_option maxRecDepth 100000 in
set_option maxHeartbeats 4000000 in
theorem walkClosureUnion (a0 : Option Addr) (len0 cap0 : Nat) (z0 : List Int) (w : World) (w0 : IsRow .i64 w a0 len0 cap0 z0) :
    Calls Try.prog 3 #[.slice a0 len0 cap0] w fun e w' => e = .returned (.bool true) ∧ Below w.heap.size w w' := by
  have HR := Lib.hid w0
  clear w0
  go_enter Try.func3, Try.ntmps3
  go_wp2_with fail
  refine (TNew_run _ _ _ _ _ HR.out).mono ?_
  rintro e v0 ⟨rfl, hs0, hb0⟩
  have HS0 := Lib.hid hs0
  have HB0 := Lib.hid hb0
  have hsl := hs0.lt
  clear hs0 hb0
  go_wp2_with fail
  refine (config_run _ 10 (by omega) (by omega) _ HS0.out).mono ?_
  rintro e v2 ⟨cv, ms, rfl, hl1, hl2, hM, hok, hs2, hg2⟩
  obtain ⟨A, nm, c, hcv⟩ : ∃ A n c, cv = .slice A n c := by
    obtain ⟨A, c, h1, _⟩ := hM
    exact ⟨A, _, c, h1⟩
  subst hcv
  have hba := balloc (bref v2) (.cells #[.slice A nm c] 27)
  have HM := Lib.hid (show CMade w v2.heap.size (.slice A nm c) ms (v2.alloc (.cells #[.slice A nm c] 27)) from
    ⟨hs2.alloc _, alloc_at rfl, (hM.both (Q := fun b => w.heap.size < b) (fun _ _ _ => rfl) (fun k _ hk => by omega)).below hba, hs2.lt, bstep (bgrownC HB0.out hg2 (Nat.le_refl _)) hba⟩)
  clear hM hok hs2 hg2 hba HS0 HB0
  go_upto_region 3 with fail
  generalize v2.alloc (.cells #[.slice A nm c] 27) = W1 at *
  generalize v2.heap.size = g at *
  have hS := Lib.hid HM.out.drew.keeps
  have hdl := declS_lt ms ms.length hl2
  go_region_held3 (fun W => W.cell? ⟨g, 0, none⟩ = some (.slice A nm c) ∧ CMade w g (.slice A nm c) ms W) (first | exact hS.out | exact hSK | exact keepC (by assumption) hbK | go_keep)
    (first
      | (go_at_call 15; refine (TN_run _ _ _ (by omega) (by omega) (by exact tapeC (by assumption))).mono ?_; rintro e WK ⟨r, hr0, hr1, rfl, hsK, hgK⟩; obtain ⟨a, rfl⟩ := Int.eq_ofNat_of_zero_le hr0; have hSK := growC (by assumption) hsK hgK; have hal : a < 1024 := (by omega))
      | (go_at_call 14; refine (greatest_run _ 2 ms _ _ _ (by exact hl2) (by assumption) (by exact memsC (by assumption))).mono ?_; rintro e WK ⟨G, rfl, hGl, hgr, hbK⟩; have hSK := keepC (by assumption) hbK))
  all_goals
    rename_i G1 hGl1 hgr1 hbK1 hSK1 WKb hSKb hHeld
    have HC := Lib.hid hSK.2
    have HG1 := Lib.hid hgr1
    have HG2 := Lib.hid hgr
    have hol : G1 ||| G < 1024 := Nat.or_lt_two_pow (n := 10) hGl1 hGl
    have HCO := Lib.hid (closed_or hl2 hGl1 hGl hgr1.closed hgr.closed)
    have HSO := Lib.hid (sub_or (sub_and.1 hgr1.sub).2 (sub_and.1 hgr.sub).2)
    have hor := i64_or_nat G1 G (by omega) (by omega)
    clear hgr1 hgr hbK1 hSK1 hSKb hHeld hSK hbK hS HM
    generalize hO : G1 ||| G = O at *
    have HO := Lib.hid hO
    clear hO
    have c0 := HC.out.cell
    go_upto_region 4 with fail
    go_cut [36] (fun u W => u = .bool false ∧ Hid (CMade w g (.slice A nm c) ms W))
    case first =>
      by_cases z1 : G1 = 0
      · have hz1 : ((G1 : Int) != 0) = false := by rw [z1]; rfl
        clear z1
        go_wp2_with fail
        go_meet
        exact ⟨rfl, HC⟩
      · have hz1 : ((G1 : Int) != 0) = true := by simpa using z1
        by_cases z2 : G = 0
        · have hz2 : ((G : Int) != 0) = false := by rw [z2]; rfl
          clear z2
          go_wp2_with fail
          go_meet
          exact ⟨rfl, HC⟩
        · have hz2 : ((G : Int) != 0) = true := by simpa using z2
          have hO0 : O ≠ 0 := fun e => by
            have h1 := HO.out
            rw [e] at h1
            exact z1 (by have h2 : G1 ≤ G1 ||| G := Nat.left_le_or; omega)
          go_wp2_with fail
          refine (quorum_run _ 2 ms _ O _ hl2 hol HC.out.mems).mono ?_
          rintro e W5 ⟨b, rfl, hb, hb5⟩
          obtain rfl : b = true := hb.2 ⟨hO0, HSO.out, HCO.out⟩
          have HC5 := Lib.hid (HC.out.bel hb5)
          clear hb hb5
          go_wp2_with fail
          go_meet
          exact ⟨rfl, HC5⟩
    case rest =>
      obtain ⟨rfl, HC5⟩ := hcut
      clear HC c0
      go_wp2_with fail
      refine (TN_run _ _ _ (by omega) (by omega) HC5.out.tape).mono ?_
      rintro e W6 ⟨r, hr0', hr1', rfl, hs6, hg6⟩
      obtain ⟨x, rfl⟩ := Int.eq_ofNat_of_zero_le hr0'
      have HC6 := Lib.hid (HC5.out.grown hs6 hg6)
      clear hs6 hg6 HC5
      go_wp2_with fail
      refine (TN_run _ _ _ (by omega) (by omega) HC6.out.tape).mono ?_
      rintro e W7 ⟨r, hr2', hr3', rfl, hs7, hg7⟩
      obtain ⟨z, rfl⟩ := Int.eq_ofNat_of_zero_le hr2'
      have HC7 := Lib.hid (HC6.out.grown hs7 hg7)
      clear hs7 hg7 HC6
      have hxl : x < 1024 := by omega
      have hyl : x ||| z < 1024 := Nat.or_lt_two_pow (n := 10) hxl (by omega)
      have hxy := i64_or_nat x z (by omega) (by omega)
      have HXY := Lib.hid (sub_or_and (x := x) (z := z) (D := declS ms ms.length))
      generalize x ||| z = y at *
      go_upto_region 8 with fail
      have hS := Lib.hid HC7.out.drew.keeps
      go_region_held3 (fun W => W.cell? ⟨g, 0, none⟩ = some (.slice A nm c) ∧ CMade w g (.slice A nm c) ms W) (first | exact hS.out | exact hSK | exact keepC (by assumption) hbK | go_keep)
        (first
          | (go_at_call_of 14 (Value.int .i64 (x : Int)); refine (greatest_run _ 2 ms _ x _ (by exact hl2) (by exact hxl) (by exact memsC (by assumption))).mono ?_; rintro e WK ⟨Gx, rfl, hGxl, hgx, hbK⟩; have hSK := keepC (by assumption) hbK)
          | (go_at_call_of 14 (Value.int .i64 (y : Int)); refine (greatest_run _ 2 ms _ y _ (by exact hl2) (by exact hyl) (by exact memsC (by assumption))).mono ?_; rintro e WK ⟨Gy, rfl, hGyl, hgy, hbK⟩; have hSK := keepC (by assumption) hbK))
      all_goals
        have HC8 := Lib.hid hSK.2
        have hand := i64_and_nat Gx Gy (by omega) (by omega)
        rw [gr_mono hGxl hgx hgy HXY.out] at hand
        have HGX := Lib.hid (And.intro hgx.closed (sub_and.1 hgx.sub).2)
        clear hSK hgx hgy hbK hS HC7
        have c0 := HC8.out.cell
        go_wp2_with fail
        refine (greatest_run _ 2 ms _ Gx _ hl2 hGxl HC8.out.mems).mono ?_
        rintro e W9 ⟨G', rfl, hG'l, hg', hb9⟩
        obtain rfl : G' = Gx := gr_self HGX.out.1 HGX.out.2 hGxl hg'
        have HC9 := Lib.hid (HC8.out.bel hb9)
        clear hg' hb9 c0 HC8
        have c0 := HC9.out.cell
        go_wp2_with fail
        refine (greatest_run _ 2 ms _ O _ hl2 hol HC9.out.mems).mono ?_
        rintro e W10 ⟨G'', rfl, hG2l, hg2, hb10⟩
        obtain rfl : G'' = O := gr_self HCO.out HSO.out hol hg2
        have HC10 := Lib.hid (HC9.out.bel hb10)
        clear hg2 hb10 c0 HC9
        go_wp2_with fail
        refine (awake09 _).mono ?_
        rintro e Z ⟨rfl, hbz⟩
        have HZ := Lib.hid (bstep HC10.out.below hbz)
        clear hbz
        go_wp2_with fail
        go_ret
        exact ⟨rfl, HZ.out⟩
end Go.Proofs.Ytkpfjflemlmhfaa
