/- The walk of BlockingGrows: the cascade grows with the set, contains the set, and the cascade of a cascade is itself. -/
import Derived.Test.YtkpfjflemlmhfaaAwake11
namespace Go.Proofs.Ytkpfjflemlmhfaa
set_option linter.unusedVariables false
set_option linter.unusedSimpArgs false
open Go.RowKit

theorem and_sub {a b : Nat} (h : Sub a b) : a &&& b = a := by
  apply Nat.eq_of_testBit_eq
  intro k
  rw [Nat.testBit_and]
  cases hb : a.testBit k
  · rfl
  · rw [h k hb]; rfl

set_option maxRecDepth 100000 in
set_option maxHeartbeats 4000000 in
theorem walkBlockingGrows (a0 : Option Addr) (len0 cap0 : Nat) (z0 : List Int) (w : World) (w0 : IsRow .i64 w a0 len0 cap0 z0) :
    Calls Try.prog 9 #[.slice a0 len0 cap0] w fun e w' => e = .returned (.bool true) ∧ Below w.heap.size w w' := by
  have HR := Lib.hid w0
  clear w0
  go_enter Try.func9, Try.ntmps9
  go_wp2_with fail
  refine (TNew_run _ _ _ _ _ HR.out).mono ?_
  rintro e v0 ⟨rfl, hs0, hb0⟩
  have HS0 := Lib.hid hs0
  have HB0 := Lib.hid hb0
  have hsl := hs0.lt
  clear hs0 hb0
  go_wp2_with fail
  refine (config_run _ 10 (by omega) (by omega) _ HS0.out).mono ?_
  rintro e v2 ⟨cv, ms, rfl, hl1, hl2, hM, hok, hs2, hg2⟩
  have hM0 := id hM
  obtain ⟨A, c, hcv, _⟩ := hM0
  obtain ⟨L, hL⟩ : ∃ L, ms.length = L := ⟨_, rfl⟩
  rw [hL] at hcv
  subst hcv
  have hba := balloc (bref v2) (.cells #[.slice A L c] 27)
  have HM := Lib.hid (show CMade w v2.heap.size (.slice A L c) ms (v2.alloc (.cells #[.slice A L c] 27)) from
    ⟨hs2.alloc _, alloc_at rfl, (hM.both (Q := fun b => w.heap.size < b) (fun _ _ _ => rfl) (fun k _ hk => by omega)).below hba, hs2.lt, bstep (bgrownC HB0.out hg2 (Nat.le_refl _)) hba⟩)
  have HL := Lib.hid hL
  have hl10 : ms.length ≤ 10 := by omega
  clear hM hok hs2 hg2 hba HS0 HB0 hl1 hL
  go_upto_region 3 with fail
  generalize v2.alloc (.cells #[.slice A L c] 27) = W1 at *
  generalize v2.heap.size = g at *
  go_wp2_with fail
  refine (TN_run _ _ _ (by omega) (by omega) HM.out.tape).mono ?_
  rintro e W2 ⟨r, hr0, hr1, rfl, hs2, hg2⟩
  obtain ⟨x, rfl⟩ := Int.eq_ofNat_of_zero_le hr0
  have HM2 := Lib.hid (HM.out.grown hs2 hg2)
  clear hs2 hg2 HM
  go_wp2_with fail
  refine (TN_run _ _ _ (by omega) (by omega) HM2.out.tape).mono ?_
  rintro e W3 ⟨r, hr0', hr1', rfl, hs3, hg3⟩
  obtain ⟨p, rfl⟩ := Int.eq_ofNat_of_zero_le hr0'
  have HM3 := Lib.hid (HM2.out.grown hs3 hg3)
  clear hs3 hg3 HM2
  have hxl : x < 1024 := by omega
  have hyl : x ||| p < 1024 := Nat.or_lt_two_pow (n := 10) (by omega) (by omega)
  have hor := i64_or_nat x p (by omega) (by omega)
  have HXY := Lib.hid (sub_orL (a := x) (b := p))
  generalize x ||| p = y at *
  have c0 := HM3.out.cell
  go_wp2_with fail
  refine (cascade_run _ 2 ms _ x _ hl10 hxl HM3.out.mems).mono ?_
  rintro e W4 ⟨gv1, gs1, a, rfl, hN1, hal, _, _, hia, hb4⟩
  have HM4 := Lib.hid (HM3.out.bel hb4)
  have HIA := Lib.hid hia
  obtain ⟨Aa, na, ca, hgv1⟩ : ∃ A n c, gv1 = .slice A n c := by
    obtain ⟨A, c, h1, _⟩ := hN1
    exact ⟨A, _, c, h1⟩
  subst hgv1
  clear hN1 hia hb4 c0 HM3
  have c0 := HM4.out.cell
  go_wp2_with fail
  refine (cascade_run _ 2 ms _ y _ hl10 hyl HM4.out.mems).mono ?_
  rintro e W5 ⟨gv2, gs2, b, rfl, hN2, hbl, _, _, hib, hb5⟩
  have HM5 := Lib.hid (HM4.out.bel hb5)
  have HIB := Lib.hid hib
  obtain ⟨Ab, nb, cb, hgv2⟩ : ∃ A n c, gv2 = .slice A n c := by
    obtain ⟨A, c, h1, _⟩ := hN2
    exact ⟨A, _, c, h1⟩
  subst hgv2
  clear hN2 hib hb5 c0 HM4
  have c0 := HM5.out.cell
  go_wp2_with fail
  refine (cascade_run _ 2 ms _ a _ hl10 hal HM5.out.mems).mono ?_
  rintro e W6 ⟨gv3, gs3, a', rfl, hN3, _, _, hcr, _, hb6⟩
  obtain ⟨rfl, rfl⟩ := hcr.none HIA.out.closed
  have HM6 := Lib.hid (HM5.out.bel hb6)
  obtain ⟨Ac, cc, hgv3⟩ : ∃ A c, gv3 = .slice A 0 c := by
    obtain ⟨A, c, h1, _⟩ := hN3
    exact ⟨A, c, h1⟩
  subst hgv3
  clear hN3 hcr hb6 c0 HM5
  have h1 := i64_and_nat a' x (by omega) (by omega)
  rw [Nat.and_comm, and_sub HIA.out.sub] at h1
  have h2 := i64_and_nat a' b (by omega) (by omega)
  rw [and_sub (HIA.out.least b hbl (fun k hk => HIB.out.sub k (HXY.out k hk)) HIB.out.closed)] at h2
  go_wp2_with fail
  refine (awake11 _).mono ?_
  rintro e Z ⟨rfl, hbz⟩
  have HZ := Lib.hid (bstep HM6.out.below hbz)
  clear hbz
  go_wp2_with fail
  go_ret
  exact ⟨rfl, HZ.out⟩
end Go.Proofs.Ytkpfjflemlmhfaa
