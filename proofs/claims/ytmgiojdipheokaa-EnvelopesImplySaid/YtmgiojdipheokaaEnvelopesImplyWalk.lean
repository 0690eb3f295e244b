/- The walk of EnvelopesImply: accepting implies voting, and what covers a ballot implies it. -/
import Derived.Test.YtmgiojdipheokaaSane24
import Derived.Test.YtmgiojdipheokaaSEnv3
namespace Go.Proofs.Ytmgiojdipheokaa
set_option linter.unusedVariables false
set_option linter.unusedSimpArgs false
open Go.RowKit

theorem im_av {kd lo hi l h : Int} {bi v : Nat} (k : kd = 1 ∨ kd = 2 ∨ kd = 3) (h1 : acB kd bi lo hi v l h = true) : vcB kd bi lo hi v l h = true := by
  unfold acB at h1; unfold vcB
  simp only [Bool.and_eq_true, Bool.or_eq_true, Bool.not_eq_true', decide_eq_true_eq, decide_eq_false_iff_not] at *
  exact ⟨h1.1, by omega⟩
theorem im_sp {lo l a h : Int} {bi v : Nat} (h1 : spB bi lo v l h = true) (ha : l ≤ a) (hb : a ≤ h) : spB bi lo v a h = true := by
  unfold spB at *
  simp only [Bool.and_eq_true, Bool.not_eq_true', decide_eq_true_eq, decide_eq_false_iff_not] at *
  omega
theorem im_vv {kd lo hi l a h : Int} {bi v : Nat} (h1 : vcB kd bi lo hi v l h = true) (ha : l ≤ a) (hb : a ≤ h) : vcB kd bi lo hi v a h = true := by
  unfold vcB at *
  rw [Bool.and_eq_true] at *
  exact ⟨im_sp h1.1 ha hb, h1.2⟩
theorem im_aa {kd lo hi l a h : Int} {bi v : Nat} (h1 : acB kd bi lo hi v l h = true) (ha : l ≤ a) (hb : a ≤ h) : acB kd bi lo hi v a h = true := by
  unfold acB at *
  rw [Bool.and_eq_true] at *
  exact ⟨im_sp h1.1 ha hb, h1.2⟩
theorem im_vu {kd lo hi l h : Int} {bi v u : Nat} (h1 : vcB kd bi lo hi v l h = true) (hne : v ≠ u) : vcB kd bi lo hi u l h = false := by
  unfold vcB spB at *
  simp only [Bool.and_eq_true, decide_eq_true_eq] at h1
  obtain ⟨⟨rfl, _⟩, _⟩ := h1
  simp [hne]
theorem im_cov {c f d : Int} {i k j : Nat} (h1 : covB c i f k = true) (h2 : covB f k d j = true) : covB c i d j = true := by
  unfold covB at *
  simp only [Bool.and_eq_true, Bool.not_eq_true', decide_eq_true_eq] at *
  exact ⟨h1.1, h1.2.1.trans h2.2.1, by omega⟩
theorem zeroB_pos {c : Int} {i : Nat} (h : 1 ≤ c) : zeroB c i = false := by unfold zeroB; simp; omega
theorem im_ap {kd pc qc f d : Int} {bi pi qi k j : Nat} (h1 : apB kd bi pc pi qc qi f k = true) (h2 : covB f k d j = true) (hd : 1 ≤ d) : apB kd bi pc pi qc qi d j = true := by
  have hc := h2
  unfold covB at hc
  simp only [Bool.and_eq_true, Bool.not_eq_true', decide_eq_true_eq] at hc
  unfold apB at *
  rw [Bool.and_eq_true] at h1
  rw [zeroB_pos hd, Bool.not_false, Bool.true_and]
  have h3 := h1.2
  split at h3
  · rename_i hk
    rw [if_pos hk]
    unfold prepB at *
    simp only [Bool.or_eq_true] at *
    rcases h3 with (h3 | h3) | h3
    · exact .inl (.inl (im_cov h3 h2))
    · exact .inl (.inr (im_cov h3 h2))
    · right
      unfold lessB at *
      simp only [Bool.and_eq_true, Bool.or_eq_true, Bool.not_eq_true', decide_eq_true_eq] at *
      refine ⟨h3.1, ?_⟩
      omega
  · rename_i hk
    rw [if_neg hk]
    split at h3
    · rename_i hk2
      rw [if_pos hk2]
      exact im_cov h3 h2
    · rename_i hk2
      rw [if_neg hk2]
      simp only [decide_eq_true_eq] at *
      omega
theorem im_vp {kd bc f d : Int} {bi k j : Nat} (h1 : vpB kd bc bi f k = true) (h2 : covB f k d j = true) (hd : 1 ≤ d) : vpB kd bc bi d j = true := by
  have hc := h2
  unfold covB at hc
  simp only [Bool.and_eq_true, Bool.not_eq_true', decide_eq_true_eq] at hc
  unfold vpB at *
  rw [Bool.and_eq_true] at h1
  rw [zeroB_pos hd, Bool.not_false, Bool.true_and]
  have h3 := h1.2
  split at h3
  · rename_i hk
    rw [if_pos hk]
    exact im_cov h3 h2
  · rename_i hk
    rw [if_neg hk]
    simp only [decide_eq_true_eq] at *
    omega

set_option maxRecDepth 100000 in
set_option maxHeartbeats 8000000 in
theorem walkEnvelopesImply (a0 : Option Addr) (len0 cap0 : Nat) (z0 : List Int) (w : World) (w0 : IsRow .i64 w a0 len0 cap0 z0) :
    Calls Try.prog 6 #[.slice a0 len0 cap0] w fun e w' => e = .returned (.bool true) ∧ Below w.heap.size w w' := by
  have HR := Lib.hid w0
  clear w0
  go_enter Try.func6, Try.ntmps6
  go_wp2_with fail
  refine (New_run _ _ _ _ _ HR.out).mono ?_
  rintro e v0 ⟨rfl, hs0, hb0⟩
  have HS0 := Lib.hid hs0
  have HB0 := Lib.hid hb0
  clear hs0 hb0
  go_wp2_with fail
  refine (N_run _ _ _ (by omega) (by omega) HS0.out).mono ?_
  rintro e v1 ⟨nd, hnd0, hnd1, rfl, hs1, hg1⟩
  have HS1 := Lib.hid hs1
  have HB1 := Lib.hid (bgrown HB0.out hg1 (Nat.le_refl _))
  have hlz := HS0.out.lt
  have hlz1 := hg1.size
  clear hs1 hg1 HS0 HB0
  have hse := senv_run w.heap.size nd 1 v1 hnd0 (by omega) (by omega) (by omega) HS1.out
  have HSE := Lib.hid hse
  clear hse
  go_wp2_with fail
  refine HSE.out.mono ?_
  intro e v2 hres
  obtain ⟨sq, t, kd, bc, pc, qc, lo, hi, bi, pi, qi, n1, k1, n2, k2, A1, A2, T, rfl, hge, hs2, hg2⟩ := hres
  have hba := balloc (bref v2) (.cells #[.int .i64 nd, .int .i64 1, .int .i64 sq, .int .i64 t, .slice A1 n1 k1, .slice A2 n2 k2, .int .i64 kd, .int .i64 bc, .string (valOf bi), .int .i64 pc, .string (valOf pi), .int .i64 qc, .string (valOf qi), .int .i64 lo, .int .i64 hi] 44)
  have hlz2 := hg2.size
  have H0 := Lib.hid (show LE w v2.heap.size (fun b => v1.heap.size ≤ b) T nd 1 sq t kd bc pc qc lo hi bi pi qi n1 k1 n2 k2 A1 A2 (v2.alloc (.cells #[.int .i64 nd, .int .i64 1, .int .i64 sq, .int .i64 t, .slice A1 n1 k1, .slice A2 n2 k2, .int .i64 kd, .int .i64 bc, .string (valOf bi), .int .i64 pc, .string (valOf pi), .int .i64 qc, .string (valOf qi), .int .i64 lo, .int .i64 hi] 44)) from
    ⟨heap_alloc_new _ _, hge.bl hba, hs2.alloc _, bstep (bgrown HB1.out hg2 (Nat.le_refl _)) hba, by omega, fun b hb => by have : v1.heap.size ≤ b := hb; omega⟩)
  clear hge hs2 hg2 hba hlz hlz1 hlz2 HSE HS1 HB1
  go_upto_region 3 with fail
  generalize v2.alloc (.cells #[.int .i64 nd, .int .i64 1, .int .i64 sq, .int .i64 t, .slice A1 n1 k1, .slice A2 n2 k2, .int .i64 kd, .int .i64 bc, .string (valOf bi), .int .i64 pc, .string (valOf pi), .int .i64 qc, .string (valOf qi), .int .i64 lo, .int .i64 hi] 44) = V0 at *
  generalize v2.heap.size = eb at *
  generalize v1.heap.size = pb at *
  have x0 : V0.cell? ⟨eb, 0, none⟩ = some (.int .i64 nd) := cell_of_row _ _ 0 _ _ (0, 0) H0.out.e
  have x1 : V0.cell? ⟨eb, 1, none⟩ = some (.int .i64 1) := cell_of_row _ _ 1 _ _ (0, 0) H0.out.e
  have x2 : V0.cell? ⟨eb, 2, none⟩ = some (.int .i64 sq) := cell_of_row _ _ 2 _ _ (0, 0) H0.out.e
  have x3 : V0.cell? ⟨eb, 3, none⟩ = some (.int .i64 t) := cell_of_row _ _ 3 _ _ (0, 0) H0.out.e
  have x4 : V0.cell? ⟨eb, 4, none⟩ = some (.slice A1 n1 k1) := cell_of_row _ _ 4 _ _ (0, 0) H0.out.e
  have x5 : V0.cell? ⟨eb, 5, none⟩ = some (.slice A2 n2 k2) := cell_of_row _ _ 5 _ _ (0, 0) H0.out.e
  have x6 : V0.cell? ⟨eb, 6, none⟩ = some (.int .i64 kd) := cell_of_row _ _ 6 _ _ (0, 0) H0.out.e
  have x7 : V0.cell? ⟨eb, 7, none⟩ = some (.int .i64 bc) := cell_of_row _ _ 7 _ _ (0, 0) H0.out.e
  have x8 : V0.cell? ⟨eb, 8, none⟩ = some (.string (valOf bi)) := cell_of_row _ _ 8 _ _ (0, 0) H0.out.e
  have x9 : V0.cell? ⟨eb, 9, none⟩ = some (.int .i64 pc) := cell_of_row _ _ 9 _ _ (0, 0) H0.out.e
  have x10 : V0.cell? ⟨eb, 10, none⟩ = some (.string (valOf pi)) := cell_of_row _ _ 10 _ _ (0, 0) H0.out.e
  have x11 : V0.cell? ⟨eb, 11, none⟩ = some (.int .i64 qc) := cell_of_row _ _ 11 _ _ (0, 0) H0.out.e
  have x12 : V0.cell? ⟨eb, 12, none⟩ = some (.string (valOf qi)) := cell_of_row _ _ 12 _ _ (0, 0) H0.out.e
  have x13 : V0.cell? ⟨eb, 13, none⟩ = some (.int .i64 lo) := cell_of_row _ _ 13 _ _ (0, 0) H0.out.e
  have x14 : V0.cell? ⟨eb, 14, none⟩ = some (.int .i64 hi) := cell_of_row _ _ 14 _ _ (0, 0) H0.out.e
  go_wp2_with fail
  refine (pvalidE_run _ _ _ _ _ _ _ _ _ _ _ _ _ _ _ _ _ _ _ _ H0.out.ge).mono ?_
  rintro e V1 ⟨rfl, hb⟩
  have H1 := Lib.hid (H0.out.bl hb)
  clear hb H0 x0 x1 x2 x3 x4 x5 x6 x7 x8 x9 x10 x11 x12 x13 x14
  go_wp2_with fail
  refine (Range_run _ _ _ _ (by omega) (by omega) (by omega) H1.out.src).mono ?_
  rintro e V2 ⟨l, hl0, hl1, rfl, hs1, hg1⟩
  have H2 := Lib.hid (H1.out.grown hs1 hg1)
  clear hs1 hg1 H1
  go_wp2_with fail
  refine (N_run _ _ _ (by omega) (by omega) H2.out.src).mono ?_
  rintro e V3 ⟨q, hq0, hq1, rfl, hs1, hg1⟩
  have H3 := Lib.hid (H2.out.grown hs1 hg1)
  clear hs1 hg1 H2
  go_wp2_with fail
  refine (Range_run _ _ _ _ (by omega) (by omega) (by omega) H3.out.src).mono ?_
  rintro e V4 ⟨a, ha0, ha1, rfl, hs1, hg1⟩
  have H4 := Lib.hid (H3.out.grown hs1 hg1)
  clear hs1 hg1 H3
  go_wp2_with fail
  refine (Value_run _ _ H4.out.src).mono ?_
  rintro e V5 ⟨v, hv0, hv1, rfl, hs1, hg1⟩
  have H5 := Lib.hid (H4.out.grown hs1 hg1)
  clear hs1 hg1 H4
  go_wp2_with fail
  refine (Value_run _ _ H5.out.src).mono ?_
  rintro e V6 ⟨u, hu0, hu1, rfl, hs1, hg1⟩
  have H6 := Lib.hid (H5.out.grown hs1 hg1)
  clear hs1 hg1 H5
  go_wp2_with fail
  refine (Low_run _ _ H6.out.src).mono ?_
  rintro e V7 ⟨xc, xi, hxc0, hxc1, hxi0, hxi1, rfl, hs1, hg1⟩
  have H7 := Lib.hid (H6.out.grown hs1 hg1)
  clear hs1 hg1 H6
  go_wp2_with fail
  refine (Low_run _ _ H7.out.src).mono ?_
  rintro e V8 ⟨yc, yi, hyc0, hyc1, hyi0, hyi1, rfl, hs1, hg1⟩
  have H8 := Lib.hid (H7.out.grown hs1 hg1)
  clear hs1 hg1 H7
  have hb := balloc (balloc (bref V8) (.cells #[.int .i64 xc, .string (valOf xi)] 26)) (.cells #[.int .i64 yc, .string (valOf yi)] 26)
  have H9 := Lib.hid (H8.out.bl hb)
  have HX9 := Lib.hid (show BalAt ((V8.alloc (.cells #[.int .i64 xc, .string (valOf xi)] 26)).alloc (.cells #[.int .i64 yc, .string (valOf yi)] 26)) V8.heap.size xc xi from (BalAt.new V8 xc xi).alloc _)
  have HY9 := Lib.hid (show BalAt ((V8.alloc (.cells #[.int .i64 xc, .string (valOf xi)] 26)).alloc (.cells #[.int .i64 yc, .string (valOf yi)] 26)) (V8.heap.size + 1) yc yi by have := BalAt.new (V8.alloc (.cells #[.int .i64 xc, .string (valOf xi)] 26)) yc yi; rw [World.size_alloc] at this; exact this)
  clear hb H8
  go_upto_region 10 with fail
  generalize (V8.alloc (.cells #[.int .i64 xc, .string (valOf xi)] 26)).alloc (.cells #[.int .i64 yc, .string (valOf yi)] 26) = V9 at *
  generalize V8.heap.size = xb at *
  have hkd := (show kd = 1 ∨ kd = 2 ∨ kd = 3 by have := H9.out.ge.k; omega)
  have hvu := valOf_eqL (i := v) (j := u) (by omega) (by omega)
  have HVU := Lib.hid hvu
  have HKD := Lib.hid hkd
  clear hvu hkd
  go_cut [83] (fun z W => z = .bool false ∧ Hid (LE w eb (fun b => pb ≤ b) T nd 1 sq t kd bc pc qc lo hi bi pi qi n1 k1 n2 k2 A1 A2 W) ∧ Hid (BalAt W xb xc xi) ∧ Hid (BalAt W (xb + 1) yc yi))
  case first =>
    cases hA : acB kd bi lo hi v l (l + q)
    · as_aux_lemma =>
      have HA := Lib.hid hA
      clear hA
      have x0 : V9.cell? ⟨eb, 0, none⟩ = some (.int .i64 nd) := cell_of_row _ _ 0 _ _ (0, 0) H9.out.e
      have x1 : V9.cell? ⟨eb, 1, none⟩ = some (.int .i64 1) := cell_of_row _ _ 1 _ _ (0, 0) H9.out.e
      have x2 : V9.cell? ⟨eb, 2, none⟩ = some (.int .i64 sq) := cell_of_row _ _ 2 _ _ (0, 0) H9.out.e
      have x3 : V9.cell? ⟨eb, 3, none⟩ = some (.int .i64 t) := cell_of_row _ _ 3 _ _ (0, 0) H9.out.e
      have x4 : V9.cell? ⟨eb, 4, none⟩ = some (.slice A1 n1 k1) := cell_of_row _ _ 4 _ _ (0, 0) H9.out.e
      have x5 : V9.cell? ⟨eb, 5, none⟩ = some (.slice A2 n2 k2) := cell_of_row _ _ 5 _ _ (0, 0) H9.out.e
      have x6 : V9.cell? ⟨eb, 6, none⟩ = some (.int .i64 kd) := cell_of_row _ _ 6 _ _ (0, 0) H9.out.e
      have x7 : V9.cell? ⟨eb, 7, none⟩ = some (.int .i64 bc) := cell_of_row _ _ 7 _ _ (0, 0) H9.out.e
      have x8 : V9.cell? ⟨eb, 8, none⟩ = some (.string (valOf bi)) := cell_of_row _ _ 8 _ _ (0, 0) H9.out.e
      have x9 : V9.cell? ⟨eb, 9, none⟩ = some (.int .i64 pc) := cell_of_row _ _ 9 _ _ (0, 0) H9.out.e
      have x10 : V9.cell? ⟨eb, 10, none⟩ = some (.string (valOf pi)) := cell_of_row _ _ 10 _ _ (0, 0) H9.out.e
      have x11 : V9.cell? ⟨eb, 11, none⟩ = some (.int .i64 qc) := cell_of_row _ _ 11 _ _ (0, 0) H9.out.e
      have x12 : V9.cell? ⟨eb, 12, none⟩ = some (.string (valOf qi)) := cell_of_row _ _ 12 _ _ (0, 0) H9.out.e
      have x13 : V9.cell? ⟨eb, 13, none⟩ = some (.int .i64 lo) := cell_of_row _ _ 13 _ _ (0, 0) H9.out.e
      have x14 : V9.cell? ⟨eb, 14, none⟩ = some (.int .i64 hi) := cell_of_row _ _ 14 _ _ (0, 0) H9.out.e
      go_wp2_with fail
      refine (acceptsCom_run _ _ _ _ _ _ _ _ _ _ _ _ _ _ _ _ _ _ _ v _ _ hv1 _ H9.out.ge).mono ?_
      rintro e V21 ⟨rfl, hb⟩
      have H21 := Lib.hid (H9.out.bl hb)
      have HX21 := Lib.hid (HX9.out.below hb)
      have HY21 := Lib.hid (HY9.out.below hb)
      clear hb H9 HX9 HY9 x0 x1 x2 x3 x4 x5 x6 x7 x8 x9 x10 x11 x12 x13 x14
      rw [HA.out]
      cases hV : vcB kd bi lo hi v l (l + q)
      · as_aux_lemma =>
        have HV := Lib.hid hV
        clear hV
        have x0 : V21.cell? ⟨eb, 0, none⟩ = some (.int .i64 nd) := cell_of_row _ _ 0 _ _ (0, 0) H21.out.e
        have x1 : V21.cell? ⟨eb, 1, none⟩ = some (.int .i64 1) := cell_of_row _ _ 1 _ _ (0, 0) H21.out.e
        have x2 : V21.cell? ⟨eb, 2, none⟩ = some (.int .i64 sq) := cell_of_row _ _ 2 _ _ (0, 0) H21.out.e
        have x3 : V21.cell? ⟨eb, 3, none⟩ = some (.int .i64 t) := cell_of_row _ _ 3 _ _ (0, 0) H21.out.e
        have x4 : V21.cell? ⟨eb, 4, none⟩ = some (.slice A1 n1 k1) := cell_of_row _ _ 4 _ _ (0, 0) H21.out.e
        have x5 : V21.cell? ⟨eb, 5, none⟩ = some (.slice A2 n2 k2) := cell_of_row _ _ 5 _ _ (0, 0) H21.out.e
        have x6 : V21.cell? ⟨eb, 6, none⟩ = some (.int .i64 kd) := cell_of_row _ _ 6 _ _ (0, 0) H21.out.e
        have x7 : V21.cell? ⟨eb, 7, none⟩ = some (.int .i64 bc) := cell_of_row _ _ 7 _ _ (0, 0) H21.out.e
        have x8 : V21.cell? ⟨eb, 8, none⟩ = some (.string (valOf bi)) := cell_of_row _ _ 8 _ _ (0, 0) H21.out.e
        have x9 : V21.cell? ⟨eb, 9, none⟩ = some (.int .i64 pc) := cell_of_row _ _ 9 _ _ (0, 0) H21.out.e
        have x10 : V21.cell? ⟨eb, 10, none⟩ = some (.string (valOf pi)) := cell_of_row _ _ 10 _ _ (0, 0) H21.out.e
        have x11 : V21.cell? ⟨eb, 11, none⟩ = some (.int .i64 qc) := cell_of_row _ _ 11 _ _ (0, 0) H21.out.e
        have x12 : V21.cell? ⟨eb, 12, none⟩ = some (.string (valOf qi)) := cell_of_row _ _ 12 _ _ (0, 0) H21.out.e
        have x13 : V21.cell? ⟨eb, 13, none⟩ = some (.int .i64 lo) := cell_of_row _ _ 13 _ _ (0, 0) H21.out.e
        have x14 : V21.cell? ⟨eb, 14, none⟩ = some (.int .i64 hi) := cell_of_row _ _ 14 _ _ (0, 0) H21.out.e
        go_wp2_with fail
        refine (votesCom_run _ _ _ _ _ _ _ _ _ _ _ _ _ _ _ _ _ _ _ v _ _ hv1 _ H21.out.ge).mono ?_
        rintro e V22 ⟨rfl, hb⟩
        have H22 := Lib.hid (H21.out.bl hb)
        have HX22 := Lib.hid (HX21.out.below hb)
        have HY22 := Lib.hid (HY21.out.below hb)
        clear hb H21 HX21 HY21 x0 x1 x2 x3 x4 x5 x6 x7 x8 x9 x10 x11 x12 x13 x14
        rw [HV.out]
        have x0 : V22.cell? ⟨eb, 0, none⟩ = some (.int .i64 nd) := cell_of_row _ _ 0 _ _ (0, 0) H22.out.e
        have x1 : V22.cell? ⟨eb, 1, none⟩ = some (.int .i64 1) := cell_of_row _ _ 1 _ _ (0, 0) H22.out.e
        have x2 : V22.cell? ⟨eb, 2, none⟩ = some (.int .i64 sq) := cell_of_row _ _ 2 _ _ (0, 0) H22.out.e
        have x3 : V22.cell? ⟨eb, 3, none⟩ = some (.int .i64 t) := cell_of_row _ _ 3 _ _ (0, 0) H22.out.e
        have x4 : V22.cell? ⟨eb, 4, none⟩ = some (.slice A1 n1 k1) := cell_of_row _ _ 4 _ _ (0, 0) H22.out.e
        have x5 : V22.cell? ⟨eb, 5, none⟩ = some (.slice A2 n2 k2) := cell_of_row _ _ 5 _ _ (0, 0) H22.out.e
        have x6 : V22.cell? ⟨eb, 6, none⟩ = some (.int .i64 kd) := cell_of_row _ _ 6 _ _ (0, 0) H22.out.e
        have x7 : V22.cell? ⟨eb, 7, none⟩ = some (.int .i64 bc) := cell_of_row _ _ 7 _ _ (0, 0) H22.out.e
        have x8 : V22.cell? ⟨eb, 8, none⟩ = some (.string (valOf bi)) := cell_of_row _ _ 8 _ _ (0, 0) H22.out.e
        have x9 : V22.cell? ⟨eb, 9, none⟩ = some (.int .i64 pc) := cell_of_row _ _ 9 _ _ (0, 0) H22.out.e
        have x10 : V22.cell? ⟨eb, 10, none⟩ = some (.string (valOf pi)) := cell_of_row _ _ 10 _ _ (0, 0) H22.out.e
        have x11 : V22.cell? ⟨eb, 11, none⟩ = some (.int .i64 qc) := cell_of_row _ _ 11 _ _ (0, 0) H22.out.e
        have x12 : V22.cell? ⟨eb, 12, none⟩ = some (.string (valOf qi)) := cell_of_row _ _ 12 _ _ (0, 0) H22.out.e
        have x13 : V22.cell? ⟨eb, 13, none⟩ = some (.int .i64 lo) := cell_of_row _ _ 13 _ _ (0, 0) H22.out.e
        have x14 : V22.cell? ⟨eb, 14, none⟩ = some (.int .i64 hi) := cell_of_row _ _ 14 _ _ (0, 0) H22.out.e
        go_wp2_with fail
        refine (acceptsCom_run _ _ _ _ _ _ _ _ _ _ _ _ _ _ _ _ _ _ _ v _ _ hv1 _ H22.out.ge).mono ?_
        rintro e V23 ⟨rfl, hb⟩
        have H23 := Lib.hid (H22.out.bl hb)
        have HX23 := Lib.hid (HX22.out.below hb)
        have HY23 := Lib.hid (HY22.out.below hb)
        clear hb H22 HX22 HY22 x0 x1 x2 x3 x4 x5 x6 x7 x8 x9 x10 x11 x12 x13 x14
        rw [HA.out]
        go_wp2_with fail
        go_meet
        exact ⟨rfl, H23, HX23, HY23⟩
      · as_aux_lemma =>
        have HV := Lib.hid hV
        clear hV
        have x0 : V21.cell? ⟨eb, 0, none⟩ = some (.int .i64 nd) := cell_of_row _ _ 0 _ _ (0, 0) H21.out.e
        have x1 : V21.cell? ⟨eb, 1, none⟩ = some (.int .i64 1) := cell_of_row _ _ 1 _ _ (0, 0) H21.out.e
        have x2 : V21.cell? ⟨eb, 2, none⟩ = some (.int .i64 sq) := cell_of_row _ _ 2 _ _ (0, 0) H21.out.e
        have x3 : V21.cell? ⟨eb, 3, none⟩ = some (.int .i64 t) := cell_of_row _ _ 3 _ _ (0, 0) H21.out.e
        have x4 : V21.cell? ⟨eb, 4, none⟩ = some (.slice A1 n1 k1) := cell_of_row _ _ 4 _ _ (0, 0) H21.out.e
        have x5 : V21.cell? ⟨eb, 5, none⟩ = some (.slice A2 n2 k2) := cell_of_row _ _ 5 _ _ (0, 0) H21.out.e
        have x6 : V21.cell? ⟨eb, 6, none⟩ = some (.int .i64 kd) := cell_of_row _ _ 6 _ _ (0, 0) H21.out.e
        have x7 : V21.cell? ⟨eb, 7, none⟩ = some (.int .i64 bc) := cell_of_row _ _ 7 _ _ (0, 0) H21.out.e
        have x8 : V21.cell? ⟨eb, 8, none⟩ = some (.string (valOf bi)) := cell_of_row _ _ 8 _ _ (0, 0) H21.out.e
        have x9 : V21.cell? ⟨eb, 9, none⟩ = some (.int .i64 pc) := cell_of_row _ _ 9 _ _ (0, 0) H21.out.e
        have x10 : V21.cell? ⟨eb, 10, none⟩ = some (.string (valOf pi)) := cell_of_row _ _ 10 _ _ (0, 0) H21.out.e
        have x11 : V21.cell? ⟨eb, 11, none⟩ = some (.int .i64 qc) := cell_of_row _ _ 11 _ _ (0, 0) H21.out.e
        have x12 : V21.cell? ⟨eb, 12, none⟩ = some (.string (valOf qi)) := cell_of_row _ _ 12 _ _ (0, 0) H21.out.e
        have x13 : V21.cell? ⟨eb, 13, none⟩ = some (.int .i64 lo) := cell_of_row _ _ 13 _ _ (0, 0) H21.out.e
        have x14 : V21.cell? ⟨eb, 14, none⟩ = some (.int .i64 hi) := cell_of_row _ _ 14 _ _ (0, 0) H21.out.e
        go_wp2_with fail
        refine (votesCom_run _ _ _ _ _ _ _ _ _ _ _ _ _ _ _ _ _ _ _ v _ _ hv1 _ H21.out.ge).mono ?_
        rintro e V24 ⟨rfl, hb⟩
        have H24 := Lib.hid (H21.out.bl hb)
        have HX24 := Lib.hid (HX21.out.below hb)
        have HY24 := Lib.hid (HY21.out.below hb)
        clear hb H21 HX21 HY21 x0 x1 x2 x3 x4 x5 x6 x7 x8 x9 x10 x11 x12 x13 x14
        rw [HV.out]
        have x0 : V24.cell? ⟨eb, 0, none⟩ = some (.int .i64 nd) := cell_of_row _ _ 0 _ _ (0, 0) H24.out.e
        have x1 : V24.cell? ⟨eb, 1, none⟩ = some (.int .i64 1) := cell_of_row _ _ 1 _ _ (0, 0) H24.out.e
        have x2 : V24.cell? ⟨eb, 2, none⟩ = some (.int .i64 sq) := cell_of_row _ _ 2 _ _ (0, 0) H24.out.e
        have x3 : V24.cell? ⟨eb, 3, none⟩ = some (.int .i64 t) := cell_of_row _ _ 3 _ _ (0, 0) H24.out.e
        have x4 : V24.cell? ⟨eb, 4, none⟩ = some (.slice A1 n1 k1) := cell_of_row _ _ 4 _ _ (0, 0) H24.out.e
        have x5 : V24.cell? ⟨eb, 5, none⟩ = some (.slice A2 n2 k2) := cell_of_row _ _ 5 _ _ (0, 0) H24.out.e
        have x6 : V24.cell? ⟨eb, 6, none⟩ = some (.int .i64 kd) := cell_of_row _ _ 6 _ _ (0, 0) H24.out.e
        have x7 : V24.cell? ⟨eb, 7, none⟩ = some (.int .i64 bc) := cell_of_row _ _ 7 _ _ (0, 0) H24.out.e
        have x8 : V24.cell? ⟨eb, 8, none⟩ = some (.string (valOf bi)) := cell_of_row _ _ 8 _ _ (0, 0) H24.out.e
        have x9 : V24.cell? ⟨eb, 9, none⟩ = some (.int .i64 pc) := cell_of_row _ _ 9 _ _ (0, 0) H24.out.e
        have x10 : V24.cell? ⟨eb, 10, none⟩ = some (.string (valOf pi)) := cell_of_row _ _ 10 _ _ (0, 0) H24.out.e
        have x11 : V24.cell? ⟨eb, 11, none⟩ = some (.int .i64 qc) := cell_of_row _ _ 11 _ _ (0, 0) H24.out.e
        have x12 : V24.cell? ⟨eb, 12, none⟩ = some (.string (valOf qi)) := cell_of_row _ _ 12 _ _ (0, 0) H24.out.e
        have x13 : V24.cell? ⟨eb, 13, none⟩ = some (.int .i64 lo) := cell_of_row _ _ 13 _ _ (0, 0) H24.out.e
        have x14 : V24.cell? ⟨eb, 14, none⟩ = some (.int .i64 hi) := cell_of_row _ _ 14 _ _ (0, 0) H24.out.e
        go_wp2_with fail
        refine (votesCom_run _ _ _ _ _ _ _ _ _ _ _ _ _ _ _ _ _ _ _ v _ _ hv1 _ H24.out.ge).mono ?_
        rintro e V25 ⟨rfl, hb⟩
        have H25 := Lib.hid (H24.out.bl hb)
        have HX25 := Lib.hid (HX24.out.below hb)
        have HY25 := Lib.hid (HY24.out.below hb)
        clear hb H24 HX24 HY24 x0 x1 x2 x3 x4 x5 x6 x7 x8 x9 x10 x11 x12 x13 x14
        rw [im_vv HV.out ha0 ha1]
        as_aux_lemma =>
          have x0 : V25.cell? ⟨eb, 0, none⟩ = some (.int .i64 nd) := cell_of_row _ _ 0 _ _ (0, 0) H25.out.e
          have x1 : V25.cell? ⟨eb, 1, none⟩ = some (.int .i64 1) := cell_of_row _ _ 1 _ _ (0, 0) H25.out.e
          have x2 : V25.cell? ⟨eb, 2, none⟩ = some (.int .i64 sq) := cell_of_row _ _ 2 _ _ (0, 0) H25.out.e
          have x3 : V25.cell? ⟨eb, 3, none⟩ = some (.int .i64 t) := cell_of_row _ _ 3 _ _ (0, 0) H25.out.e
          have x4 : V25.cell? ⟨eb, 4, none⟩ = some (.slice A1 n1 k1) := cell_of_row _ _ 4 _ _ (0, 0) H25.out.e
          have x5 : V25.cell? ⟨eb, 5, none⟩ = some (.slice A2 n2 k2) := cell_of_row _ _ 5 _ _ (0, 0) H25.out.e
          have x6 : V25.cell? ⟨eb, 6, none⟩ = some (.int .i64 kd) := cell_of_row _ _ 6 _ _ (0, 0) H25.out.e
          have x7 : V25.cell? ⟨eb, 7, none⟩ = some (.int .i64 bc) := cell_of_row _ _ 7 _ _ (0, 0) H25.out.e
          have x8 : V25.cell? ⟨eb, 8, none⟩ = some (.string (valOf bi)) := cell_of_row _ _ 8 _ _ (0, 0) H25.out.e
          have x9 : V25.cell? ⟨eb, 9, none⟩ = some (.int .i64 pc) := cell_of_row _ _ 9 _ _ (0, 0) H25.out.e
          have x10 : V25.cell? ⟨eb, 10, none⟩ = some (.string (valOf pi)) := cell_of_row _ _ 10 _ _ (0, 0) H25.out.e
          have x11 : V25.cell? ⟨eb, 11, none⟩ = some (.int .i64 qc) := cell_of_row _ _ 11 _ _ (0, 0) H25.out.e
          have x12 : V25.cell? ⟨eb, 12, none⟩ = some (.string (valOf qi)) := cell_of_row _ _ 12 _ _ (0, 0) H25.out.e
          have x13 : V25.cell? ⟨eb, 13, none⟩ = some (.int .i64 lo) := cell_of_row _ _ 13 _ _ (0, 0) H25.out.e
          have x14 : V25.cell? ⟨eb, 14, none⟩ = some (.int .i64 hi) := cell_of_row _ _ 14 _ _ (0, 0) H25.out.e
          go_wp2_with fail
          refine (acceptsCom_run _ _ _ _ _ _ _ _ _ _ _ _ _ _ _ _ _ _ _ v _ _ hv1 _ H25.out.ge).mono ?_
          rintro e V26 ⟨rfl, hb⟩
          have H26 := Lib.hid (H25.out.bl hb)
          have HX26 := Lib.hid (HX25.out.below hb)
          have HY26 := Lib.hid (HY25.out.below hb)
          clear hb H25 HX25 HY25 x0 x1 x2 x3 x4 x5 x6 x7 x8 x9 x10 x11 x12 x13 x14
          rw [HA.out]
          go_wp2_with fail
          go_meet
          exact ⟨rfl, H26, HX26, HY26⟩
    · as_aux_lemma =>
      have HA := Lib.hid hA
      have HV := Lib.hid (im_av HKD.out hA)
      clear hA
      have x0 : V9.cell? ⟨eb, 0, none⟩ = some (.int .i64 nd) := cell_of_row _ _ 0 _ _ (0, 0) H9.out.e
      have x1 : V9.cell? ⟨eb, 1, none⟩ = some (.int .i64 1) := cell_of_row _ _ 1 _ _ (0, 0) H9.out.e
      have x2 : V9.cell? ⟨eb, 2, none⟩ = some (.int .i64 sq) := cell_of_row _ _ 2 _ _ (0, 0) H9.out.e
      have x3 : V9.cell? ⟨eb, 3, none⟩ = some (.int .i64 t) := cell_of_row _ _ 3 _ _ (0, 0) H9.out.e
      have x4 : V9.cell? ⟨eb, 4, none⟩ = some (.slice A1 n1 k1) := cell_of_row _ _ 4 _ _ (0, 0) H9.out.e
      have x5 : V9.cell? ⟨eb, 5, none⟩ = some (.slice A2 n2 k2) := cell_of_row _ _ 5 _ _ (0, 0) H9.out.e
      have x6 : V9.cell? ⟨eb, 6, none⟩ = some (.int .i64 kd) := cell_of_row _ _ 6 _ _ (0, 0) H9.out.e
      have x7 : V9.cell? ⟨eb, 7, none⟩ = some (.int .i64 bc) := cell_of_row _ _ 7 _ _ (0, 0) H9.out.e
      have x8 : V9.cell? ⟨eb, 8, none⟩ = some (.string (valOf bi)) := cell_of_row _ _ 8 _ _ (0, 0) H9.out.e
      have x9 : V9.cell? ⟨eb, 9, none⟩ = some (.int .i64 pc) := cell_of_row _ _ 9 _ _ (0, 0) H9.out.e
      have x10 : V9.cell? ⟨eb, 10, none⟩ = some (.string (valOf pi)) := cell_of_row _ _ 10 _ _ (0, 0) H9.out.e
      have x11 : V9.cell? ⟨eb, 11, none⟩ = some (.int .i64 qc) := cell_of_row _ _ 11 _ _ (0, 0) H9.out.e
      have x12 : V9.cell? ⟨eb, 12, none⟩ = some (.string (valOf qi)) := cell_of_row _ _ 12 _ _ (0, 0) H9.out.e
      have x13 : V9.cell? ⟨eb, 13, none⟩ = some (.int .i64 lo) := cell_of_row _ _ 13 _ _ (0, 0) H9.out.e
      have x14 : V9.cell? ⟨eb, 14, none⟩ = some (.int .i64 hi) := cell_of_row _ _ 14 _ _ (0, 0) H9.out.e
      go_wp2_with fail
      refine (acceptsCom_run _ _ _ _ _ _ _ _ _ _ _ _ _ _ _ _ _ _ _ v _ _ hv1 _ H9.out.ge).mono ?_
      rintro e V27 ⟨rfl, hb⟩
      have H27 := Lib.hid (H9.out.bl hb)
      have HX27 := Lib.hid (HX9.out.below hb)
      have HY27 := Lib.hid (HY9.out.below hb)
      clear hb H9 HX9 HY9 x0 x1 x2 x3 x4 x5 x6 x7 x8 x9 x10 x11 x12 x13 x14
      rw [HA.out]
      have x0 : V27.cell? ⟨eb, 0, none⟩ = some (.int .i64 nd) := cell_of_row _ _ 0 _ _ (0, 0) H27.out.e
      have x1 : V27.cell? ⟨eb, 1, none⟩ = some (.int .i64 1) := cell_of_row _ _ 1 _ _ (0, 0) H27.out.e
      have x2 : V27.cell? ⟨eb, 2, none⟩ = some (.int .i64 sq) := cell_of_row _ _ 2 _ _ (0, 0) H27.out.e
      have x3 : V27.cell? ⟨eb, 3, none⟩ = some (.int .i64 t) := cell_of_row _ _ 3 _ _ (0, 0) H27.out.e
      have x4 : V27.cell? ⟨eb, 4, none⟩ = some (.slice A1 n1 k1) := cell_of_row _ _ 4 _ _ (0, 0) H27.out.e
      have x5 : V27.cell? ⟨eb, 5, none⟩ = some (.slice A2 n2 k2) := cell_of_row _ _ 5 _ _ (0, 0) H27.out.e
      have x6 : V27.cell? ⟨eb, 6, none⟩ = some (.int .i64 kd) := cell_of_row _ _ 6 _ _ (0, 0) H27.out.e
      have x7 : V27.cell? ⟨eb, 7, none⟩ = some (.int .i64 bc) := cell_of_row _ _ 7 _ _ (0, 0) H27.out.e
      have x8 : V27.cell? ⟨eb, 8, none⟩ = some (.string (valOf bi)) := cell_of_row _ _ 8 _ _ (0, 0) H27.out.e
      have x9 : V27.cell? ⟨eb, 9, none⟩ = some (.int .i64 pc) := cell_of_row _ _ 9 _ _ (0, 0) H27.out.e
      have x10 : V27.cell? ⟨eb, 10, none⟩ = some (.string (valOf pi)) := cell_of_row _ _ 10 _ _ (0, 0) H27.out.e
      have x11 : V27.cell? ⟨eb, 11, none⟩ = some (.int .i64 qc) := cell_of_row _ _ 11 _ _ (0, 0) H27.out.e
      have x12 : V27.cell? ⟨eb, 12, none⟩ = some (.string (valOf qi)) := cell_of_row _ _ 12 _ _ (0, 0) H27.out.e
      have x13 : V27.cell? ⟨eb, 13, none⟩ = some (.int .i64 lo) := cell_of_row _ _ 13 _ _ (0, 0) H27.out.e
      have x14 : V27.cell? ⟨eb, 14, none⟩ = some (.int .i64 hi) := cell_of_row _ _ 14 _ _ (0, 0) H27.out.e
      go_wp2_with fail
      refine (votesCom_run _ _ _ _ _ _ _ _ _ _ _ _ _ _ _ _ _ _ _ v _ _ hv1 _ H27.out.ge).mono ?_
      rintro e V28 ⟨rfl, hb⟩
      have H28 := Lib.hid (H27.out.bl hb)
      have HX28 := Lib.hid (HX27.out.below hb)
      have HY28 := Lib.hid (HY27.out.below hb)
      clear hb H27 HX27 HY27 x0 x1 x2 x3 x4 x5 x6 x7 x8 x9 x10 x11 x12 x13 x14
      rw [HV.out]
      as_aux_lemma =>
        have x0 : V28.cell? ⟨eb, 0, none⟩ = some (.int .i64 nd) := cell_of_row _ _ 0 _ _ (0, 0) H28.out.e
        have x1 : V28.cell? ⟨eb, 1, none⟩ = some (.int .i64 1) := cell_of_row _ _ 1 _ _ (0, 0) H28.out.e
        have x2 : V28.cell? ⟨eb, 2, none⟩ = some (.int .i64 sq) := cell_of_row _ _ 2 _ _ (0, 0) H28.out.e
        have x3 : V28.cell? ⟨eb, 3, none⟩ = some (.int .i64 t) := cell_of_row _ _ 3 _ _ (0, 0) H28.out.e
        have x4 : V28.cell? ⟨eb, 4, none⟩ = some (.slice A1 n1 k1) := cell_of_row _ _ 4 _ _ (0, 0) H28.out.e
        have x5 : V28.cell? ⟨eb, 5, none⟩ = some (.slice A2 n2 k2) := cell_of_row _ _ 5 _ _ (0, 0) H28.out.e
        have x6 : V28.cell? ⟨eb, 6, none⟩ = some (.int .i64 kd) := cell_of_row _ _ 6 _ _ (0, 0) H28.out.e
        have x7 : V28.cell? ⟨eb, 7, none⟩ = some (.int .i64 bc) := cell_of_row _ _ 7 _ _ (0, 0) H28.out.e
        have x8 : V28.cell? ⟨eb, 8, none⟩ = some (.string (valOf bi)) := cell_of_row _ _ 8 _ _ (0, 0) H28.out.e
        have x9 : V28.cell? ⟨eb, 9, none⟩ = some (.int .i64 pc) := cell_of_row _ _ 9 _ _ (0, 0) H28.out.e
        have x10 : V28.cell? ⟨eb, 10, none⟩ = some (.string (valOf pi)) := cell_of_row _ _ 10 _ _ (0, 0) H28.out.e
        have x11 : V28.cell? ⟨eb, 11, none⟩ = some (.int .i64 qc) := cell_of_row _ _ 11 _ _ (0, 0) H28.out.e
        have x12 : V28.cell? ⟨eb, 12, none⟩ = some (.string (valOf qi)) := cell_of_row _ _ 12 _ _ (0, 0) H28.out.e
        have x13 : V28.cell? ⟨eb, 13, none⟩ = some (.int .i64 lo) := cell_of_row _ _ 13 _ _ (0, 0) H28.out.e
        have x14 : V28.cell? ⟨eb, 14, none⟩ = some (.int .i64 hi) := cell_of_row _ _ 14 _ _ (0, 0) H28.out.e
        go_wp2_with fail
        refine (votesCom_run _ _ _ _ _ _ _ _ _ _ _ _ _ _ _ _ _ _ _ v _ _ hv1 _ H28.out.ge).mono ?_
        rintro e V29 ⟨rfl, hb⟩
        have H29 := Lib.hid (H28.out.bl hb)
        have HX29 := Lib.hid (HX28.out.below hb)
        have HY29 := Lib.hid (HY28.out.below hb)
        clear hb H28 HX28 HY28 x0 x1 x2 x3 x4 x5 x6 x7 x8 x9 x10 x11 x12 x13 x14
        rw [HV.out]
        have x0 : V29.cell? ⟨eb, 0, none⟩ = some (.int .i64 nd) := cell_of_row _ _ 0 _ _ (0, 0) H29.out.e
        have x1 : V29.cell? ⟨eb, 1, none⟩ = some (.int .i64 1) := cell_of_row _ _ 1 _ _ (0, 0) H29.out.e
        have x2 : V29.cell? ⟨eb, 2, none⟩ = some (.int .i64 sq) := cell_of_row _ _ 2 _ _ (0, 0) H29.out.e
        have x3 : V29.cell? ⟨eb, 3, none⟩ = some (.int .i64 t) := cell_of_row _ _ 3 _ _ (0, 0) H29.out.e
        have x4 : V29.cell? ⟨eb, 4, none⟩ = some (.slice A1 n1 k1) := cell_of_row _ _ 4 _ _ (0, 0) H29.out.e
        have x5 : V29.cell? ⟨eb, 5, none⟩ = some (.slice A2 n2 k2) := cell_of_row _ _ 5 _ _ (0, 0) H29.out.e
        have x6 : V29.cell? ⟨eb, 6, none⟩ = some (.int .i64 kd) := cell_of_row _ _ 6 _ _ (0, 0) H29.out.e
        have x7 : V29.cell? ⟨eb, 7, none⟩ = some (.int .i64 bc) := cell_of_row _ _ 7 _ _ (0, 0) H29.out.e
        have x8 : V29.cell? ⟨eb, 8, none⟩ = some (.string (valOf bi)) := cell_of_row _ _ 8 _ _ (0, 0) H29.out.e
        have x9 : V29.cell? ⟨eb, 9, none⟩ = some (.int .i64 pc) := cell_of_row _ _ 9 _ _ (0, 0) H29.out.e
        have x10 : V29.cell? ⟨eb, 10, none⟩ = some (.string (valOf pi)) := cell_of_row _ _ 10 _ _ (0, 0) H29.out.e
        have x11 : V29.cell? ⟨eb, 11, none⟩ = some (.int .i64 qc) := cell_of_row _ _ 11 _ _ (0, 0) H29.out.e
        have x12 : V29.cell? ⟨eb, 12, none⟩ = some (.string (valOf qi)) := cell_of_row _ _ 12 _ _ (0, 0) H29.out.e
        have x13 : V29.cell? ⟨eb, 13, none⟩ = some (.int .i64 lo) := cell_of_row _ _ 13 _ _ (0, 0) H29.out.e
        have x14 : V29.cell? ⟨eb, 14, none⟩ = some (.int .i64 hi) := cell_of_row _ _ 14 _ _ (0, 0) H29.out.e
        go_wp2_with fail
        refine (votesCom_run _ _ _ _ _ _ _ _ _ _ _ _ _ _ _ _ _ _ _ v _ _ hv1 _ H29.out.ge).mono ?_
        rintro e V30 ⟨rfl, hb⟩
        have H30 := Lib.hid (H29.out.bl hb)
        have HX30 := Lib.hid (HX29.out.below hb)
        have HY30 := Lib.hid (HY29.out.below hb)
        clear hb H29 HX29 HY29 x0 x1 x2 x3 x4 x5 x6 x7 x8 x9 x10 x11 x12 x13 x14
        rw [im_vv HV.out ha0 ha1]
        as_aux_lemma =>
          have x0 : V30.cell? ⟨eb, 0, none⟩ = some (.int .i64 nd) := cell_of_row _ _ 0 _ _ (0, 0) H30.out.e
          have x1 : V30.cell? ⟨eb, 1, none⟩ = some (.int .i64 1) := cell_of_row _ _ 1 _ _ (0, 0) H30.out.e
          have x2 : V30.cell? ⟨eb, 2, none⟩ = some (.int .i64 sq) := cell_of_row _ _ 2 _ _ (0, 0) H30.out.e
          have x3 : V30.cell? ⟨eb, 3, none⟩ = some (.int .i64 t) := cell_of_row _ _ 3 _ _ (0, 0) H30.out.e
          have x4 : V30.cell? ⟨eb, 4, none⟩ = some (.slice A1 n1 k1) := cell_of_row _ _ 4 _ _ (0, 0) H30.out.e
          have x5 : V30.cell? ⟨eb, 5, none⟩ = some (.slice A2 n2 k2) := cell_of_row _ _ 5 _ _ (0, 0) H30.out.e
          have x6 : V30.cell? ⟨eb, 6, none⟩ = some (.int .i64 kd) := cell_of_row _ _ 6 _ _ (0, 0) H30.out.e
          have x7 : V30.cell? ⟨eb, 7, none⟩ = some (.int .i64 bc) := cell_of_row _ _ 7 _ _ (0, 0) H30.out.e
          have x8 : V30.cell? ⟨eb, 8, none⟩ = some (.string (valOf bi)) := cell_of_row _ _ 8 _ _ (0, 0) H30.out.e
          have x9 : V30.cell? ⟨eb, 9, none⟩ = some (.int .i64 pc) := cell_of_row _ _ 9 _ _ (0, 0) H30.out.e
          have x10 : V30.cell? ⟨eb, 10, none⟩ = some (.string (valOf pi)) := cell_of_row _ _ 10 _ _ (0, 0) H30.out.e
          have x11 : V30.cell? ⟨eb, 11, none⟩ = some (.int .i64 qc) := cell_of_row _ _ 11 _ _ (0, 0) H30.out.e
          have x12 : V30.cell? ⟨eb, 12, none⟩ = some (.string (valOf qi)) := cell_of_row _ _ 12 _ _ (0, 0) H30.out.e
          have x13 : V30.cell? ⟨eb, 13, none⟩ = some (.int .i64 lo) := cell_of_row _ _ 13 _ _ (0, 0) H30.out.e
          have x14 : V30.cell? ⟨eb, 14, none⟩ = some (.int .i64 hi) := cell_of_row _ _ 14 _ _ (0, 0) H30.out.e
          go_wp2_with fail
          refine (acceptsCom_run _ _ _ _ _ _ _ _ _ _ _ _ _ _ _ _ _ _ _ v _ _ hv1 _ H30.out.ge).mono ?_
          rintro e V31 ⟨rfl, hb⟩
          have H31 := Lib.hid (H30.out.bl hb)
          have HX31 := Lib.hid (HX30.out.below hb)
          have HY31 := Lib.hid (HY30.out.below hb)
          clear hb H30 HX30 HY30 x0 x1 x2 x3 x4 x5 x6 x7 x8 x9 x10 x11 x12 x13 x14
          rw [HA.out]
          have x0 : V31.cell? ⟨eb, 0, none⟩ = some (.int .i64 nd) := cell_of_row _ _ 0 _ _ (0, 0) H31.out.e
          have x1 : V31.cell? ⟨eb, 1, none⟩ = some (.int .i64 1) := cell_of_row _ _ 1 _ _ (0, 0) H31.out.e
          have x2 : V31.cell? ⟨eb, 2, none⟩ = some (.int .i64 sq) := cell_of_row _ _ 2 _ _ (0, 0) H31.out.e
          have x3 : V31.cell? ⟨eb, 3, none⟩ = some (.int .i64 t) := cell_of_row _ _ 3 _ _ (0, 0) H31.out.e
          have x4 : V31.cell? ⟨eb, 4, none⟩ = some (.slice A1 n1 k1) := cell_of_row _ _ 4 _ _ (0, 0) H31.out.e
          have x5 : V31.cell? ⟨eb, 5, none⟩ = some (.slice A2 n2 k2) := cell_of_row _ _ 5 _ _ (0, 0) H31.out.e
          have x6 : V31.cell? ⟨eb, 6, none⟩ = some (.int .i64 kd) := cell_of_row _ _ 6 _ _ (0, 0) H31.out.e
          have x7 : V31.cell? ⟨eb, 7, none⟩ = some (.int .i64 bc) := cell_of_row _ _ 7 _ _ (0, 0) H31.out.e
          have x8 : V31.cell? ⟨eb, 8, none⟩ = some (.string (valOf bi)) := cell_of_row _ _ 8 _ _ (0, 0) H31.out.e
          have x9 : V31.cell? ⟨eb, 9, none⟩ = some (.int .i64 pc) := cell_of_row _ _ 9 _ _ (0, 0) H31.out.e
          have x10 : V31.cell? ⟨eb, 10, none⟩ = some (.string (valOf pi)) := cell_of_row _ _ 10 _ _ (0, 0) H31.out.e
          have x11 : V31.cell? ⟨eb, 11, none⟩ = some (.int .i64 qc) := cell_of_row _ _ 11 _ _ (0, 0) H31.out.e
          have x12 : V31.cell? ⟨eb, 12, none⟩ = some (.string (valOf qi)) := cell_of_row _ _ 12 _ _ (0, 0) H31.out.e
          have x13 : V31.cell? ⟨eb, 13, none⟩ = some (.int .i64 lo) := cell_of_row _ _ 13 _ _ (0, 0) H31.out.e
          have x14 : V31.cell? ⟨eb, 14, none⟩ = some (.int .i64 hi) := cell_of_row _ _ 14 _ _ (0, 0) H31.out.e
          go_wp2_with fail
          refine (acceptsCom_run _ _ _ _ _ _ _ _ _ _ _ _ _ _ _ _ _ _ _ v _ _ hv1 _ H31.out.ge).mono ?_
          rintro e V32 ⟨rfl, hb⟩
          have H32 := Lib.hid (H31.out.bl hb)
          have HX32 := Lib.hid (HX31.out.below hb)
          have HY32 := Lib.hid (HY31.out.below hb)
          clear hb H31 HX31 HY31 x0 x1 x2 x3 x4 x5 x6 x7 x8 x9 x10 x11 x12 x13 x14
          rw [im_aa HA.out ha0 ha1]
          go_wp2_with fail
          go_meet
          exact ⟨rfl, H32, HX32, HY32⟩
  case rest =>
    as_aux_lemma =>
    obtain ⟨rfl, H10, HX10, HY10⟩ := hcut
    clear H9 HX9 HY9
    go_upto_region 12 with fail
    go_cut [100] (fun z W => z = .bool false ∧ Hid (LE w eb (fun b => pb ≤ b) T nd 1 sq t kd bc pc qc lo hi bi pi qi n1 k1 n2 k2 A1 A2 W) ∧ Hid (BalAt W xb xc xi) ∧ Hid (BalAt W (xb + 1) yc yi))
    case first =>
      by_cases hvu : v = u
      · as_aux_lemma =>
        have e1 : ((valOf v).toList == (valOf u).toList) = true := by rw [HVU.out]; simpa using hvu
        have e2 : ((valOf v).toList != (valOf u).toList) = false := by rw [bne, e1]; rfl
        clear hvu
        go_wp2_with fail
        go_meet
        exact ⟨rfl, H10, HX10, HY10⟩
      · as_aux_lemma =>
        have e1 : ((valOf v).toList == (valOf u).toList) = false := by rw [HVU.out]; simpa using hvu
        have e2 : ((valOf v).toList != (valOf u).toList) = true := by rw [bne, e1]; rfl
        have HNE := Lib.hid hvu
        clear hvu
        cases hV : vcB kd bi lo hi v l (l + q)
        · as_aux_lemma =>
          have HV := Lib.hid hV
          clear hV
          have x0 : wc.cell? ⟨eb, 0, none⟩ = some (.int .i64 nd) := cell_of_row _ _ 0 _ _ (0, 0) H10.out.e
          have x1 : wc.cell? ⟨eb, 1, none⟩ = some (.int .i64 1) := cell_of_row _ _ 1 _ _ (0, 0) H10.out.e
          have x2 : wc.cell? ⟨eb, 2, none⟩ = some (.int .i64 sq) := cell_of_row _ _ 2 _ _ (0, 0) H10.out.e
          have x3 : wc.cell? ⟨eb, 3, none⟩ = some (.int .i64 t) := cell_of_row _ _ 3 _ _ (0, 0) H10.out.e
          have x4 : wc.cell? ⟨eb, 4, none⟩ = some (.slice A1 n1 k1) := cell_of_row _ _ 4 _ _ (0, 0) H10.out.e
          have x5 : wc.cell? ⟨eb, 5, none⟩ = some (.slice A2 n2 k2) := cell_of_row _ _ 5 _ _ (0, 0) H10.out.e
          have x6 : wc.cell? ⟨eb, 6, none⟩ = some (.int .i64 kd) := cell_of_row _ _ 6 _ _ (0, 0) H10.out.e
          have x7 : wc.cell? ⟨eb, 7, none⟩ = some (.int .i64 bc) := cell_of_row _ _ 7 _ _ (0, 0) H10.out.e
          have x8 : wc.cell? ⟨eb, 8, none⟩ = some (.string (valOf bi)) := cell_of_row _ _ 8 _ _ (0, 0) H10.out.e
          have x9 : wc.cell? ⟨eb, 9, none⟩ = some (.int .i64 pc) := cell_of_row _ _ 9 _ _ (0, 0) H10.out.e
          have x10 : wc.cell? ⟨eb, 10, none⟩ = some (.string (valOf pi)) := cell_of_row _ _ 10 _ _ (0, 0) H10.out.e
          have x11 : wc.cell? ⟨eb, 11, none⟩ = some (.int .i64 qc) := cell_of_row _ _ 11 _ _ (0, 0) H10.out.e
          have x12 : wc.cell? ⟨eb, 12, none⟩ = some (.string (valOf qi)) := cell_of_row _ _ 12 _ _ (0, 0) H10.out.e
          have x13 : wc.cell? ⟨eb, 13, none⟩ = some (.int .i64 lo) := cell_of_row _ _ 13 _ _ (0, 0) H10.out.e
          have x14 : wc.cell? ⟨eb, 14, none⟩ = some (.int .i64 hi) := cell_of_row _ _ 14 _ _ (0, 0) H10.out.e
          go_wp2_with fail
          refine (votesCom_run _ _ _ _ _ _ _ _ _ _ _ _ _ _ _ _ _ _ _ v _ _ hv1 _ H10.out.ge).mono ?_
          rintro e V33 ⟨rfl, hb⟩
          have H33 := Lib.hid (H10.out.bl hb)
          have HX33 := Lib.hid (HX10.out.below hb)
          have HY33 := Lib.hid (HY10.out.below hb)
          clear hb H10 HX10 HY10 x0 x1 x2 x3 x4 x5 x6 x7 x8 x9 x10 x11 x12 x13 x14
          rw [HV.out]
          go_wp2_with fail
          go_meet
          exact ⟨rfl, H33, HX33, HY33⟩
        · as_aux_lemma =>
          have HV := Lib.hid hV
          clear hV
          have x0 : wc.cell? ⟨eb, 0, none⟩ = some (.int .i64 nd) := cell_of_row _ _ 0 _ _ (0, 0) H10.out.e
          have x1 : wc.cell? ⟨eb, 1, none⟩ = some (.int .i64 1) := cell_of_row _ _ 1 _ _ (0, 0) H10.out.e
          have x2 : wc.cell? ⟨eb, 2, none⟩ = some (.int .i64 sq) := cell_of_row _ _ 2 _ _ (0, 0) H10.out.e
          have x3 : wc.cell? ⟨eb, 3, none⟩ = some (.int .i64 t) := cell_of_row _ _ 3 _ _ (0, 0) H10.out.e
          have x4 : wc.cell? ⟨eb, 4, none⟩ = some (.slice A1 n1 k1) := cell_of_row _ _ 4 _ _ (0, 0) H10.out.e
          have x5 : wc.cell? ⟨eb, 5, none⟩ = some (.slice A2 n2 k2) := cell_of_row _ _ 5 _ _ (0, 0) H10.out.e
          have x6 : wc.cell? ⟨eb, 6, none⟩ = some (.int .i64 kd) := cell_of_row _ _ 6 _ _ (0, 0) H10.out.e
          have x7 : wc.cell? ⟨eb, 7, none⟩ = some (.int .i64 bc) := cell_of_row _ _ 7 _ _ (0, 0) H10.out.e
          have x8 : wc.cell? ⟨eb, 8, none⟩ = some (.string (valOf bi)) := cell_of_row _ _ 8 _ _ (0, 0) H10.out.e
          have x9 : wc.cell? ⟨eb, 9, none⟩ = some (.int .i64 pc) := cell_of_row _ _ 9 _ _ (0, 0) H10.out.e
          have x10 : wc.cell? ⟨eb, 10, none⟩ = some (.string (valOf pi)) := cell_of_row _ _ 10 _ _ (0, 0) H10.out.e
          have x11 : wc.cell? ⟨eb, 11, none⟩ = some (.int .i64 qc) := cell_of_row _ _ 11 _ _ (0, 0) H10.out.e
          have x12 : wc.cell? ⟨eb, 12, none⟩ = some (.string (valOf qi)) := cell_of_row _ _ 12 _ _ (0, 0) H10.out.e
          have x13 : wc.cell? ⟨eb, 13, none⟩ = some (.int .i64 lo) := cell_of_row _ _ 13 _ _ (0, 0) H10.out.e
          have x14 : wc.cell? ⟨eb, 14, none⟩ = some (.int .i64 hi) := cell_of_row _ _ 14 _ _ (0, 0) H10.out.e
          go_wp2_with fail
          refine (votesCom_run _ _ _ _ _ _ _ _ _ _ _ _ _ _ _ _ _ _ _ v _ _ hv1 _ H10.out.ge).mono ?_
          rintro e V34 ⟨rfl, hb⟩
          have H34 := Lib.hid (H10.out.bl hb)
          have HX34 := Lib.hid (HX10.out.below hb)
          have HY34 := Lib.hid (HY10.out.below hb)
          clear hb H10 HX10 HY10 x0 x1 x2 x3 x4 x5 x6 x7 x8 x9 x10 x11 x12 x13 x14
          rw [HV.out]
          have x0 : V34.cell? ⟨eb, 0, none⟩ = some (.int .i64 nd) := cell_of_row _ _ 0 _ _ (0, 0) H34.out.e
          have x1 : V34.cell? ⟨eb, 1, none⟩ = some (.int .i64 1) := cell_of_row _ _ 1 _ _ (0, 0) H34.out.e
          have x2 : V34.cell? ⟨eb, 2, none⟩ = some (.int .i64 sq) := cell_of_row _ _ 2 _ _ (0, 0) H34.out.e
          have x3 : V34.cell? ⟨eb, 3, none⟩ = some (.int .i64 t) := cell_of_row _ _ 3 _ _ (0, 0) H34.out.e
          have x4 : V34.cell? ⟨eb, 4, none⟩ = some (.slice A1 n1 k1) := cell_of_row _ _ 4 _ _ (0, 0) H34.out.e
          have x5 : V34.cell? ⟨eb, 5, none⟩ = some (.slice A2 n2 k2) := cell_of_row _ _ 5 _ _ (0, 0) H34.out.e
          have x6 : V34.cell? ⟨eb, 6, none⟩ = some (.int .i64 kd) := cell_of_row _ _ 6 _ _ (0, 0) H34.out.e
          have x7 : V34.cell? ⟨eb, 7, none⟩ = some (.int .i64 bc) := cell_of_row _ _ 7 _ _ (0, 0) H34.out.e
          have x8 : V34.cell? ⟨eb, 8, none⟩ = some (.string (valOf bi)) := cell_of_row _ _ 8 _ _ (0, 0) H34.out.e
          have x9 : V34.cell? ⟨eb, 9, none⟩ = some (.int .i64 pc) := cell_of_row _ _ 9 _ _ (0, 0) H34.out.e
          have x10 : V34.cell? ⟨eb, 10, none⟩ = some (.string (valOf pi)) := cell_of_row _ _ 10 _ _ (0, 0) H34.out.e
          have x11 : V34.cell? ⟨eb, 11, none⟩ = some (.int .i64 qc) := cell_of_row _ _ 11 _ _ (0, 0) H34.out.e
          have x12 : V34.cell? ⟨eb, 12, none⟩ = some (.string (valOf qi)) := cell_of_row _ _ 12 _ _ (0, 0) H34.out.e
          have x13 : V34.cell? ⟨eb, 13, none⟩ = some (.int .i64 lo) := cell_of_row _ _ 13 _ _ (0, 0) H34.out.e
          have x14 : V34.cell? ⟨eb, 14, none⟩ = some (.int .i64 hi) := cell_of_row _ _ 14 _ _ (0, 0) H34.out.e
          go_wp2_with fail
          refine (votesCom_run _ _ _ _ _ _ _ _ _ _ _ _ _ _ _ _ _ _ _ u _ _ hu1 _ H34.out.ge).mono ?_
          rintro e V35 ⟨rfl, hb⟩
          have H35 := Lib.hid (H34.out.bl hb)
          have HX35 := Lib.hid (HX34.out.below hb)
          have HY35 := Lib.hid (HY34.out.below hb)
          clear hb H34 HX34 HY34 x0 x1 x2 x3 x4 x5 x6 x7 x8 x9 x10 x11 x12 x13 x14
          rw [im_vu HV.out HNE.out]
          go_wp2_with fail
          go_meet
          exact ⟨rfl, H35, HX35, HY35⟩
    case rest =>
      as_aux_lemma =>
      obtain ⟨rfl, H11, HX11, HY11⟩ := hcut
      clear H10 HX10 HY10
      cases hX : apB kd bi pc pi qc qi xc xi
      · as_aux_lemma =>
        have HX := Lib.hid hX
        clear hX
        have x0 : wc.cell? ⟨eb, 0, none⟩ = some (.int .i64 nd) := cell_of_row _ _ 0 _ _ (0, 0) H11.out.e
        have x1 : wc.cell? ⟨eb, 1, none⟩ = some (.int .i64 1) := cell_of_row _ _ 1 _ _ (0, 0) H11.out.e
        have x2 : wc.cell? ⟨eb, 2, none⟩ = some (.int .i64 sq) := cell_of_row _ _ 2 _ _ (0, 0) H11.out.e
        have x3 : wc.cell? ⟨eb, 3, none⟩ = some (.int .i64 t) := cell_of_row _ _ 3 _ _ (0, 0) H11.out.e
        have x4 : wc.cell? ⟨eb, 4, none⟩ = some (.slice A1 n1 k1) := cell_of_row _ _ 4 _ _ (0, 0) H11.out.e
        have x5 : wc.cell? ⟨eb, 5, none⟩ = some (.slice A2 n2 k2) := cell_of_row _ _ 5 _ _ (0, 0) H11.out.e
        have x6 : wc.cell? ⟨eb, 6, none⟩ = some (.int .i64 kd) := cell_of_row _ _ 6 _ _ (0, 0) H11.out.e
        have x7 : wc.cell? ⟨eb, 7, none⟩ = some (.int .i64 bc) := cell_of_row _ _ 7 _ _ (0, 0) H11.out.e
        have x8 : wc.cell? ⟨eb, 8, none⟩ = some (.string (valOf bi)) := cell_of_row _ _ 8 _ _ (0, 0) H11.out.e
        have x9 : wc.cell? ⟨eb, 9, none⟩ = some (.int .i64 pc) := cell_of_row _ _ 9 _ _ (0, 0) H11.out.e
        have x10 : wc.cell? ⟨eb, 10, none⟩ = some (.string (valOf pi)) := cell_of_row _ _ 10 _ _ (0, 0) H11.out.e
        have x11 : wc.cell? ⟨eb, 11, none⟩ = some (.int .i64 qc) := cell_of_row _ _ 11 _ _ (0, 0) H11.out.e
        have x12 : wc.cell? ⟨eb, 12, none⟩ = some (.string (valOf qi)) := cell_of_row _ _ 12 _ _ (0, 0) H11.out.e
        have x13 : wc.cell? ⟨eb, 13, none⟩ = some (.int .i64 lo) := cell_of_row _ _ 13 _ _ (0, 0) H11.out.e
        have x14 : wc.cell? ⟨eb, 14, none⟩ = some (.int .i64 hi) := cell_of_row _ _ 14 _ _ (0, 0) H11.out.e
        obtain ⟨p0, p1⟩ := HX11.out.cs
        go_wp2_with fail
        refine (acceptsPrep_run _ _ _ _ _ _ _ _ _ _ _ _ _ _ _ _ _ _ _ _ xi hxi1 _ H11.out.ge).mono ?_
        rintro e V36 ⟨rfl, hb⟩
        have H36 := Lib.hid (H11.out.bl hb)
        have HX36 := Lib.hid (HX11.out.below hb)
        have HY36 := Lib.hid (HY11.out.below hb)
        clear hb H11 HX11 HY11 x0 x1 x2 x3 x4 x5 x6 x7 x8 x9 x10 x11 x12 x13 x14 p0 p1
        rw [HX.out]
        cases hP : vpB kd bc bi xc xi
        · as_aux_lemma =>
          have HP := Lib.hid hP
          clear hP
          have x0 : V36.cell? ⟨eb, 0, none⟩ = some (.int .i64 nd) := cell_of_row _ _ 0 _ _ (0, 0) H36.out.e
          have x1 : V36.cell? ⟨eb, 1, none⟩ = some (.int .i64 1) := cell_of_row _ _ 1 _ _ (0, 0) H36.out.e
          have x2 : V36.cell? ⟨eb, 2, none⟩ = some (.int .i64 sq) := cell_of_row _ _ 2 _ _ (0, 0) H36.out.e
          have x3 : V36.cell? ⟨eb, 3, none⟩ = some (.int .i64 t) := cell_of_row _ _ 3 _ _ (0, 0) H36.out.e
          have x4 : V36.cell? ⟨eb, 4, none⟩ = some (.slice A1 n1 k1) := cell_of_row _ _ 4 _ _ (0, 0) H36.out.e
          have x5 : V36.cell? ⟨eb, 5, none⟩ = some (.slice A2 n2 k2) := cell_of_row _ _ 5 _ _ (0, 0) H36.out.e
          have x6 : V36.cell? ⟨eb, 6, none⟩ = some (.int .i64 kd) := cell_of_row _ _ 6 _ _ (0, 0) H36.out.e
          have x7 : V36.cell? ⟨eb, 7, none⟩ = some (.int .i64 bc) := cell_of_row _ _ 7 _ _ (0, 0) H36.out.e
          have x8 : V36.cell? ⟨eb, 8, none⟩ = some (.string (valOf bi)) := cell_of_row _ _ 8 _ _ (0, 0) H36.out.e
          have x9 : V36.cell? ⟨eb, 9, none⟩ = some (.int .i64 pc) := cell_of_row _ _ 9 _ _ (0, 0) H36.out.e
          have x10 : V36.cell? ⟨eb, 10, none⟩ = some (.string (valOf pi)) := cell_of_row _ _ 10 _ _ (0, 0) H36.out.e
          have x11 : V36.cell? ⟨eb, 11, none⟩ = some (.int .i64 qc) := cell_of_row _ _ 11 _ _ (0, 0) H36.out.e
          have x12 : V36.cell? ⟨eb, 12, none⟩ = some (.string (valOf qi)) := cell_of_row _ _ 12 _ _ (0, 0) H36.out.e
          have x13 : V36.cell? ⟨eb, 13, none⟩ = some (.int .i64 lo) := cell_of_row _ _ 13 _ _ (0, 0) H36.out.e
          have x14 : V36.cell? ⟨eb, 14, none⟩ = some (.int .i64 hi) := cell_of_row _ _ 14 _ _ (0, 0) H36.out.e
          obtain ⟨p0, p1⟩ := HX36.out.cs
          go_wp2_with fail
          refine (votesPrep_run _ _ _ _ _ _ _ _ _ _ _ _ _ _ _ _ _ _ _ _ xi hxi1 _ H36.out.ge).mono ?_
          rintro e V37 ⟨rfl, hb⟩
          have H37 := Lib.hid (H36.out.bl hb)
          have HX37 := Lib.hid (HX36.out.below hb)
          have HY37 := Lib.hid (HY36.out.below hb)
          clear hb H36 HX36 HY36 x0 x1 x2 x3 x4 x5 x6 x7 x8 x9 x10 x11 x12 x13 x14 p0 p1
          rw [HP.out]
          go_wp2_with fail
          refine (sane24 _).mono ?_
          rintro e Z ⟨rfl, hb⟩
          have HE := Lib.hid (bstep H37.out.bel hb)
          clear hb
          go_wp2_with fail
          go_ret
          exact ⟨rfl, HE.out⟩
        · as_aux_lemma =>
          have HP := Lib.hid hP
          clear hP
          have x0 : V36.cell? ⟨eb, 0, none⟩ = some (.int .i64 nd) := cell_of_row _ _ 0 _ _ (0, 0) H36.out.e
          have x1 : V36.cell? ⟨eb, 1, none⟩ = some (.int .i64 1) := cell_of_row _ _ 1 _ _ (0, 0) H36.out.e
          have x2 : V36.cell? ⟨eb, 2, none⟩ = some (.int .i64 sq) := cell_of_row _ _ 2 _ _ (0, 0) H36.out.e
          have x3 : V36.cell? ⟨eb, 3, none⟩ = some (.int .i64 t) := cell_of_row _ _ 3 _ _ (0, 0) H36.out.e
          have x4 : V36.cell? ⟨eb, 4, none⟩ = some (.slice A1 n1 k1) := cell_of_row _ _ 4 _ _ (0, 0) H36.out.e
          have x5 : V36.cell? ⟨eb, 5, none⟩ = some (.slice A2 n2 k2) := cell_of_row _ _ 5 _ _ (0, 0) H36.out.e
          have x6 : V36.cell? ⟨eb, 6, none⟩ = some (.int .i64 kd) := cell_of_row _ _ 6 _ _ (0, 0) H36.out.e
          have x7 : V36.cell? ⟨eb, 7, none⟩ = some (.int .i64 bc) := cell_of_row _ _ 7 _ _ (0, 0) H36.out.e
          have x8 : V36.cell? ⟨eb, 8, none⟩ = some (.string (valOf bi)) := cell_of_row _ _ 8 _ _ (0, 0) H36.out.e
          have x9 : V36.cell? ⟨eb, 9, none⟩ = some (.int .i64 pc) := cell_of_row _ _ 9 _ _ (0, 0) H36.out.e
          have x10 : V36.cell? ⟨eb, 10, none⟩ = some (.string (valOf pi)) := cell_of_row _ _ 10 _ _ (0, 0) H36.out.e
          have x11 : V36.cell? ⟨eb, 11, none⟩ = some (.int .i64 qc) := cell_of_row _ _ 11 _ _ (0, 0) H36.out.e
          have x12 : V36.cell? ⟨eb, 12, none⟩ = some (.string (valOf qi)) := cell_of_row _ _ 12 _ _ (0, 0) H36.out.e
          have x13 : V36.cell? ⟨eb, 13, none⟩ = some (.int .i64 lo) := cell_of_row _ _ 13 _ _ (0, 0) H36.out.e
          have x14 : V36.cell? ⟨eb, 14, none⟩ = some (.int .i64 hi) := cell_of_row _ _ 14 _ _ (0, 0) H36.out.e
          obtain ⟨p0, p1⟩ := HX36.out.cs
          go_wp2_with fail
          refine (votesPrep_run _ _ _ _ _ _ _ _ _ _ _ _ _ _ _ _ _ _ _ _ xi hxi1 _ H36.out.ge).mono ?_
          rintro e V38 ⟨rfl, hb⟩
          have H38 := Lib.hid (H36.out.bl hb)
          have HX38 := Lib.hid (HX36.out.below hb)
          have HY38 := Lib.hid (HY36.out.below hb)
          clear hb H36 HX36 HY36 x0 x1 x2 x3 x4 x5 x6 x7 x8 x9 x10 x11 x12 x13 x14 p0 p1
          rw [HP.out]
          cases hC : covB xc xi yc yi
          · as_aux_lemma =>
            have HC := Lib.hid hC
            clear hC
            obtain ⟨p0, p1⟩ := HX38.out.cs
            obtain ⟨q0, q1⟩ := HY38.out.cs
            go_wp2_with fail
            refine (rcovers_run _ _ _ _ _ hxi1 hyi1).mono ?_
            rintro e V39 ⟨rfl, hb⟩
            have H39 := Lib.hid (H38.out.bl hb)
            have HX39 := Lib.hid (HX38.out.below hb)
            have HY39 := Lib.hid (HY38.out.below hb)
            clear hb H38 HX38 HY38 p0 p1 q0 q1
            rw [HC.out]
            go_wp2_with fail
            refine (sane24 _).mono ?_
            rintro e Z ⟨rfl, hb⟩
            have HE := Lib.hid (bstep H39.out.bel hb)
            clear hb
            go_wp2_with fail
            go_ret
            exact ⟨rfl, HE.out⟩
          · as_aux_lemma =>
            have HC := Lib.hid hC
            clear hC
            obtain ⟨p0, p1⟩ := HX38.out.cs
            obtain ⟨q0, q1⟩ := HY38.out.cs
            go_wp2_with fail
            refine (rcovers_run _ _ _ _ _ hxi1 hyi1).mono ?_
            rintro e V40 ⟨rfl, hb⟩
            have H40 := Lib.hid (H38.out.bl hb)
            have HX40 := Lib.hid (HX38.out.below hb)
            have HY40 := Lib.hid (HY38.out.below hb)
            clear hb H38 HX38 HY38 p0 p1 q0 q1
            rw [HC.out]
            as_aux_lemma =>
              have x0 : V40.cell? ⟨eb, 0, none⟩ = some (.int .i64 nd) := cell_of_row _ _ 0 _ _ (0, 0) H40.out.e
              have x1 : V40.cell? ⟨eb, 1, none⟩ = some (.int .i64 1) := cell_of_row _ _ 1 _ _ (0, 0) H40.out.e
              have x2 : V40.cell? ⟨eb, 2, none⟩ = some (.int .i64 sq) := cell_of_row _ _ 2 _ _ (0, 0) H40.out.e
              have x3 : V40.cell? ⟨eb, 3, none⟩ = some (.int .i64 t) := cell_of_row _ _ 3 _ _ (0, 0) H40.out.e
              have x4 : V40.cell? ⟨eb, 4, none⟩ = some (.slice A1 n1 k1) := cell_of_row _ _ 4 _ _ (0, 0) H40.out.e
              have x5 : V40.cell? ⟨eb, 5, none⟩ = some (.slice A2 n2 k2) := cell_of_row _ _ 5 _ _ (0, 0) H40.out.e
              have x6 : V40.cell? ⟨eb, 6, none⟩ = some (.int .i64 kd) := cell_of_row _ _ 6 _ _ (0, 0) H40.out.e
              have x7 : V40.cell? ⟨eb, 7, none⟩ = some (.int .i64 bc) := cell_of_row _ _ 7 _ _ (0, 0) H40.out.e
              have x8 : V40.cell? ⟨eb, 8, none⟩ = some (.string (valOf bi)) := cell_of_row _ _ 8 _ _ (0, 0) H40.out.e
              have x9 : V40.cell? ⟨eb, 9, none⟩ = some (.int .i64 pc) := cell_of_row _ _ 9 _ _ (0, 0) H40.out.e
              have x10 : V40.cell? ⟨eb, 10, none⟩ = some (.string (valOf pi)) := cell_of_row _ _ 10 _ _ (0, 0) H40.out.e
              have x11 : V40.cell? ⟨eb, 11, none⟩ = some (.int .i64 qc) := cell_of_row _ _ 11 _ _ (0, 0) H40.out.e
              have x12 : V40.cell? ⟨eb, 12, none⟩ = some (.string (valOf qi)) := cell_of_row _ _ 12 _ _ (0, 0) H40.out.e
              have x13 : V40.cell? ⟨eb, 13, none⟩ = some (.int .i64 lo) := cell_of_row _ _ 13 _ _ (0, 0) H40.out.e
              have x14 : V40.cell? ⟨eb, 14, none⟩ = some (.int .i64 hi) := cell_of_row _ _ 14 _ _ (0, 0) H40.out.e
              obtain ⟨q0, q1⟩ := HY40.out.cs
              go_wp2_with fail
              refine (votesPrep_run _ _ _ _ _ _ _ _ _ _ _ _ _ _ _ _ _ _ _ _ yi hyi1 _ H40.out.ge).mono ?_
              rintro e V41 ⟨rfl, hb⟩
              have H41 := Lib.hid (H40.out.bl hb)
              have HX41 := Lib.hid (HX40.out.below hb)
              have HY41 := Lib.hid (HY40.out.below hb)
              clear hb H40 HX40 HY40 x0 x1 x2 x3 x4 x5 x6 x7 x8 x9 x10 x11 x12 x13 x14 q0 q1
              rw [im_vp HP.out HC.out hyc0]
              go_wp2_with fail
              refine (sane24 _).mono ?_
              rintro e Z ⟨rfl, hb⟩
              have HE := Lib.hid (bstep H41.out.bel hb)
              clear hb
              go_wp2_with fail
              go_ret
              exact ⟨rfl, HE.out⟩
      · as_aux_lemma =>
        have HX := Lib.hid hX
        clear hX
        have x0 : wc.cell? ⟨eb, 0, none⟩ = some (.int .i64 nd) := cell_of_row _ _ 0 _ _ (0, 0) H11.out.e
        have x1 : wc.cell? ⟨eb, 1, none⟩ = some (.int .i64 1) := cell_of_row _ _ 1 _ _ (0, 0) H11.out.e
        have x2 : wc.cell? ⟨eb, 2, none⟩ = some (.int .i64 sq) := cell_of_row _ _ 2 _ _ (0, 0) H11.out.e
        have x3 : wc.cell? ⟨eb, 3, none⟩ = some (.int .i64 t) := cell_of_row _ _ 3 _ _ (0, 0) H11.out.e
        have x4 : wc.cell? ⟨eb, 4, none⟩ = some (.slice A1 n1 k1) := cell_of_row _ _ 4 _ _ (0, 0) H11.out.e
        have x5 : wc.cell? ⟨eb, 5, none⟩ = some (.slice A2 n2 k2) := cell_of_row _ _ 5 _ _ (0, 0) H11.out.e
        have x6 : wc.cell? ⟨eb, 6, none⟩ = some (.int .i64 kd) := cell_of_row _ _ 6 _ _ (0, 0) H11.out.e
        have x7 : wc.cell? ⟨eb, 7, none⟩ = some (.int .i64 bc) := cell_of_row _ _ 7 _ _ (0, 0) H11.out.e
        have x8 : wc.cell? ⟨eb, 8, none⟩ = some (.string (valOf bi)) := cell_of_row _ _ 8 _ _ (0, 0) H11.out.e
        have x9 : wc.cell? ⟨eb, 9, none⟩ = some (.int .i64 pc) := cell_of_row _ _ 9 _ _ (0, 0) H11.out.e
        have x10 : wc.cell? ⟨eb, 10, none⟩ = some (.string (valOf pi)) := cell_of_row _ _ 10 _ _ (0, 0) H11.out.e
        have x11 : wc.cell? ⟨eb, 11, none⟩ = some (.int .i64 qc) := cell_of_row _ _ 11 _ _ (0, 0) H11.out.e
        have x12 : wc.cell? ⟨eb, 12, none⟩ = some (.string (valOf qi)) := cell_of_row _ _ 12 _ _ (0, 0) H11.out.e
        have x13 : wc.cell? ⟨eb, 13, none⟩ = some (.int .i64 lo) := cell_of_row _ _ 13 _ _ (0, 0) H11.out.e
        have x14 : wc.cell? ⟨eb, 14, none⟩ = some (.int .i64 hi) := cell_of_row _ _ 14 _ _ (0, 0) H11.out.e
        obtain ⟨p0, p1⟩ := HX11.out.cs
        go_wp2_with fail
        refine (acceptsPrep_run _ _ _ _ _ _ _ _ _ _ _ _ _ _ _ _ _ _ _ _ xi hxi1 _ H11.out.ge).mono ?_
        rintro e V42 ⟨rfl, hb⟩
        have H42 := Lib.hid (H11.out.bl hb)
        have HX42 := Lib.hid (HX11.out.below hb)
        have HY42 := Lib.hid (HY11.out.below hb)
        clear hb H11 HX11 HY11 x0 x1 x2 x3 x4 x5 x6 x7 x8 x9 x10 x11 x12 x13 x14 p0 p1
        rw [HX.out]
        cases hC : covB xc xi yc yi
        · as_aux_lemma =>
          have HC := Lib.hid hC
          clear hC
          obtain ⟨p0, p1⟩ := HX42.out.cs
          obtain ⟨q0, q1⟩ := HY42.out.cs
          go_wp2_with fail
          refine (rcovers_run _ _ _ _ _ hxi1 hyi1).mono ?_
          rintro e V43 ⟨rfl, hb⟩
          have H43 := Lib.hid (H42.out.bl hb)
          have HX43 := Lib.hid (HX42.out.below hb)
          have HY43 := Lib.hid (HY42.out.below hb)
          clear hb H42 HX42 HY42 p0 p1 q0 q1
          rw [HC.out]
          cases hP : vpB kd bc bi xc xi
          · as_aux_lemma =>
            have HP := Lib.hid hP
            clear hP
            have x0 : V43.cell? ⟨eb, 0, none⟩ = some (.int .i64 nd) := cell_of_row _ _ 0 _ _ (0, 0) H43.out.e
            have x1 : V43.cell? ⟨eb, 1, none⟩ = some (.int .i64 1) := cell_of_row _ _ 1 _ _ (0, 0) H43.out.e
            have x2 : V43.cell? ⟨eb, 2, none⟩ = some (.int .i64 sq) := cell_of_row _ _ 2 _ _ (0, 0) H43.out.e
            have x3 : V43.cell? ⟨eb, 3, none⟩ = some (.int .i64 t) := cell_of_row _ _ 3 _ _ (0, 0) H43.out.e
            have x4 : V43.cell? ⟨eb, 4, none⟩ = some (.slice A1 n1 k1) := cell_of_row _ _ 4 _ _ (0, 0) H43.out.e
            have x5 : V43.cell? ⟨eb, 5, none⟩ = some (.slice A2 n2 k2) := cell_of_row _ _ 5 _ _ (0, 0) H43.out.e
            have x6 : V43.cell? ⟨eb, 6, none⟩ = some (.int .i64 kd) := cell_of_row _ _ 6 _ _ (0, 0) H43.out.e
            have x7 : V43.cell? ⟨eb, 7, none⟩ = some (.int .i64 bc) := cell_of_row _ _ 7 _ _ (0, 0) H43.out.e
            have x8 : V43.cell? ⟨eb, 8, none⟩ = some (.string (valOf bi)) := cell_of_row _ _ 8 _ _ (0, 0) H43.out.e
            have x9 : V43.cell? ⟨eb, 9, none⟩ = some (.int .i64 pc) := cell_of_row _ _ 9 _ _ (0, 0) H43.out.e
            have x10 : V43.cell? ⟨eb, 10, none⟩ = some (.string (valOf pi)) := cell_of_row _ _ 10 _ _ (0, 0) H43.out.e
            have x11 : V43.cell? ⟨eb, 11, none⟩ = some (.int .i64 qc) := cell_of_row _ _ 11 _ _ (0, 0) H43.out.e
            have x12 : V43.cell? ⟨eb, 12, none⟩ = some (.string (valOf qi)) := cell_of_row _ _ 12 _ _ (0, 0) H43.out.e
            have x13 : V43.cell? ⟨eb, 13, none⟩ = some (.int .i64 lo) := cell_of_row _ _ 13 _ _ (0, 0) H43.out.e
            have x14 : V43.cell? ⟨eb, 14, none⟩ = some (.int .i64 hi) := cell_of_row _ _ 14 _ _ (0, 0) H43.out.e
            obtain ⟨p0, p1⟩ := HX43.out.cs
            go_wp2_with fail
            refine (votesPrep_run _ _ _ _ _ _ _ _ _ _ _ _ _ _ _ _ _ _ _ _ xi hxi1 _ H43.out.ge).mono ?_
            rintro e V44 ⟨rfl, hb⟩
            have H44 := Lib.hid (H43.out.bl hb)
            have HX44 := Lib.hid (HX43.out.below hb)
            have HY44 := Lib.hid (HY43.out.below hb)
            clear hb H43 HX43 HY43 x0 x1 x2 x3 x4 x5 x6 x7 x8 x9 x10 x11 x12 x13 x14 p0 p1
            rw [HP.out]
            go_wp2_with fail
            refine (sane24 _).mono ?_
            rintro e Z ⟨rfl, hb⟩
            have HE := Lib.hid (bstep H44.out.bel hb)
            clear hb
            go_wp2_with fail
            go_ret
            exact ⟨rfl, HE.out⟩
          · as_aux_lemma =>
            have HP := Lib.hid hP
            clear hP
            have x0 : V43.cell? ⟨eb, 0, none⟩ = some (.int .i64 nd) := cell_of_row _ _ 0 _ _ (0, 0) H43.out.e
            have x1 : V43.cell? ⟨eb, 1, none⟩ = some (.int .i64 1) := cell_of_row _ _ 1 _ _ (0, 0) H43.out.e
            have x2 : V43.cell? ⟨eb, 2, none⟩ = some (.int .i64 sq) := cell_of_row _ _ 2 _ _ (0, 0) H43.out.e
            have x3 : V43.cell? ⟨eb, 3, none⟩ = some (.int .i64 t) := cell_of_row _ _ 3 _ _ (0, 0) H43.out.e
            have x4 : V43.cell? ⟨eb, 4, none⟩ = some (.slice A1 n1 k1) := cell_of_row _ _ 4 _ _ (0, 0) H43.out.e
            have x5 : V43.cell? ⟨eb, 5, none⟩ = some (.slice A2 n2 k2) := cell_of_row _ _ 5 _ _ (0, 0) H43.out.e
            have x6 : V43.cell? ⟨eb, 6, none⟩ = some (.int .i64 kd) := cell_of_row _ _ 6 _ _ (0, 0) H43.out.e
            have x7 : V43.cell? ⟨eb, 7, none⟩ = some (.int .i64 bc) := cell_of_row _ _ 7 _ _ (0, 0) H43.out.e
            have x8 : V43.cell? ⟨eb, 8, none⟩ = some (.string (valOf bi)) := cell_of_row _ _ 8 _ _ (0, 0) H43.out.e
            have x9 : V43.cell? ⟨eb, 9, none⟩ = some (.int .i64 pc) := cell_of_row _ _ 9 _ _ (0, 0) H43.out.e
            have x10 : V43.cell? ⟨eb, 10, none⟩ = some (.string (valOf pi)) := cell_of_row _ _ 10 _ _ (0, 0) H43.out.e
            have x11 : V43.cell? ⟨eb, 11, none⟩ = some (.int .i64 qc) := cell_of_row _ _ 11 _ _ (0, 0) H43.out.e
            have x12 : V43.cell? ⟨eb, 12, none⟩ = some (.string (valOf qi)) := cell_of_row _ _ 12 _ _ (0, 0) H43.out.e
            have x13 : V43.cell? ⟨eb, 13, none⟩ = some (.int .i64 lo) := cell_of_row _ _ 13 _ _ (0, 0) H43.out.e
            have x14 : V43.cell? ⟨eb, 14, none⟩ = some (.int .i64 hi) := cell_of_row _ _ 14 _ _ (0, 0) H43.out.e
            obtain ⟨p0, p1⟩ := HX43.out.cs
            go_wp2_with fail
            refine (votesPrep_run _ _ _ _ _ _ _ _ _ _ _ _ _ _ _ _ _ _ _ _ xi hxi1 _ H43.out.ge).mono ?_
            rintro e V45 ⟨rfl, hb⟩
            have H45 := Lib.hid (H43.out.bl hb)
            have HX45 := Lib.hid (HX43.out.below hb)
            have HY45 := Lib.hid (HY43.out.below hb)
            clear hb H43 HX43 HY43 x0 x1 x2 x3 x4 x5 x6 x7 x8 x9 x10 x11 x12 x13 x14 p0 p1
            rw [HP.out]
            obtain ⟨p0, p1⟩ := HX45.out.cs
            obtain ⟨q0, q1⟩ := HY45.out.cs
            go_wp2_with fail
            refine (rcovers_run _ _ _ _ _ hxi1 hyi1).mono ?_
            rintro e V46 ⟨rfl, hb⟩
            have H46 := Lib.hid (H45.out.bl hb)
            have HX46 := Lib.hid (HX45.out.below hb)
            have HY46 := Lib.hid (HY45.out.below hb)
            clear hb H45 HX45 HY45 p0 p1 q0 q1
            rw [HC.out]
            go_wp2_with fail
            refine (sane24 _).mono ?_
            rintro e Z ⟨rfl, hb⟩
            have HE := Lib.hid (bstep H46.out.bel hb)
            clear hb
            go_wp2_with fail
            go_ret
            exact ⟨rfl, HE.out⟩
        · as_aux_lemma =>
          have HC := Lib.hid hC
          clear hC
          obtain ⟨p0, p1⟩ := HX42.out.cs
          obtain ⟨q0, q1⟩ := HY42.out.cs
          go_wp2_with fail
          refine (rcovers_run _ _ _ _ _ hxi1 hyi1).mono ?_
          rintro e V47 ⟨rfl, hb⟩
          have H47 := Lib.hid (H42.out.bl hb)
          have HX47 := Lib.hid (HX42.out.below hb)
          have HY47 := Lib.hid (HY42.out.below hb)
          clear hb H42 HX42 HY42 p0 p1 q0 q1
          rw [HC.out]
          have x0 : V47.cell? ⟨eb, 0, none⟩ = some (.int .i64 nd) := cell_of_row _ _ 0 _ _ (0, 0) H47.out.e
          have x1 : V47.cell? ⟨eb, 1, none⟩ = some (.int .i64 1) := cell_of_row _ _ 1 _ _ (0, 0) H47.out.e
          have x2 : V47.cell? ⟨eb, 2, none⟩ = some (.int .i64 sq) := cell_of_row _ _ 2 _ _ (0, 0) H47.out.e
          have x3 : V47.cell? ⟨eb, 3, none⟩ = some (.int .i64 t) := cell_of_row _ _ 3 _ _ (0, 0) H47.out.e
          have x4 : V47.cell? ⟨eb, 4, none⟩ = some (.slice A1 n1 k1) := cell_of_row _ _ 4 _ _ (0, 0) H47.out.e
          have x5 : V47.cell? ⟨eb, 5, none⟩ = some (.slice A2 n2 k2) := cell_of_row _ _ 5 _ _ (0, 0) H47.out.e
          have x6 : V47.cell? ⟨eb, 6, none⟩ = some (.int .i64 kd) := cell_of_row _ _ 6 _ _ (0, 0) H47.out.e
          have x7 : V47.cell? ⟨eb, 7, none⟩ = some (.int .i64 bc) := cell_of_row _ _ 7 _ _ (0, 0) H47.out.e
          have x8 : V47.cell? ⟨eb, 8, none⟩ = some (.string (valOf bi)) := cell_of_row _ _ 8 _ _ (0, 0) H47.out.e
          have x9 : V47.cell? ⟨eb, 9, none⟩ = some (.int .i64 pc) := cell_of_row _ _ 9 _ _ (0, 0) H47.out.e
          have x10 : V47.cell? ⟨eb, 10, none⟩ = some (.string (valOf pi)) := cell_of_row _ _ 10 _ _ (0, 0) H47.out.e
          have x11 : V47.cell? ⟨eb, 11, none⟩ = some (.int .i64 qc) := cell_of_row _ _ 11 _ _ (0, 0) H47.out.e
          have x12 : V47.cell? ⟨eb, 12, none⟩ = some (.string (valOf qi)) := cell_of_row _ _ 12 _ _ (0, 0) H47.out.e
          have x13 : V47.cell? ⟨eb, 13, none⟩ = some (.int .i64 lo) := cell_of_row _ _ 13 _ _ (0, 0) H47.out.e
          have x14 : V47.cell? ⟨eb, 14, none⟩ = some (.int .i64 hi) := cell_of_row _ _ 14 _ _ (0, 0) H47.out.e
          obtain ⟨q0, q1⟩ := HY47.out.cs
          go_wp2_with fail
          refine (acceptsPrep_run _ _ _ _ _ _ _ _ _ _ _ _ _ _ _ _ _ _ _ _ yi hyi1 _ H47.out.ge).mono ?_
          rintro e V48 ⟨rfl, hb⟩
          have H48 := Lib.hid (H47.out.bl hb)
          have HX48 := Lib.hid (HX47.out.below hb)
          have HY48 := Lib.hid (HY47.out.below hb)
          clear hb H47 HX47 HY47 x0 x1 x2 x3 x4 x5 x6 x7 x8 x9 x10 x11 x12 x13 x14 q0 q1
          rw [im_ap HX.out HC.out hyc0]
          cases hP : vpB kd bc bi xc xi
          · as_aux_lemma =>
            have HP := Lib.hid hP
            clear hP
            have x0 : V48.cell? ⟨eb, 0, none⟩ = some (.int .i64 nd) := cell_of_row _ _ 0 _ _ (0, 0) H48.out.e
            have x1 : V48.cell? ⟨eb, 1, none⟩ = some (.int .i64 1) := cell_of_row _ _ 1 _ _ (0, 0) H48.out.e
            have x2 : V48.cell? ⟨eb, 2, none⟩ = some (.int .i64 sq) := cell_of_row _ _ 2 _ _ (0, 0) H48.out.e
            have x3 : V48.cell? ⟨eb, 3, none⟩ = some (.int .i64 t) := cell_of_row _ _ 3 _ _ (0, 0) H48.out.e
            have x4 : V48.cell? ⟨eb, 4, none⟩ = some (.slice A1 n1 k1) := cell_of_row _ _ 4 _ _ (0, 0) H48.out.e
            have x5 : V48.cell? ⟨eb, 5, none⟩ = some (.slice A2 n2 k2) := cell_of_row _ _ 5 _ _ (0, 0) H48.out.e
            have x6 : V48.cell? ⟨eb, 6, none⟩ = some (.int .i64 kd) := cell_of_row _ _ 6 _ _ (0, 0) H48.out.e
            have x7 : V48.cell? ⟨eb, 7, none⟩ = some (.int .i64 bc) := cell_of_row _ _ 7 _ _ (0, 0) H48.out.e
            have x8 : V48.cell? ⟨eb, 8, none⟩ = some (.string (valOf bi)) := cell_of_row _ _ 8 _ _ (0, 0) H48.out.e
            have x9 : V48.cell? ⟨eb, 9, none⟩ = some (.int .i64 pc) := cell_of_row _ _ 9 _ _ (0, 0) H48.out.e
            have x10 : V48.cell? ⟨eb, 10, none⟩ = some (.string (valOf pi)) := cell_of_row _ _ 10 _ _ (0, 0) H48.out.e
            have x11 : V48.cell? ⟨eb, 11, none⟩ = some (.int .i64 qc) := cell_of_row _ _ 11 _ _ (0, 0) H48.out.e
            have x12 : V48.cell? ⟨eb, 12, none⟩ = some (.string (valOf qi)) := cell_of_row _ _ 12 _ _ (0, 0) H48.out.e
            have x13 : V48.cell? ⟨eb, 13, none⟩ = some (.int .i64 lo) := cell_of_row _ _ 13 _ _ (0, 0) H48.out.e
            have x14 : V48.cell? ⟨eb, 14, none⟩ = some (.int .i64 hi) := cell_of_row _ _ 14 _ _ (0, 0) H48.out.e
            obtain ⟨p0, p1⟩ := HX48.out.cs
            go_wp2_with fail
            refine (votesPrep_run _ _ _ _ _ _ _ _ _ _ _ _ _ _ _ _ _ _ _ _ xi hxi1 _ H48.out.ge).mono ?_
            rintro e V49 ⟨rfl, hb⟩
            have H49 := Lib.hid (H48.out.bl hb)
            have HX49 := Lib.hid (HX48.out.below hb)
            have HY49 := Lib.hid (HY48.out.below hb)
            clear hb H48 HX48 HY48 x0 x1 x2 x3 x4 x5 x6 x7 x8 x9 x10 x11 x12 x13 x14 p0 p1
            rw [HP.out]
            go_wp2_with fail
            refine (sane24 _).mono ?_
            rintro e Z ⟨rfl, hb⟩
            have HE := Lib.hid (bstep H49.out.bel hb)
            clear hb
            go_wp2_with fail
            go_ret
            exact ⟨rfl, HE.out⟩
          · as_aux_lemma =>
            have HP := Lib.hid hP
            clear hP
            have x0 : V48.cell? ⟨eb, 0, none⟩ = some (.int .i64 nd) := cell_of_row _ _ 0 _ _ (0, 0) H48.out.e
            have x1 : V48.cell? ⟨eb, 1, none⟩ = some (.int .i64 1) := cell_of_row _ _ 1 _ _ (0, 0) H48.out.e
            have x2 : V48.cell? ⟨eb, 2, none⟩ = some (.int .i64 sq) := cell_of_row _ _ 2 _ _ (0, 0) H48.out.e
            have x3 : V48.cell? ⟨eb, 3, none⟩ = some (.int .i64 t) := cell_of_row _ _ 3 _ _ (0, 0) H48.out.e
            have x4 : V48.cell? ⟨eb, 4, none⟩ = some (.slice A1 n1 k1) := cell_of_row _ _ 4 _ _ (0, 0) H48.out.e
            have x5 : V48.cell? ⟨eb, 5, none⟩ = some (.slice A2 n2 k2) := cell_of_row _ _ 5 _ _ (0, 0) H48.out.e
            have x6 : V48.cell? ⟨eb, 6, none⟩ = some (.int .i64 kd) := cell_of_row _ _ 6 _ _ (0, 0) H48.out.e
            have x7 : V48.cell? ⟨eb, 7, none⟩ = some (.int .i64 bc) := cell_of_row _ _ 7 _ _ (0, 0) H48.out.e
            have x8 : V48.cell? ⟨eb, 8, none⟩ = some (.string (valOf bi)) := cell_of_row _ _ 8 _ _ (0, 0) H48.out.e
            have x9 : V48.cell? ⟨eb, 9, none⟩ = some (.int .i64 pc) := cell_of_row _ _ 9 _ _ (0, 0) H48.out.e
            have x10 : V48.cell? ⟨eb, 10, none⟩ = some (.string (valOf pi)) := cell_of_row _ _ 10 _ _ (0, 0) H48.out.e
            have x11 : V48.cell? ⟨eb, 11, none⟩ = some (.int .i64 qc) := cell_of_row _ _ 11 _ _ (0, 0) H48.out.e
            have x12 : V48.cell? ⟨eb, 12, none⟩ = some (.string (valOf qi)) := cell_of_row _ _ 12 _ _ (0, 0) H48.out.e
            have x13 : V48.cell? ⟨eb, 13, none⟩ = some (.int .i64 lo) := cell_of_row _ _ 13 _ _ (0, 0) H48.out.e
            have x14 : V48.cell? ⟨eb, 14, none⟩ = some (.int .i64 hi) := cell_of_row _ _ 14 _ _ (0, 0) H48.out.e
            obtain ⟨p0, p1⟩ := HX48.out.cs
            go_wp2_with fail
            refine (votesPrep_run _ _ _ _ _ _ _ _ _ _ _ _ _ _ _ _ _ _ _ _ xi hxi1 _ H48.out.ge).mono ?_
            rintro e V50 ⟨rfl, hb⟩
            have H50 := Lib.hid (H48.out.bl hb)
            have HX50 := Lib.hid (HX48.out.below hb)
            have HY50 := Lib.hid (HY48.out.below hb)
            clear hb H48 HX48 HY48 x0 x1 x2 x3 x4 x5 x6 x7 x8 x9 x10 x11 x12 x13 x14 p0 p1
            rw [HP.out]
            obtain ⟨p0, p1⟩ := HX50.out.cs
            obtain ⟨q0, q1⟩ := HY50.out.cs
            go_wp2_with fail
            refine (rcovers_run _ _ _ _ _ hxi1 hyi1).mono ?_
            rintro e V51 ⟨rfl, hb⟩
            have H51 := Lib.hid (H50.out.bl hb)
            have HX51 := Lib.hid (HX50.out.below hb)
            have HY51 := Lib.hid (HY50.out.below hb)
            clear hb H50 HX50 HY50 p0 p1 q0 q1
            rw [HC.out]
            as_aux_lemma =>
              have x0 : V51.cell? ⟨eb, 0, none⟩ = some (.int .i64 nd) := cell_of_row _ _ 0 _ _ (0, 0) H51.out.e
              have x1 : V51.cell? ⟨eb, 1, none⟩ = some (.int .i64 1) := cell_of_row _ _ 1 _ _ (0, 0) H51.out.e
              have x2 : V51.cell? ⟨eb, 2, none⟩ = some (.int .i64 sq) := cell_of_row _ _ 2 _ _ (0, 0) H51.out.e
              have x3 : V51.cell? ⟨eb, 3, none⟩ = some (.int .i64 t) := cell_of_row _ _ 3 _ _ (0, 0) H51.out.e
              have x4 : V51.cell? ⟨eb, 4, none⟩ = some (.slice A1 n1 k1) := cell_of_row _ _ 4 _ _ (0, 0) H51.out.e
              have x5 : V51.cell? ⟨eb, 5, none⟩ = some (.slice A2 n2 k2) := cell_of_row _ _ 5 _ _ (0, 0) H51.out.e
              have x6 : V51.cell? ⟨eb, 6, none⟩ = some (.int .i64 kd) := cell_of_row _ _ 6 _ _ (0, 0) H51.out.e
              have x7 : V51.cell? ⟨eb, 7, none⟩ = some (.int .i64 bc) := cell_of_row _ _ 7 _ _ (0, 0) H51.out.e
              have x8 : V51.cell? ⟨eb, 8, none⟩ = some (.string (valOf bi)) := cell_of_row _ _ 8 _ _ (0, 0) H51.out.e
              have x9 : V51.cell? ⟨eb, 9, none⟩ = some (.int .i64 pc) := cell_of_row _ _ 9 _ _ (0, 0) H51.out.e
              have x10 : V51.cell? ⟨eb, 10, none⟩ = some (.string (valOf pi)) := cell_of_row _ _ 10 _ _ (0, 0) H51.out.e
              have x11 : V51.cell? ⟨eb, 11, none⟩ = some (.int .i64 qc) := cell_of_row _ _ 11 _ _ (0, 0) H51.out.e
              have x12 : V51.cell? ⟨eb, 12, none⟩ = some (.string (valOf qi)) := cell_of_row _ _ 12 _ _ (0, 0) H51.out.e
              have x13 : V51.cell? ⟨eb, 13, none⟩ = some (.int .i64 lo) := cell_of_row _ _ 13 _ _ (0, 0) H51.out.e
              have x14 : V51.cell? ⟨eb, 14, none⟩ = some (.int .i64 hi) := cell_of_row _ _ 14 _ _ (0, 0) H51.out.e
              obtain ⟨q0, q1⟩ := HY51.out.cs
              go_wp2_with fail
              refine (votesPrep_run _ _ _ _ _ _ _ _ _ _ _ _ _ _ _ _ _ _ _ _ yi hyi1 _ H51.out.ge).mono ?_
              rintro e V52 ⟨rfl, hb⟩
              have H52 := Lib.hid (H51.out.bl hb)
              have HX52 := Lib.hid (HX51.out.below hb)
              have HY52 := Lib.hid (HY51.out.below hb)
              clear hb H51 HX51 HY51 x0 x1 x2 x3 x4 x5 x6 x7 x8 x9 x10 x11 x12 x13 x14 q0 q1
              rw [im_vp HP.out HC.out hyc0]
              go_wp2_with fail
              refine (sane24 _).mono ?_
              rintro e Z ⟨rfl, hb⟩
              have HE := Lib.hid (bstep H52.out.bel hb)
              clear hb
              go_wp2_with fail
              go_ret
              exact ⟨rfl, HE.out⟩
end Go.Proofs.Ytmgiojdipheokaa
