/- The walk of EnvelopesForever: an external envelope accepts every later commit, and every preparation, of its value. -/
import Derived.Test.YtmgiojdipheokaaSane24
namespace Go.Proofs.Ytmgiojdipheokaa
set_option linter.unusedVariables false
set_option linter.unusedSimpArgs false
open Go.RowKit

theorem ok_ever {bc lo r : Int} {bi : Nat} (l0 : 1 ≤ lo) (l1 : lo ≤ 5) (r0 : 0 ≤ r) (r1 : r < 3) : okE 3 bc bi 0 0 0 0 lo (lo + r) = true := by
  have h2 : zeroB 0 0 = true := rfl
  unfold okE rngB
  simp [h2]
  omega
theorem vb_five {c : Int} {i : Nat} (h0 : 1 ≤ c) (h1 : c ≤ 7) (hi : 1 ≤ i) : validB c i = true := by unfold validB; simp; omega
theorem ever_math {lw hi a b : Int} {v u : Nat} (l0 : 1 ≤ lw) (ha : lw ≤ a) (hb : a ≤ b) :
    acB 3 v lw hi v a b = true ∧ apB 3 v 0 0 0 0 b v = true ∧ (u ≠ v → vcB 3 v lw hi u a b = false) ∧ (u ≠ v → vpB 3 lw v a u = false) ∧ acB 3 v lw hi v (lw - 1) b = false ∧ ctB 3 lw = 1000000 := by
  have z : ∀ x : Int, ∀ y : Nat, 1 ≤ x → zeroB x y = false := fun x y h => by unfold zeroB; simp; omega
  refine ⟨?_, ?_, fun h => ?_, fun h => ?_, ?_, rfl⟩
  · unfold acB spB; simp; omega
  · unfold apB; simp [z b v (by omega)]
  · unfold vcB spB; simp [Ne.symm h]
  · unfold vpB; simp [z a u (by omega), Ne.symm h]
  · unfold acB spB; simp; omega

set_option maxRecDepth 100000 in
set_option maxHeartbeats 8000000 in
theorem walkEnvelopesForever (a0 : Option Addr) (len0 cap0 : Nat) (z0 : List Int) (a1 : Int) (a2 : Int) (w : World) (w0 : IsRow .i64 w a0 len0 cap0 z0) (w1 : (Lit.int .u8 a1).wf = true) (w2 : (Lit.int .u8 a2).wf = true) :
    Calls Try.prog 4 #[.slice a0 len0 cap0, .int .u8 a1, .int .u8 a2] w fun e w' => e = .returned (.bool true) ∧ Below w.heap.size w w' := by
  obtain ⟨y0, y1⟩ := bounds_u8 w1
  obtain ⟨y2, y3⟩ := bounds_u8 w2
  have HR := Lib.hid w0
  clear w0 w1 w2
  go_enter Try.func4, Try.ntmps4
  go_wp2_with fail
  refine (New_run _ _ _ _ _ HR.out).mono ?_
  rintro e u0 ⟨rfl, hs0, hb0⟩
  have HS0 := Lib.hid hs0
  have HB0 := Lib.hid hb0
  have hlz := hs0.lt
  clear hs0 hb0
  go_wp2_with fail
  refine (Value_run _ _ HS0.out).mono ?_
  rintro e u1 ⟨v, hv0, hv1, rfl, hs1, hg1⟩
  have HS1 := Lib.hid hs1
  have HB1 := Lib.hid (bgrown HB0.out hg1 (Nat.le_refl _))
  have hlz1 := hg1.size
  clear hs1 hg1 HS0 HB0
  go_wp2_with fail
  refine (Range_run _ _ _ _ (by omega) (by omega) (by omega) HS1.out).mono ?_
  rintro e u2 ⟨lw, hl0, hl1, rfl, hs1, hg1⟩
  have HS2 := Lib.hid hs1
  have HB2 := Lib.hid (bgrown HB1.out hg1 (Nat.le_refl _))
  have hlz2 := hg1.size
  clear hs1 hg1 HS1 HB1
  go_wp2_with fail
  refine (N_run _ _ _ (by omega) (by omega) HS2.out).mono ?_
  rintro e u3 ⟨nd, hnd0, hnd1, rfl, hs1, hg1⟩
  have HS3 := Lib.hid hs1
  have HB3 := Lib.hid (bgrown HB2.out hg1 (Nat.le_refl _))
  have hlz3 := hg1.size
  clear hs1 hg1 HS2 HB2
  have hst := strust_run 5 (by omega) (by omega) u3 w.heap.size HS3.out
  have HST := Lib.hid hst
  clear hst
  go_wp2_with fail
  refine HST.out.mono ?_
  rintro e u4 ⟨t, A1, A2, n1, k1, n2, k2, T, rfl, hT, hF, hs1, hg1⟩
  have HF := Lib.hid hF
  have HT4 := Lib.hid hT
  have HS4 := Lib.hid hs1
  have HB4 := Lib.hid (bgrown HB3.out hg1 (Nat.le_refl _))
  have hlz4 := hg1.size
  clear hs1 hg1 HS3 HB3 HST hT hF
  go_wp2_with fail
  refine (N_run _ _ _ (by omega) (by omega) HS4.out).mono ?_
  rintro e u5 ⟨r, hr0, hr1, rfl, hs1, hg1⟩
  have hba := balloc (bref u5) (.cells #[.int .i64 nd, .int .i64 1, .int .i64 1, .int .i64 t, .slice A1 n1 k1, .slice A2 n2 k2, .int .i64 3, .int .i64 lw, .string (valOf v), .int .i64 0, .string ⟨#[]⟩, .int .i64 0, .string ⟨#[]⟩, .int .i64 lw, .int .i64 (lw + r)] 44)
  have hlz5 := hg1.size
  have hw : w.heap.size < u3.heap.size := by omega
  have H5 := Lib.hid (show LE w u5.heap.size (fun b => u3.heap.size ≤ b) T nd 1 1 t 3 lw 0 0 lw (lw + r) v 0 0 n1 k1 n2 k2 A1 A2 (u5.alloc (.cells #[.int .i64 nd, .int .i64 1, .int .i64 1, .int .i64 t, .slice A1 n1 k1, .slice A2 n2 k2, .int .i64 3, .int .i64 lw, .string (valOf v), .int .i64 0, .string ⟨#[]⟩, .int .i64 0, .string ⟨#[]⟩, .int .i64 lw, .int .i64 (lw + r)] 44)) from
    ⟨heap_alloc_new _ _, ⟨hnd0, by omega, by omega, by omega, by omega, by omega, .inr (.inr ⟨rfl, rfl, rfl⟩), hv1, by omega, by omega, vb_five (by omega) (by omega) hv0, (HT4.out.keep (fun k hk hP => hg1.block k hk (by have : u3.heap.size ≤ k := hP; simp; omega))).below hba, HF.out, ok_ever hl0 hl1 hr0 hr1⟩, hs1.alloc _, bstep (bgrown HB4.out hg1 (Nat.le_refl _)) hba, by omega, fun b hb => by have : u3.heap.size ≤ b := hb; omega⟩)
  clear hs1 hg1 HS4 HB4 HT4 hba HF hlz hlz1 hlz2 hlz3 hlz4 hlz5 hw
  go_upto_region 7 with fail
  generalize u5.alloc (.cells #[.int .i64 nd, .int .i64 1, .int .i64 1, .int .i64 t, .slice A1 n1 k1, .slice A2 n2 k2, .int .i64 3, .int .i64 lw, .string (valOf v), .int .i64 0, .string ⟨#[]⟩, .int .i64 0, .string ⟨#[]⟩, .int .i64 lw, .int .i64 (lw + r)] 44) = V5 at *
  generalize u5.heap.size = eb at *
  generalize u3.heap.size = pb at *
  go_wp2_with fail
  refine (Value_run _ _ H5.out.src).mono ?_
  rintro e V6 ⟨u, hu0, hu1, rfl, hs1, hg1⟩
  have H6 := Lib.hid (H5.out.grown hs1 hg1)
  clear hs1 hg1 H5
  obtain ⟨m1, m2, m3, m4, m5, m6⟩ := ever_math (lw := lw) (hi := lw + r) (a := lw + a1) (b := lw + a1 + a2) (v := v) (u := u) hl0 (by omega) (by omega)
  have M1 := Lib.hid m1
  have M2 := Lib.hid m2
  have M3 := Lib.hid m3
  have M4 := Lib.hid m4
  have M5 := Lib.hid m5
  have M6 := Lib.hid m6
  clear m1 m2 m3 m4 m5 m6
  have hvv := valOf_eqL (i := u) (j := v) (by omega) (by omega)
  have HVV := Lib.hid hvv
  clear hvv
  as_aux_lemma =>
    have x0 : V6.cell? ⟨eb, 0, none⟩ = some (.int .i64 nd) := cell_of_row _ _ 0 _ _ (0, 0) H6.out.e
    have x1 : V6.cell? ⟨eb, 1, none⟩ = some (.int .i64 1) := cell_of_row _ _ 1 _ _ (0, 0) H6.out.e
    have x2 : V6.cell? ⟨eb, 2, none⟩ = some (.int .i64 1) := cell_of_row _ _ 2 _ _ (0, 0) H6.out.e
    have x3 : V6.cell? ⟨eb, 3, none⟩ = some (.int .i64 t) := cell_of_row _ _ 3 _ _ (0, 0) H6.out.e
    have x4 : V6.cell? ⟨eb, 4, none⟩ = some (.slice A1 n1 k1) := cell_of_row _ _ 4 _ _ (0, 0) H6.out.e
    have x5 : V6.cell? ⟨eb, 5, none⟩ = some (.slice A2 n2 k2) := cell_of_row _ _ 5 _ _ (0, 0) H6.out.e
    have x6 : V6.cell? ⟨eb, 6, none⟩ = some (.int .i64 3) := cell_of_row _ _ 6 _ _ (0, 0) H6.out.e
    have x7 : V6.cell? ⟨eb, 7, none⟩ = some (.int .i64 lw) := cell_of_row _ _ 7 _ _ (0, 0) H6.out.e
    have x8 : V6.cell? ⟨eb, 8, none⟩ = some (.string (valOf v)) := cell_of_row _ _ 8 _ _ (0, 0) H6.out.e
    have x9 : V6.cell? ⟨eb, 9, none⟩ = some (.int .i64 0) := cell_of_row _ _ 9 _ _ (0, 0) H6.out.e
    have x10 : V6.cell? ⟨eb, 10, none⟩ = some (.string (valOf 0)) := cell_of_row _ _ 10 _ _ (0, 0) H6.out.e
    have x11 : V6.cell? ⟨eb, 11, none⟩ = some (.int .i64 0) := cell_of_row _ _ 11 _ _ (0, 0) H6.out.e
    have x12 : V6.cell? ⟨eb, 12, none⟩ = some (.string (valOf 0)) := cell_of_row _ _ 12 _ _ (0, 0) H6.out.e
    have x13 : V6.cell? ⟨eb, 13, none⟩ = some (.int .i64 lw) := cell_of_row _ _ 13 _ _ (0, 0) H6.out.e
    have x14 : V6.cell? ⟨eb, 14, none⟩ = some (.int .i64 (lw + r)) := cell_of_row _ _ 14 _ _ (0, 0) H6.out.e
    go_wp2_with fail
    refine (pvalidE_run _ _ _ _ _ _ _ _ _ _ _ _ _ _ _ _ _ _ _ _ H6.out.ge).mono ?_
    rintro e V7 ⟨rfl, hb⟩
    have H7 := Lib.hid (H6.out.bl hb)
    clear hb H6 x0 x1 x2 x3 x4 x5 x6 x7 x8 x9 x10 x11 x12 x13 x14
    as_aux_lemma =>
      have x0 : V7.cell? ⟨eb, 0, none⟩ = some (.int .i64 nd) := cell_of_row _ _ 0 _ _ (0, 0) H7.out.e
      have x1 : V7.cell? ⟨eb, 1, none⟩ = some (.int .i64 1) := cell_of_row _ _ 1 _ _ (0, 0) H7.out.e
      have x2 : V7.cell? ⟨eb, 2, none⟩ = some (.int .i64 1) := cell_of_row _ _ 2 _ _ (0, 0) H7.out.e
      have x3 : V7.cell? ⟨eb, 3, none⟩ = some (.int .i64 t) := cell_of_row _ _ 3 _ _ (0, 0) H7.out.e
      have x4 : V7.cell? ⟨eb, 4, none⟩ = some (.slice A1 n1 k1) := cell_of_row _ _ 4 _ _ (0, 0) H7.out.e
      have x5 : V7.cell? ⟨eb, 5, none⟩ = some (.slice A2 n2 k2) := cell_of_row _ _ 5 _ _ (0, 0) H7.out.e
      have x6 : V7.cell? ⟨eb, 6, none⟩ = some (.int .i64 3) := cell_of_row _ _ 6 _ _ (0, 0) H7.out.e
      have x7 : V7.cell? ⟨eb, 7, none⟩ = some (.int .i64 lw) := cell_of_row _ _ 7 _ _ (0, 0) H7.out.e
      have x8 : V7.cell? ⟨eb, 8, none⟩ = some (.string (valOf v)) := cell_of_row _ _ 8 _ _ (0, 0) H7.out.e
      have x9 : V7.cell? ⟨eb, 9, none⟩ = some (.int .i64 0) := cell_of_row _ _ 9 _ _ (0, 0) H7.out.e
      have x10 : V7.cell? ⟨eb, 10, none⟩ = some (.string (valOf 0)) := cell_of_row _ _ 10 _ _ (0, 0) H7.out.e
      have x11 : V7.cell? ⟨eb, 11, none⟩ = some (.int .i64 0) := cell_of_row _ _ 11 _ _ (0, 0) H7.out.e
      have x12 : V7.cell? ⟨eb, 12, none⟩ = some (.string (valOf 0)) := cell_of_row _ _ 12 _ _ (0, 0) H7.out.e
      have x13 : V7.cell? ⟨eb, 13, none⟩ = some (.int .i64 lw) := cell_of_row _ _ 13 _ _ (0, 0) H7.out.e
      have x14 : V7.cell? ⟨eb, 14, none⟩ = some (.int .i64 (lw + r)) := cell_of_row _ _ 14 _ _ (0, 0) H7.out.e
      go_wp2_with fail
      refine (acceptsCom_run _ _ _ _ _ _ _ _ _ _ _ _ _ _ _ _ _ _ _ v _ _ hv1 _ H7.out.ge).mono ?_
      rintro e V8 ⟨rfl, hb⟩
      have H8 := Lib.hid (H7.out.bl hb)
      clear hb H7 x0 x1 x2 x3 x4 x5 x6 x7 x8 x9 x10 x11 x12 x13 x14
      rw [M1.out]
      as_aux_lemma =>
        have x0 : V8.cell? ⟨eb, 0, none⟩ = some (.int .i64 nd) := cell_of_row _ _ 0 _ _ (0, 0) H8.out.e
        have x1 : V8.cell? ⟨eb, 1, none⟩ = some (.int .i64 1) := cell_of_row _ _ 1 _ _ (0, 0) H8.out.e
        have x2 : V8.cell? ⟨eb, 2, none⟩ = some (.int .i64 1) := cell_of_row _ _ 2 _ _ (0, 0) H8.out.e
        have x3 : V8.cell? ⟨eb, 3, none⟩ = some (.int .i64 t) := cell_of_row _ _ 3 _ _ (0, 0) H8.out.e
        have x4 : V8.cell? ⟨eb, 4, none⟩ = some (.slice A1 n1 k1) := cell_of_row _ _ 4 _ _ (0, 0) H8.out.e
        have x5 : V8.cell? ⟨eb, 5, none⟩ = some (.slice A2 n2 k2) := cell_of_row _ _ 5 _ _ (0, 0) H8.out.e
        have x6 : V8.cell? ⟨eb, 6, none⟩ = some (.int .i64 3) := cell_of_row _ _ 6 _ _ (0, 0) H8.out.e
        have x7 : V8.cell? ⟨eb, 7, none⟩ = some (.int .i64 lw) := cell_of_row _ _ 7 _ _ (0, 0) H8.out.e
        have x8 : V8.cell? ⟨eb, 8, none⟩ = some (.string (valOf v)) := cell_of_row _ _ 8 _ _ (0, 0) H8.out.e
        have x9 : V8.cell? ⟨eb, 9, none⟩ = some (.int .i64 0) := cell_of_row _ _ 9 _ _ (0, 0) H8.out.e
        have x10 : V8.cell? ⟨eb, 10, none⟩ = some (.string (valOf 0)) := cell_of_row _ _ 10 _ _ (0, 0) H8.out.e
        have x11 : V8.cell? ⟨eb, 11, none⟩ = some (.int .i64 0) := cell_of_row _ _ 11 _ _ (0, 0) H8.out.e
        have x12 : V8.cell? ⟨eb, 12, none⟩ = some (.string (valOf 0)) := cell_of_row _ _ 12 _ _ (0, 0) H8.out.e
        have x13 : V8.cell? ⟨eb, 13, none⟩ = some (.int .i64 lw) := cell_of_row _ _ 13 _ _ (0, 0) H8.out.e
        have x14 : V8.cell? ⟨eb, 14, none⟩ = some (.int .i64 (lw + r)) := cell_of_row _ _ 14 _ _ (0, 0) H8.out.e
        go_wp2_with fail
        refine (acceptsPrep_run _ _ _ _ _ _ _ _ _ _ _ _ _ _ _ _ _ _ _ _ v hv1 _ H8.out.ge).mono ?_
        rintro e V9 ⟨rfl, hb⟩
        have H9 := Lib.hid (H8.out.bl hb)
        clear hb H8 x0 x1 x2 x3 x4 x5 x6 x7 x8 x9 x10 x11 x12 x13 x14
        rw [M2.out]
        by_cases hu : u = v
        · as_aux_lemma =>
          have huv : ((valOf u).toList == (valOf v).toList) = true := by rw [HVV.out]; simpa using hu
          clear hu
          by_cases h1 : lw = 1
          · as_aux_lemma =>
              have e1 : (lw == 1) = true := by rw [beq_iff_eq]; exact h1
              clear h1
              have x0 : V9.cell? ⟨eb, 0, none⟩ = some (.int .i64 nd) := cell_of_row _ _ 0 _ _ (0, 0) H9.out.e
              have x1 : V9.cell? ⟨eb, 1, none⟩ = some (.int .i64 1) := cell_of_row _ _ 1 _ _ (0, 0) H9.out.e
              have x2 : V9.cell? ⟨eb, 2, none⟩ = some (.int .i64 1) := cell_of_row _ _ 2 _ _ (0, 0) H9.out.e
              have x3 : V9.cell? ⟨eb, 3, none⟩ = some (.int .i64 t) := cell_of_row _ _ 3 _ _ (0, 0) H9.out.e
              have x4 : V9.cell? ⟨eb, 4, none⟩ = some (.slice A1 n1 k1) := cell_of_row _ _ 4 _ _ (0, 0) H9.out.e
              have x5 : V9.cell? ⟨eb, 5, none⟩ = some (.slice A2 n2 k2) := cell_of_row _ _ 5 _ _ (0, 0) H9.out.e
              have x6 : V9.cell? ⟨eb, 6, none⟩ = some (.int .i64 3) := cell_of_row _ _ 6 _ _ (0, 0) H9.out.e
              have x7 : V9.cell? ⟨eb, 7, none⟩ = some (.int .i64 lw) := cell_of_row _ _ 7 _ _ (0, 0) H9.out.e
              have x8 : V9.cell? ⟨eb, 8, none⟩ = some (.string (valOf v)) := cell_of_row _ _ 8 _ _ (0, 0) H9.out.e
              have x9 : V9.cell? ⟨eb, 9, none⟩ = some (.int .i64 0) := cell_of_row _ _ 9 _ _ (0, 0) H9.out.e
              have x10 : V9.cell? ⟨eb, 10, none⟩ = some (.string (valOf 0)) := cell_of_row _ _ 10 _ _ (0, 0) H9.out.e
              have x11 : V9.cell? ⟨eb, 11, none⟩ = some (.int .i64 0) := cell_of_row _ _ 11 _ _ (0, 0) H9.out.e
              have x12 : V9.cell? ⟨eb, 12, none⟩ = some (.string (valOf 0)) := cell_of_row _ _ 12 _ _ (0, 0) H9.out.e
              have x13 : V9.cell? ⟨eb, 13, none⟩ = some (.int .i64 lw) := cell_of_row _ _ 13 _ _ (0, 0) H9.out.e
              have x14 : V9.cell? ⟨eb, 14, none⟩ = some (.int .i64 (lw + r)) := cell_of_row _ _ 14 _ _ (0, 0) H9.out.e
              go_wp2_with fail
              refine (counter_run _ _ _ _ _ _ _ _ _ _ _ _ _ _ _ _ _ _ _ _ H9.out.ge).mono ?_
              rintro e V10 ⟨rfl, hb⟩
              have H10 := Lib.hid (H9.out.bl hb)
              clear hb H9 x0 x1 x2 x3 x4 x5 x6 x7 x8 x9 x10 x11 x12 x13 x14
              rw [M6.out]
              go_wp2_with fail
              refine (sane24 _).mono ?_
              rintro e Z ⟨rfl, hb⟩
              have HE := Lib.hid (bstep H10.out.bel hb)
              clear hb
              go_wp2_with fail
              go_ret
              exact ⟨rfl, HE.out⟩
          · as_aux_lemma =>
              have e1 : (lw == 1) = false := by rw [beq_eq_false_iff_ne]; exact h1
              clear h1
              have x0 : V9.cell? ⟨eb, 0, none⟩ = some (.int .i64 nd) := cell_of_row _ _ 0 _ _ (0, 0) H9.out.e
              have x1 : V9.cell? ⟨eb, 1, none⟩ = some (.int .i64 1) := cell_of_row _ _ 1 _ _ (0, 0) H9.out.e
              have x2 : V9.cell? ⟨eb, 2, none⟩ = some (.int .i64 1) := cell_of_row _ _ 2 _ _ (0, 0) H9.out.e
              have x3 : V9.cell? ⟨eb, 3, none⟩ = some (.int .i64 t) := cell_of_row _ _ 3 _ _ (0, 0) H9.out.e
              have x4 : V9.cell? ⟨eb, 4, none⟩ = some (.slice A1 n1 k1) := cell_of_row _ _ 4 _ _ (0, 0) H9.out.e
              have x5 : V9.cell? ⟨eb, 5, none⟩ = some (.slice A2 n2 k2) := cell_of_row _ _ 5 _ _ (0, 0) H9.out.e
              have x6 : V9.cell? ⟨eb, 6, none⟩ = some (.int .i64 3) := cell_of_row _ _ 6 _ _ (0, 0) H9.out.e
              have x7 : V9.cell? ⟨eb, 7, none⟩ = some (.int .i64 lw) := cell_of_row _ _ 7 _ _ (0, 0) H9.out.e
              have x8 : V9.cell? ⟨eb, 8, none⟩ = some (.string (valOf v)) := cell_of_row _ _ 8 _ _ (0, 0) H9.out.e
              have x9 : V9.cell? ⟨eb, 9, none⟩ = some (.int .i64 0) := cell_of_row _ _ 9 _ _ (0, 0) H9.out.e
              have x10 : V9.cell? ⟨eb, 10, none⟩ = some (.string (valOf 0)) := cell_of_row _ _ 10 _ _ (0, 0) H9.out.e
              have x11 : V9.cell? ⟨eb, 11, none⟩ = some (.int .i64 0) := cell_of_row _ _ 11 _ _ (0, 0) H9.out.e
              have x12 : V9.cell? ⟨eb, 12, none⟩ = some (.string (valOf 0)) := cell_of_row _ _ 12 _ _ (0, 0) H9.out.e
              have x13 : V9.cell? ⟨eb, 13, none⟩ = some (.int .i64 lw) := cell_of_row _ _ 13 _ _ (0, 0) H9.out.e
              have x14 : V9.cell? ⟨eb, 14, none⟩ = some (.int .i64 (lw + r)) := cell_of_row _ _ 14 _ _ (0, 0) H9.out.e
              go_wp2_with fail
              refine (acceptsCom_run _ _ _ _ _ _ _ _ _ _ _ _ _ _ _ _ _ _ _ v _ _ hv1 _ H9.out.ge).mono ?_
              rintro e V11 ⟨rfl, hb⟩
              have H11 := Lib.hid (H9.out.bl hb)
              clear hb H9 x0 x1 x2 x3 x4 x5 x6 x7 x8 x9 x10 x11 x12 x13 x14
              rw [M5.out]
              have x0 : V11.cell? ⟨eb, 0, none⟩ = some (.int .i64 nd) := cell_of_row _ _ 0 _ _ (0, 0) H11.out.e
              have x1 : V11.cell? ⟨eb, 1, none⟩ = some (.int .i64 1) := cell_of_row _ _ 1 _ _ (0, 0) H11.out.e
              have x2 : V11.cell? ⟨eb, 2, none⟩ = some (.int .i64 1) := cell_of_row _ _ 2 _ _ (0, 0) H11.out.e
              have x3 : V11.cell? ⟨eb, 3, none⟩ = some (.int .i64 t) := cell_of_row _ _ 3 _ _ (0, 0) H11.out.e
              have x4 : V11.cell? ⟨eb, 4, none⟩ = some (.slice A1 n1 k1) := cell_of_row _ _ 4 _ _ (0, 0) H11.out.e
              have x5 : V11.cell? ⟨eb, 5, none⟩ = some (.slice A2 n2 k2) := cell_of_row _ _ 5 _ _ (0, 0) H11.out.e
              have x6 : V11.cell? ⟨eb, 6, none⟩ = some (.int .i64 3) := cell_of_row _ _ 6 _ _ (0, 0) H11.out.e
              have x7 : V11.cell? ⟨eb, 7, none⟩ = some (.int .i64 lw) := cell_of_row _ _ 7 _ _ (0, 0) H11.out.e
              have x8 : V11.cell? ⟨eb, 8, none⟩ = some (.string (valOf v)) := cell_of_row _ _ 8 _ _ (0, 0) H11.out.e
              have x9 : V11.cell? ⟨eb, 9, none⟩ = some (.int .i64 0) := cell_of_row _ _ 9 _ _ (0, 0) H11.out.e
              have x10 : V11.cell? ⟨eb, 10, none⟩ = some (.string (valOf 0)) := cell_of_row _ _ 10 _ _ (0, 0) H11.out.e
              have x11 : V11.cell? ⟨eb, 11, none⟩ = some (.int .i64 0) := cell_of_row _ _ 11 _ _ (0, 0) H11.out.e
              have x12 : V11.cell? ⟨eb, 12, none⟩ = some (.string (valOf 0)) := cell_of_row _ _ 12 _ _ (0, 0) H11.out.e
              have x13 : V11.cell? ⟨eb, 13, none⟩ = some (.int .i64 lw) := cell_of_row _ _ 13 _ _ (0, 0) H11.out.e
              have x14 : V11.cell? ⟨eb, 14, none⟩ = some (.int .i64 (lw + r)) := cell_of_row _ _ 14 _ _ (0, 0) H11.out.e
              go_wp2_with fail
              refine (counter_run _ _ _ _ _ _ _ _ _ _ _ _ _ _ _ _ _ _ _ _ H11.out.ge).mono ?_
              rintro e V12 ⟨rfl, hb⟩
              have H12 := Lib.hid (H11.out.bl hb)
              clear hb H11 x0 x1 x2 x3 x4 x5 x6 x7 x8 x9 x10 x11 x12 x13 x14
              rw [M6.out]
              go_wp2_with fail
              refine (sane24 _).mono ?_
              rintro e Z ⟨rfl, hb⟩
              have HE := Lib.hid (bstep H12.out.bel hb)
              clear hb
              go_wp2_with fail
              go_ret
              exact ⟨rfl, HE.out⟩
        · as_aux_lemma =>
          have huv : ((valOf u).toList == (valOf v).toList) = false := by rw [HVV.out]; simpa using hu
          have HU := Lib.hid hu
          clear hu
          have x0 : V9.cell? ⟨eb, 0, none⟩ = some (.int .i64 nd) := cell_of_row _ _ 0 _ _ (0, 0) H9.out.e
          have x1 : V9.cell? ⟨eb, 1, none⟩ = some (.int .i64 1) := cell_of_row _ _ 1 _ _ (0, 0) H9.out.e
          have x2 : V9.cell? ⟨eb, 2, none⟩ = some (.int .i64 1) := cell_of_row _ _ 2 _ _ (0, 0) H9.out.e
          have x3 : V9.cell? ⟨eb, 3, none⟩ = some (.int .i64 t) := cell_of_row _ _ 3 _ _ (0, 0) H9.out.e
          have x4 : V9.cell? ⟨eb, 4, none⟩ = some (.slice A1 n1 k1) := cell_of_row _ _ 4 _ _ (0, 0) H9.out.e
          have x5 : V9.cell? ⟨eb, 5, none⟩ = some (.slice A2 n2 k2) := cell_of_row _ _ 5 _ _ (0, 0) H9.out.e
          have x6 : V9.cell? ⟨eb, 6, none⟩ = some (.int .i64 3) := cell_of_row _ _ 6 _ _ (0, 0) H9.out.e
          have x7 : V9.cell? ⟨eb, 7, none⟩ = some (.int .i64 lw) := cell_of_row _ _ 7 _ _ (0, 0) H9.out.e
          have x8 : V9.cell? ⟨eb, 8, none⟩ = some (.string (valOf v)) := cell_of_row _ _ 8 _ _ (0, 0) H9.out.e
          have x9 : V9.cell? ⟨eb, 9, none⟩ = some (.int .i64 0) := cell_of_row _ _ 9 _ _ (0, 0) H9.out.e
          have x10 : V9.cell? ⟨eb, 10, none⟩ = some (.string (valOf 0)) := cell_of_row _ _ 10 _ _ (0, 0) H9.out.e
          have x11 : V9.cell? ⟨eb, 11, none⟩ = some (.int .i64 0) := cell_of_row _ _ 11 _ _ (0, 0) H9.out.e
          have x12 : V9.cell? ⟨eb, 12, none⟩ = some (.string (valOf 0)) := cell_of_row _ _ 12 _ _ (0, 0) H9.out.e
          have x13 : V9.cell? ⟨eb, 13, none⟩ = some (.int .i64 lw) := cell_of_row _ _ 13 _ _ (0, 0) H9.out.e
          have x14 : V9.cell? ⟨eb, 14, none⟩ = some (.int .i64 (lw + r)) := cell_of_row _ _ 14 _ _ (0, 0) H9.out.e
          go_wp2_with fail
          refine (votesCom_run _ _ _ _ _ _ _ _ _ _ _ _ _ _ _ _ _ _ _ u _ _ hu1 _ H9.out.ge).mono ?_
          rintro e V13 ⟨rfl, hb⟩
          have H13 := Lib.hid (H9.out.bl hb)
          clear hb H9 x0 x1 x2 x3 x4 x5 x6 x7 x8 x9 x10 x11 x12 x13 x14
          rw [M3.out HU.out]
          as_aux_lemma =>
            have x0 : V13.cell? ⟨eb, 0, none⟩ = some (.int .i64 nd) := cell_of_row _ _ 0 _ _ (0, 0) H13.out.e
            have x1 : V13.cell? ⟨eb, 1, none⟩ = some (.int .i64 1) := cell_of_row _ _ 1 _ _ (0, 0) H13.out.e
            have x2 : V13.cell? ⟨eb, 2, none⟩ = some (.int .i64 1) := cell_of_row _ _ 2 _ _ (0, 0) H13.out.e
            have x3 : V13.cell? ⟨eb, 3, none⟩ = some (.int .i64 t) := cell_of_row _ _ 3 _ _ (0, 0) H13.out.e
            have x4 : V13.cell? ⟨eb, 4, none⟩ = some (.slice A1 n1 k1) := cell_of_row _ _ 4 _ _ (0, 0) H13.out.e
            have x5 : V13.cell? ⟨eb, 5, none⟩ = some (.slice A2 n2 k2) := cell_of_row _ _ 5 _ _ (0, 0) H13.out.e
            have x6 : V13.cell? ⟨eb, 6, none⟩ = some (.int .i64 3) := cell_of_row _ _ 6 _ _ (0, 0) H13.out.e
            have x7 : V13.cell? ⟨eb, 7, none⟩ = some (.int .i64 lw) := cell_of_row _ _ 7 _ _ (0, 0) H13.out.e
            have x8 : V13.cell? ⟨eb, 8, none⟩ = some (.string (valOf v)) := cell_of_row _ _ 8 _ _ (0, 0) H13.out.e
            have x9 : V13.cell? ⟨eb, 9, none⟩ = some (.int .i64 0) := cell_of_row _ _ 9 _ _ (0, 0) H13.out.e
            have x10 : V13.cell? ⟨eb, 10, none⟩ = some (.string (valOf 0)) := cell_of_row _ _ 10 _ _ (0, 0) H13.out.e
            have x11 : V13.cell? ⟨eb, 11, none⟩ = some (.int .i64 0) := cell_of_row _ _ 11 _ _ (0, 0) H13.out.e
            have x12 : V13.cell? ⟨eb, 12, none⟩ = some (.string (valOf 0)) := cell_of_row _ _ 12 _ _ (0, 0) H13.out.e
            have x13 : V13.cell? ⟨eb, 13, none⟩ = some (.int .i64 lw) := cell_of_row _ _ 13 _ _ (0, 0) H13.out.e
            have x14 : V13.cell? ⟨eb, 14, none⟩ = some (.int .i64 (lw + r)) := cell_of_row _ _ 14 _ _ (0, 0) H13.out.e
            go_wp2_with fail
            refine (votesPrep_run _ _ _ _ _ _ _ _ _ _ _ _ _ _ _ _ _ _ _ _ u hu1 _ H13.out.ge).mono ?_
            rintro e V14 ⟨rfl, hb⟩
            have H14 := Lib.hid (H13.out.bl hb)
            clear hb H13 x0 x1 x2 x3 x4 x5 x6 x7 x8 x9 x10 x11 x12 x13 x14
            rw [M4.out HU.out]
            by_cases h1 : lw = 1
            · as_aux_lemma =>
                have e1 : (lw == 1) = true := by rw [beq_iff_eq]; exact h1
                clear h1
                have x0 : V14.cell? ⟨eb, 0, none⟩ = some (.int .i64 nd) := cell_of_row _ _ 0 _ _ (0, 0) H14.out.e
                have x1 : V14.cell? ⟨eb, 1, none⟩ = some (.int .i64 1) := cell_of_row _ _ 1 _ _ (0, 0) H14.out.e
                have x2 : V14.cell? ⟨eb, 2, none⟩ = some (.int .i64 1) := cell_of_row _ _ 2 _ _ (0, 0) H14.out.e
                have x3 : V14.cell? ⟨eb, 3, none⟩ = some (.int .i64 t) := cell_of_row _ _ 3 _ _ (0, 0) H14.out.e
                have x4 : V14.cell? ⟨eb, 4, none⟩ = some (.slice A1 n1 k1) := cell_of_row _ _ 4 _ _ (0, 0) H14.out.e
                have x5 : V14.cell? ⟨eb, 5, none⟩ = some (.slice A2 n2 k2) := cell_of_row _ _ 5 _ _ (0, 0) H14.out.e
                have x6 : V14.cell? ⟨eb, 6, none⟩ = some (.int .i64 3) := cell_of_row _ _ 6 _ _ (0, 0) H14.out.e
                have x7 : V14.cell? ⟨eb, 7, none⟩ = some (.int .i64 lw) := cell_of_row _ _ 7 _ _ (0, 0) H14.out.e
                have x8 : V14.cell? ⟨eb, 8, none⟩ = some (.string (valOf v)) := cell_of_row _ _ 8 _ _ (0, 0) H14.out.e
                have x9 : V14.cell? ⟨eb, 9, none⟩ = some (.int .i64 0) := cell_of_row _ _ 9 _ _ (0, 0) H14.out.e
                have x10 : V14.cell? ⟨eb, 10, none⟩ = some (.string (valOf 0)) := cell_of_row _ _ 10 _ _ (0, 0) H14.out.e
                have x11 : V14.cell? ⟨eb, 11, none⟩ = some (.int .i64 0) := cell_of_row _ _ 11 _ _ (0, 0) H14.out.e
                have x12 : V14.cell? ⟨eb, 12, none⟩ = some (.string (valOf 0)) := cell_of_row _ _ 12 _ _ (0, 0) H14.out.e
                have x13 : V14.cell? ⟨eb, 13, none⟩ = some (.int .i64 lw) := cell_of_row _ _ 13 _ _ (0, 0) H14.out.e
                have x14 : V14.cell? ⟨eb, 14, none⟩ = some (.int .i64 (lw + r)) := cell_of_row _ _ 14 _ _ (0, 0) H14.out.e
                go_wp2_with fail
                refine (counter_run _ _ _ _ _ _ _ _ _ _ _ _ _ _ _ _ _ _ _ _ H14.out.ge).mono ?_
                rintro e V15 ⟨rfl, hb⟩
                have H15 := Lib.hid (H14.out.bl hb)
                clear hb H14 x0 x1 x2 x3 x4 x5 x6 x7 x8 x9 x10 x11 x12 x13 x14
                rw [M6.out]
                go_wp2_with fail
                refine (sane24 _).mono ?_
                rintro e Z ⟨rfl, hb⟩
                have HE := Lib.hid (bstep H15.out.bel hb)
                clear hb
                go_wp2_with fail
                go_ret
                exact ⟨rfl, HE.out⟩
            · as_aux_lemma =>
                have e1 : (lw == 1) = false := by rw [beq_eq_false_iff_ne]; exact h1
                clear h1
                have x0 : V14.cell? ⟨eb, 0, none⟩ = some (.int .i64 nd) := cell_of_row _ _ 0 _ _ (0, 0) H14.out.e
                have x1 : V14.cell? ⟨eb, 1, none⟩ = some (.int .i64 1) := cell_of_row _ _ 1 _ _ (0, 0) H14.out.e
                have x2 : V14.cell? ⟨eb, 2, none⟩ = some (.int .i64 1) := cell_of_row _ _ 2 _ _ (0, 0) H14.out.e
                have x3 : V14.cell? ⟨eb, 3, none⟩ = some (.int .i64 t) := cell_of_row _ _ 3 _ _ (0, 0) H14.out.e
                have x4 : V14.cell? ⟨eb, 4, none⟩ = some (.slice A1 n1 k1) := cell_of_row _ _ 4 _ _ (0, 0) H14.out.e
                have x5 : V14.cell? ⟨eb, 5, none⟩ = some (.slice A2 n2 k2) := cell_of_row _ _ 5 _ _ (0, 0) H14.out.e
                have x6 : V14.cell? ⟨eb, 6, none⟩ = some (.int .i64 3) := cell_of_row _ _ 6 _ _ (0, 0) H14.out.e
                have x7 : V14.cell? ⟨eb, 7, none⟩ = some (.int .i64 lw) := cell_of_row _ _ 7 _ _ (0, 0) H14.out.e
                have x8 : V14.cell? ⟨eb, 8, none⟩ = some (.string (valOf v)) := cell_of_row _ _ 8 _ _ (0, 0) H14.out.e
                have x9 : V14.cell? ⟨eb, 9, none⟩ = some (.int .i64 0) := cell_of_row _ _ 9 _ _ (0, 0) H14.out.e
                have x10 : V14.cell? ⟨eb, 10, none⟩ = some (.string (valOf 0)) := cell_of_row _ _ 10 _ _ (0, 0) H14.out.e
                have x11 : V14.cell? ⟨eb, 11, none⟩ = some (.int .i64 0) := cell_of_row _ _ 11 _ _ (0, 0) H14.out.e
                have x12 : V14.cell? ⟨eb, 12, none⟩ = some (.string (valOf 0)) := cell_of_row _ _ 12 _ _ (0, 0) H14.out.e
                have x13 : V14.cell? ⟨eb, 13, none⟩ = some (.int .i64 lw) := cell_of_row _ _ 13 _ _ (0, 0) H14.out.e
                have x14 : V14.cell? ⟨eb, 14, none⟩ = some (.int .i64 (lw + r)) := cell_of_row _ _ 14 _ _ (0, 0) H14.out.e
                go_wp2_with fail
                refine (acceptsCom_run _ _ _ _ _ _ _ _ _ _ _ _ _ _ _ _ _ _ _ v _ _ hv1 _ H14.out.ge).mono ?_
                rintro e V16 ⟨rfl, hb⟩
                have H16 := Lib.hid (H14.out.bl hb)
                clear hb H14 x0 x1 x2 x3 x4 x5 x6 x7 x8 x9 x10 x11 x12 x13 x14
                rw [M5.out]
                have x0 : V16.cell? ⟨eb, 0, none⟩ = some (.int .i64 nd) := cell_of_row _ _ 0 _ _ (0, 0) H16.out.e
                have x1 : V16.cell? ⟨eb, 1, none⟩ = some (.int .i64 1) := cell_of_row _ _ 1 _ _ (0, 0) H16.out.e
                have x2 : V16.cell? ⟨eb, 2, none⟩ = some (.int .i64 1) := cell_of_row _ _ 2 _ _ (0, 0) H16.out.e
                have x3 : V16.cell? ⟨eb, 3, none⟩ = some (.int .i64 t) := cell_of_row _ _ 3 _ _ (0, 0) H16.out.e
                have x4 : V16.cell? ⟨eb, 4, none⟩ = some (.slice A1 n1 k1) := cell_of_row _ _ 4 _ _ (0, 0) H16.out.e
                have x5 : V16.cell? ⟨eb, 5, none⟩ = some (.slice A2 n2 k2) := cell_of_row _ _ 5 _ _ (0, 0) H16.out.e
                have x6 : V16.cell? ⟨eb, 6, none⟩ = some (.int .i64 3) := cell_of_row _ _ 6 _ _ (0, 0) H16.out.e
                have x7 : V16.cell? ⟨eb, 7, none⟩ = some (.int .i64 lw) := cell_of_row _ _ 7 _ _ (0, 0) H16.out.e
                have x8 : V16.cell? ⟨eb, 8, none⟩ = some (.string (valOf v)) := cell_of_row _ _ 8 _ _ (0, 0) H16.out.e
                have x9 : V16.cell? ⟨eb, 9, none⟩ = some (.int .i64 0) := cell_of_row _ _ 9 _ _ (0, 0) H16.out.e
                have x10 : V16.cell? ⟨eb, 10, none⟩ = some (.string (valOf 0)) := cell_of_row _ _ 10 _ _ (0, 0) H16.out.e
                have x11 : V16.cell? ⟨eb, 11, none⟩ = some (.int .i64 0) := cell_of_row _ _ 11 _ _ (0, 0) H16.out.e
                have x12 : V16.cell? ⟨eb, 12, none⟩ = some (.string (valOf 0)) := cell_of_row _ _ 12 _ _ (0, 0) H16.out.e
                have x13 : V16.cell? ⟨eb, 13, none⟩ = some (.int .i64 lw) := cell_of_row _ _ 13 _ _ (0, 0) H16.out.e
                have x14 : V16.cell? ⟨eb, 14, none⟩ = some (.int .i64 (lw + r)) := cell_of_row _ _ 14 _ _ (0, 0) H16.out.e
                go_wp2_with fail
                refine (counter_run _ _ _ _ _ _ _ _ _ _ _ _ _ _ _ _ _ _ _ _ H16.out.ge).mono ?_
                rintro e V17 ⟨rfl, hb⟩
                have H17 := Lib.hid (H16.out.bl hb)
                clear hb H16 x0 x1 x2 x3 x4 x5 x6 x7 x8 x9 x10 x11 x12 x13 x14
                rw [M6.out]
                go_wp2_with fail
                refine (sane24 _).mono ?_
                rintro e Z ⟨rfl, hb⟩
                have HE := Lib.hid (bstep H17.out.bel hb)
                clear hb
                go_wp2_with fail
                go_ret
                exact ⟨rfl, HE.out⟩
end Go.Proofs.Ytmgiojdipheokaa
