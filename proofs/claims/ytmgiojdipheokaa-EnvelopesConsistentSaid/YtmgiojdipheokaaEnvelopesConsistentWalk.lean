/- The walk of EnvelopesConsistent: a valid envelope never votes for a commit of a ballot that it has given up. -/
import Derived.Test.YtmgiojdipheokaaSane24
import Derived.Test.YtmgiojdipheokaaSEnv3
namespace Go.Proofs.Ytmgiojdipheokaa
set_option linter.unusedVariables false
set_option linter.unusedSimpArgs false
open Go.RowKit

theorem ab_later {c l k : Int} {i b : Nat} (h : abB c i l b = false) (hk : l ≤ k) : abB c i k b = false := by
  unfold abB lessB at *
  simp only [Bool.and_eq_false_iff, Bool.not_eq_false', decide_eq_true_eq, Bool.or_eq_false_iff, decide_eq_false_iff_not] at *
  rcases h with h | h | h
  · exact .inl h
  · exact .inr (.inl h)
  · exact .inr (.inr (by omega))
theorem cons_math {kd bc pc qc lo hi k : Int} {bi pi qi v : Nat} (hok : okE kd bc bi pc pi qc qi lo hi = true) (hv : vcB kd bi lo hi v k k = true) (h1 : kd = 1) : abB pc pi k v = false ∧ abB qc qi k v = false := by
  subst h1
  unfold okE at hok
  unfold vcB spB at hv
  simp only [if_true, rpB, Bool.and_eq_true, Bool.or_eq_true, Bool.not_eq_true', decide_eq_true_eq, decide_eq_false_iff_not] at hok hv
  obtain ⟨⟨hbv, hlo, hlk, _⟩, _⟩ := hv
  subst hbv
  obtain ⟨_, _, _, _, _, _, h⟩ := hok
  rcases h with h | ⟨h2, h3⟩
  · exact absurd h hlo
  · exact ⟨ab_later h2 hlk, ab_later h3 hlk⟩

set_option maxRecDepth 100000 in
set_option maxHeartbeats 4000000 in
theorem walkEnvelopesConsistent (a0 : Option Addr) (len0 cap0 : Nat) (z0 : List Int) (a1 : Int) (w : World) (w0 : IsRow .i64 w a0 len0 cap0 z0) (w1 : (Lit.int .u8 a1).wf = true) :
    Calls Try.prog 5 #[.slice a0 len0 cap0, .int .u8 a1] w fun e w' => e = .returned (.bool true) ∧ Below w.heap.size w w' := by
  obtain ⟨y0, y1⟩ := bounds_u8 w1
  have HR := Lib.hid w0
  clear w0 w1
  go_enter Try.func5, Try.ntmps5
  go_wp2_with fail
  refine (New_run _ _ _ _ _ HR.out).mono ?_
  rintro e v0 ⟨rfl, hs0, hb0⟩
  have HS0 := Lib.hid hs0
  have HB0 := Lib.hid hb0
  clear hs0 hb0
  go_wp2_with fail
  refine (N_run _ _ _ (by omega) (by omega) HS0.out).mono ?_
  rintro e v1 ⟨nd, hnd0, hnd1, rfl, hs1, hg1⟩
  have HS1 := Lib.hid hs1
  have HB1 := Lib.hid (bgrown HB0.out hg1 (Nat.le_refl _))
  have hlz := HS0.out.lt
  have hlz1 := hg1.size
  clear hs1 hg1 HS0 HB0
  have hse := senv_run w.heap.size nd 1 v1 hnd0 (by omega) (by omega) (by omega) HS1.out
  have HSE := Lib.hid hse
  clear hse
  go_wp2_with fail
  refine HSE.out.mono ?_
  intro e v2 hres
  obtain ⟨sq, t, kd, bc, pc, qc, lo, hi, bi, pi, qi, n1, k1, n2, k2, A1, A2, T, rfl, hge, hs2, hg2⟩ := hres
  have hba := balloc (bref v2) (.cells #[.int .i64 nd, .int .i64 1, .int .i64 sq, .int .i64 t, .slice A1 n1 k1, .slice A2 n2 k2, .int .i64 kd, .int .i64 bc, .string (valOf bi), .int .i64 pc, .string (valOf pi), .int .i64 qc, .string (valOf qi), .int .i64 lo, .int .i64 hi] 44)
  have hlz2 := hg2.size
  have H0 := Lib.hid (show LE w v2.heap.size (fun b => v1.heap.size ≤ b) T nd 1 sq t kd bc pc qc lo hi bi pi qi n1 k1 n2 k2 A1 A2 (v2.alloc (.cells #[.int .i64 nd, .int .i64 1, .int .i64 sq, .int .i64 t, .slice A1 n1 k1, .slice A2 n2 k2, .int .i64 kd, .int .i64 bc, .string (valOf bi), .int .i64 pc, .string (valOf pi), .int .i64 qc, .string (valOf qi), .int .i64 lo, .int .i64 hi] 44)) from
    ⟨heap_alloc_new _ _, hge.bl hba, hs2.alloc _, bstep (bgrown HB1.out hg2 (Nat.le_refl _)) hba, by omega, fun b hb => by have : v1.heap.size ≤ b := hb; omega⟩)
  clear hge hs2 hg2 hba hlz hlz1 hlz2 HSE HS1 HB1
  go_upto_region 3 with fail
  generalize v2.alloc (.cells #[.int .i64 nd, .int .i64 1, .int .i64 sq, .int .i64 t, .slice A1 n1 k1, .slice A2 n2 k2, .int .i64 kd, .int .i64 bc, .string (valOf bi), .int .i64 pc, .string (valOf pi), .int .i64 qc, .string (valOf qi), .int .i64 lo, .int .i64 hi] 44) = V0 at *
  generalize v2.heap.size = eb at *
  generalize v1.heap.size = pb at *
  go_wp2_with fail
  refine (Value_run _ _ H0.out.src).mono ?_
  rintro e V1 ⟨v, hv0, hv1, rfl, hs1, hg1⟩
  have H1 := Lib.hid (H0.out.grown hs1 hg1)
  clear hs1 hg1 H0
  have hk0 : 1 ≤ 1 + a1 % 8 := by omega
  have hk1 : 1 + a1 % 8 ≤ 8 := by omega
  have x0 : V1.cell? ⟨eb, 0, none⟩ = some (.int .i64 nd) := cell_of_row _ _ 0 _ _ (0, 0) H1.out.e
  have x1 : V1.cell? ⟨eb, 1, none⟩ = some (.int .i64 1) := cell_of_row _ _ 1 _ _ (0, 0) H1.out.e
  have x2 : V1.cell? ⟨eb, 2, none⟩ = some (.int .i64 sq) := cell_of_row _ _ 2 _ _ (0, 0) H1.out.e
  have x3 : V1.cell? ⟨eb, 3, none⟩ = some (.int .i64 t) := cell_of_row _ _ 3 _ _ (0, 0) H1.out.e
  have x4 : V1.cell? ⟨eb, 4, none⟩ = some (.slice A1 n1 k1) := cell_of_row _ _ 4 _ _ (0, 0) H1.out.e
  have x5 : V1.cell? ⟨eb, 5, none⟩ = some (.slice A2 n2 k2) := cell_of_row _ _ 5 _ _ (0, 0) H1.out.e
  have x6 : V1.cell? ⟨eb, 6, none⟩ = some (.int .i64 kd) := cell_of_row _ _ 6 _ _ (0, 0) H1.out.e
  have x7 : V1.cell? ⟨eb, 7, none⟩ = some (.int .i64 bc) := cell_of_row _ _ 7 _ _ (0, 0) H1.out.e
  have x8 : V1.cell? ⟨eb, 8, none⟩ = some (.string (valOf bi)) := cell_of_row _ _ 8 _ _ (0, 0) H1.out.e
  have x9 : V1.cell? ⟨eb, 9, none⟩ = some (.int .i64 pc) := cell_of_row _ _ 9 _ _ (0, 0) H1.out.e
  have x10 : V1.cell? ⟨eb, 10, none⟩ = some (.string (valOf pi)) := cell_of_row _ _ 10 _ _ (0, 0) H1.out.e
  have x11 : V1.cell? ⟨eb, 11, none⟩ = some (.int .i64 qc) := cell_of_row _ _ 11 _ _ (0, 0) H1.out.e
  have x12 : V1.cell? ⟨eb, 12, none⟩ = some (.string (valOf qi)) := cell_of_row _ _ 12 _ _ (0, 0) H1.out.e
  have x13 : V1.cell? ⟨eb, 13, none⟩ = some (.int .i64 lo) := cell_of_row _ _ 13 _ _ (0, 0) H1.out.e
  have x14 : V1.cell? ⟨eb, 14, none⟩ = some (.int .i64 hi) := cell_of_row _ _ 14 _ _ (0, 0) H1.out.e
  go_wp2_with fail
  refine (votesCom_run _ _ _ _ _ _ _ _ _ _ _ _ _ _ _ _ _ _ _ v _ _ hv1 _ H1.out.ge).mono ?_
  rintro e V2 ⟨rfl, hb⟩
  have H2 := Lib.hid (H1.out.bl hb)
  clear hb H1 x0 x1 x2 x3 x4 x5 x6 x7 x8 x9 x10 x11 x12 x13 x14
  cases hvc : vcB kd bi lo hi v (1 + a1 % 8) (1 + a1 % 8)
  · go_wp2_with fail
    refine (sane24 _).mono ?_
    rintro e V3 ⟨rfl, hb⟩
    have HE := Lib.hid (bstep H2.out.bel hb)
    clear hb
    go_wp2_with fail
    go_ret
    exact ⟨rfl, HE.out⟩
  · by_cases h1 : kd = 1
    · have hmm := cons_math H2.out.ge.ok hvc h1
      have e1 : (kd != 1) = false := by rw [bne_eq_false_iff_eq]; exact h1
      have HM := Lib.hid hmm
      clear hmm h1
      have x6 : V2.cell? ⟨eb, 6, none⟩ = some (.int .i64 kd) := cell_of_row _ _ 6 _ _ (0, 0) H2.out.e
      go_upto_region 7 with fail
      have H3 := Lib.hid (H2.out.bl (balloc (bref V2) (.cells #[.int .i64 (1 + a1 % 8), .string (valOf v)] 26)))
      have HX3 := Lib.hid (BalAt.new V2 (1 + a1 % 8) v)
      clear x6 H2
      generalize V2.alloc (.cells #[.int .i64 (1 + a1 % 8), .string (valOf v)] 26) = V3 at *
      generalize V2.heap.size = xb at *
      have x9 : V3.cell? ⟨eb, 9, none⟩ = some (.int .i64 pc) := cell_of_row _ _ 9 _ _ (0, 0) H3.out.e
      have x10 : V3.cell? ⟨eb, 10, none⟩ = some (.string (valOf pi)) := cell_of_row _ _ 10 _ _ (0, 0) H3.out.e
      obtain ⟨b0, b1⟩ := HX3.out.cs
      have hp4 := H3.out.ge.p
      have hq4 := H3.out.ge.q
      go_wp2_with fail
      refine (raborts_run _ _ _ _ _ hp4 hv1).mono ?_
      rintro e V4 ⟨rfl, hb⟩
      rw [HM.out.1]
      have H4 := Lib.hid (H3.out.bl hb)
      have HX4 := Lib.hid (HX3.out.below hb)
      clear hb x9 x10 b0 b1 H3 HX3
      have x11 : V4.cell? ⟨eb, 11, none⟩ = some (.int .i64 qc) := cell_of_row _ _ 11 _ _ (0, 0) H4.out.e
      have x12 : V4.cell? ⟨eb, 12, none⟩ = some (.string (valOf qi)) := cell_of_row _ _ 12 _ _ (0, 0) H4.out.e
      obtain ⟨b0, b1⟩ := HX4.out.cs
      go_wp2_with fail
      refine (raborts_run _ _ _ _ _ hq4 hv1).mono ?_
      rintro e V5 ⟨rfl, hb⟩
      rw [HM.out.2]
      have H5 := Lib.hid (H4.out.bl hb)
      clear hb x11 x12 b0 b1 H4 HX4
      go_wp2_with fail
      refine (sane24 _).mono ?_
      rintro e V6 ⟨rfl, hb⟩
      have HE := Lib.hid (bstep H5.out.bel hb)
      clear hb
      go_wp2_with fail
      go_ret
      exact ⟨rfl, HE.out⟩
    · have e1 : (kd != 1) = true := by rw [bne_iff_ne]; exact h1
      clear h1
      have x6 : V2.cell? ⟨eb, 6, none⟩ = some (.int .i64 kd) := cell_of_row _ _ 6 _ _ (0, 0) H2.out.e
      go_wp2_with fail
      refine (sane24 _).mono ?_
      rintro e V3 ⟨rfl, hb⟩
      have HE := Lib.hid (bstep H2.out.bel hb)
      clear hb
      go_wp2_with fail
      go_ret
      exact ⟨rfl, HE.out⟩
end Go.Proofs.Ytmgiojdipheokaa
