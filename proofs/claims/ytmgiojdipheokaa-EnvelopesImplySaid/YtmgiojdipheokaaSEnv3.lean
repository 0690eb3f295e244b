/- The contract of the source's Envelope. -/
import Derived.Test.YtmgiojdipheokaaSEnv
import Derived.Test.YtmgiojdipheokaaR24
import Derived.Deep.CutBlock
namespace Go.Proofs.Ytmgiojdipheokaa
set_option linter.unusedVariables false
set_option linter.unusedSimpArgs false
open Go.RowKit

theorem ES.fin {w W : World} {sb g eb : Nat} {u0 u1 u2 u3 u4 u5 u6 u7 u8 u9 u10 u11 u12 u13 u14 : Value} {T : Tree} (h : ES w sb g eb u0 u1 u2 u3 u4 u5 u6 u7 u8 u9 u10 u11 u12 u13 u14 T W) :
    TAt (fun b => w.heap.size ≤ b) 2 (((((((((((((((W.setCell ⟨g, 0, none⟩ (u0)).setCell ⟨g, 1, none⟩ (u1)).setCell ⟨g, 2, none⟩ (u2)).setCell ⟨g, 3, none⟩ (u3)).setCell ⟨g, 4, none⟩ (u4)).setCell ⟨g, 5, none⟩ (u5)).setCell ⟨g, 6, none⟩ (u6)).setCell ⟨g, 7, none⟩ (u7)).setCell ⟨g, 8, none⟩ (u8)).setCell ⟨g, 9, none⟩ (u9)).setCell ⟨g, 10, none⟩ (u10)).setCell ⟨g, 11, none⟩ (u11)).setCell ⟨g, 12, none⟩ (u12)).setCell ⟨g, 13, none⟩ (u13)).setCell ⟨g, 14, none⟩ (u14)) u3 u4 u5 T ∧ SrcOk (((((((((((((((W.setCell ⟨g, 0, none⟩ (u0)).setCell ⟨g, 1, none⟩ (u1)).setCell ⟨g, 2, none⟩ (u2)).setCell ⟨g, 3, none⟩ (u3)).setCell ⟨g, 4, none⟩ (u4)).setCell ⟨g, 5, none⟩ (u5)).setCell ⟨g, 6, none⟩ (u6)).setCell ⟨g, 7, none⟩ (u7)).setCell ⟨g, 8, none⟩ (u8)).setCell ⟨g, 9, none⟩ (u9)).setCell ⟨g, 10, none⟩ (u10)).setCell ⟨g, 11, none⟩ (u11)).setCell ⟨g, 12, none⟩ (u12)).setCell ⟨g, 13, none⟩ (u13)).setCell ⟨g, 14, none⟩ (u14)) sb ∧ w.grownBy (((((((((((((((W.setCell ⟨g, 0, none⟩ (u0)).setCell ⟨g, 1, none⟩ (u1)).setCell ⟨g, 2, none⟩ (u2)).setCell ⟨g, 3, none⟩ (u3)).setCell ⟨g, 4, none⟩ (u4)).setCell ⟨g, 5, none⟩ (u5)).setCell ⟨g, 6, none⟩ (u6)).setCell ⟨g, 7, none⟩ (u7)).setCell ⟨g, 8, none⟩ (u8)).setCell ⟨g, 9, none⟩ (u9)).setCell ⟨g, 10, none⟩ (u10)).setCell ⟨g, 11, none⟩ (u11)).setCell ⟨g, 12, none⟩ (u12)).setCell ⟨g, 13, none⟩ (u13)).setCell ⟨g, 14, none⟩ (u14)) (some sb) := by
  have hlo := h.lo
  have heq := h.eq
  refine ⟨TAt.both (P := fun b => g < b ∧ b ≠ eb) (fun q hq hP => far15 W g q (by omega) u0 u1 u2 u3 u4 u5 u6 u7 u8 u9 u10 u11 u12 u13 u14) (fun q hq hP => by omega) _ _ _ _ _ h.tat, ?_, ?_⟩
  · exact ((((((((((((((h.src.setCell (by simpa using hlo) _).setCell (by simpa using hlo) _).setCell (by simpa using hlo) _).setCell (by simpa using hlo) _).setCell (by simpa using hlo) _).setCell (by simpa using hlo) _).setCell (by simpa using hlo) _).setCell (by simpa using hlo) _).setCell (by simpa using hlo) _).setCell (by simpa using hlo) _).setCell (by simpa using hlo) _).setCell (by simpa using hlo) _).setCell (by simpa using hlo) _).setCell (by simpa using hlo) _).setCell (by simpa using hlo) _
  · exact gset (gset (gset (gset (gset (gset (gset (gset (gset (gset (gset (gset (gset (gset (gset h.gr (p := ⟨g, 0, none⟩) (by simp; omega) _) (p := ⟨g, 1, none⟩) (by simp; omega) _) (p := ⟨g, 2, none⟩) (by simp; omega) _) (p := ⟨g, 3, none⟩) (by simp; omega) _) (p := ⟨g, 4, none⟩) (by simp; omega) _) (p := ⟨g, 5, none⟩) (by simp; omega) _) (p := ⟨g, 6, none⟩) (by simp; omega) _) (p := ⟨g, 7, none⟩) (by simp; omega) _) (p := ⟨g, 8, none⟩) (by simp; omega) _) (p := ⟨g, 9, none⟩) (by simp; omega) _) (p := ⟨g, 10, none⟩) (by simp; omega) _) (p := ⟨g, 11, none⟩) (by simp; omega) _) (p := ⟨g, 12, none⟩) (by simp; omega) _) (p := ⟨g, 13, none⟩) (by simp; omega) _) (p := ⟨g, 14, none⟩) (by simp; omega) _

/-- What the making of an envelope comes to. -/
def SG (w : World) (sb g eb : Nat) (nd sl sq t : Int) (n1 k1 n2 k2 : Nat) (A1 A2 : Option Addr) (T : Tree) (bi : Nat) (W : World) : Prop :=
  ∃ (kd bc pc qc lo hi : Int) (pi qi : Nat), pi ≤ 4 ∧ qi ≤ 4 ∧ 1 ≤ bc ∧ bc ≤ 7 ∧ (kd = 1 ∨ kd = 2 ∨ (kd = 3 ∧ zeroB pc pi = true ∧ zeroB qc qi = true)) ∧ okE kd bc bi pc pi qc qi lo hi = true ∧ ES w sb g eb (.int .i64 nd) (.int .i64 sl) (.int .i64 sq) (.int .i64 t) (.slice A1 n1 k1) (.slice A2 n2 k2) (.int .i64 kd) (.int .i64 bc) (.string (valOf bi)) (.int .i64 pc) (.string (valOf pi)) (.int .i64 qc) (.string (valOf qi)) (.int .i64 lo) (.int .i64 hi) T W

theorem vb_small {c : Int} {i : Nat} (h0 : 1 ≤ c) (h1 : c ≤ 7) (hi : 1 ≤ i) : validB c i = true := by unfold validB; simp; omega
theorem ok_commit {bc lo r s : Int} {bi : Nat} (c0 : 1 ≤ bc) (c1 : bc ≤ 7) (l0 : 1 ≤ lo) (l1 : lo ≤ 4) (r0 : 0 ≤ r) (r1 : r < 3) (s0 : 0 ≤ s) (s1 : s < 3) (b0 : 1 ≤ bi) (b1 : bi ≤ 4) : okE 2 bc bi (lo + r + s) bi 0 0 lo (lo + r) = true := by
  have h1 : validB (lo + r + s) bi = true := by unfold validB; simp; omega
  have h2 : zeroB 0 0 = true := rfl
  have hh3 : decide (lo + r + s ≤ 1000) = true := by rw [decide_eq_true_iff]; omega
  unfold okE rcB rngB
  simp [h1, h2, hh3]
  omega
theorem ok_ext {bc lo r : Int} {bi : Nat} (l0 : 1 ≤ lo) (l1 : lo ≤ 4) (r0 : 0 ≤ r) (r1 : r < 3) : okE 3 bc bi 0 0 0 0 lo (lo + r) = true := by
  have h2 : zeroB 0 0 = true := rfl
  unfold okE rngB
  simp [h2]
  omega
def PQ (pc : Int) (pi : Nat) (qc : Int) (qi : Nat) : Prop := ((pc = 0 ∧ pi = 0) ∨ (1 ≤ pc ∧ pc ≤ 6 ∧ 1 ≤ pi ∧ pi ≤ 4)) ∧ ((qc = 0 ∧ qi = 0) ∨ (1 ≤ qc ∧ qc ≤ 6 ∧ 1 ≤ qi ∧ qi ≤ 4))
theorem PQ.bd {pc qc : Int} {pi qi : Nat} (h : PQ pc pi qc qi) : pi ≤ 4 ∧ qi ≤ 4 := by unfold PQ at h; omega
theorem ok_zero {bc pc qc l h : Int} {bi pi qi : Nat} (c0 : 1 ≤ bc) (c1 : bc ≤ 7) (b0 : 1 ≤ bi) (hp : PQ pc pi qc qi) (hz : l = 0 ∧ h = 0) : rpB bc bi pc pi 0 0 l h = true := by
  obtain ⟨rfl, rfl⟩ := hz
  have h2 : zeroB 0 0 = true := rfl
  have hh3 : zeroB pc pi = true ∨ validB pc pi = true := by
    rcases hp.1 with h | h
    · left; unfold zeroB; simp [h]
    · right; unfold validB; simp; omega
  unfold rpB rppB
  simp [h2, hh3]
  omega

set_option maxRecDepth 100000 in
set_option maxHeartbeats 0 in
theorem senv_run (sb : Nat) (nd sl : Int) (w : World) (hn0 : 0 ≤ nd) (hn1 : nd < 10) (hl0 : 1 ≤ sl) (hl1 : sl ≤ 1000000) (hs : SrcOk w sb) :
    Calls Try.prog 34 #[.pointer (some ⟨sb, 0, none⟩), .int .i64 nd, .int .i64 sl, .int .i64 5] w (SEnv sb nd sl w) := by
  have hsl := hs.lt
  have HS0 := Lib.hid (hs.alloc (.cells #[.int .i64 0, .int .i64 0, .int .i64 0, .int .i64 0, .slice none 0 0, .slice none 0 0, .int .i64 0, .int .i64 0, .string ⟨#[]⟩, .int .i64 0, .string ⟨#[]⟩, .int .i64 0, .string ⟨#[]⟩, .int .i64 0, .int .i64 0] 44))
  have HR0 := Lib.hid (show (w.alloc (.cells #[.int .i64 0, .int .i64 0, .int .i64 0, .int .i64 0, .slice none 0 0, .slice none 0 0, .int .i64 0, .int .i64 0, .string ⟨#[]⟩, .int .i64 0, .string ⟨#[]⟩, .int .i64 0, .string ⟨#[]⟩, .int .i64 0, .int .i64 0] 44)).heap[w.heap.size]? = some (.cells #[.int .i64 0, .int .i64 0, .int .i64 0, .int .i64 0, .slice none 0 0, .slice none 0 0, .int .i64 0, .int .i64 0, .string ⟨#[]⟩, .int .i64 0, .string ⟨#[]⟩, .int .i64 0, .string ⟨#[]⟩, .int .i64 0, .int .i64 0] 44 (0, 0)) from heap_alloc_new _ _)
  have HB0 := Lib.hid (grown_below (r := some sb) (balloc (bref w) (.cells #[.int .i64 0, .int .i64 0, .int .i64 0, .int .i64 0, .slice none 0 0, .slice none 0 0, .int .i64 0, .int .i64 0, .string ⟨#[]⟩, .int .i64 0, .string ⟨#[]⟩, .int .i64 0, .string ⟨#[]⟩, .int .i64 0, .int .i64 0] 44)))
  clear hs
  go_enter Try.func34, Try.ntmps34
  go_upto_region 1 with fail
  generalize w.alloc (.cells #[.int .i64 0, .int .i64 0, .int .i64 0, .int .i64 0, .slice none 0 0, .slice none 0 0, .int .i64 0, .int .i64 0, .string ⟨#[]⟩, .int .i64 0, .string ⟨#[]⟩, .int .i64 0, .string ⟨#[]⟩, .int .i64 0, .int .i64 0] 44) = W0 at *
  generalize hg : w.heap.size = g at *
  have HG := Lib.hid hg
  clear hg
  go_wp2_with fail
  refine (Range_run _ _ _ _ (by omega) (by omega) (by omega) HS0.out).mono ?_
  rintro e W1 ⟨sq, hq0, hq1, rfl, hs1, hg1⟩
  have HS1 := Lib.hid hs1
  have HR1 := Lib.hid ((hg1.block g (heapLt HR0.out) (by simp; omega)).trans HR0.out)
  have HB1 := Lib.hid (grown_trans HB0.out hg1)
  clear hs1 hg1 HS0 HR0 HB0
  have hst := strust_run 5 (by omega) (by omega) W1 sb HS1.out
  have HST := Lib.hid hst
  clear hst
  go_wp2_with fail
  refine HST.out.mono ?_
  rintro e W2 ⟨t, A1, A2, n1, k1, n2, k2, T, rfl, hT, hF, hs2, hg2⟩
  have HFine := Lib.hid hF
  have H3 := Lib.hid (show ES w sb g W2.heap.size (.int .i64 nd) (.int .i64 sl) (.int .i64 sq) (.int .i64 t) (.slice A1 n1 k1) (.slice A2 n2 k2) (.int .i64 0) (.int .i64 0) (.string (valOf 0)) (.int .i64 0) (.string (valOf 0)) (.int .i64 0) (.string (valOf 0)) (.int .i64 0) (.int .i64 0) T (W2.alloc (.cells #[.int .i64 nd, .int .i64 sl, .int .i64 sq, .int .i64 t, .slice A1 n1 k1, .slice A2 n2 k2, .int .i64 0, .int .i64 0, .string ⟨#[]⟩, .int .i64 0, .string ⟨#[]⟩, .int .i64 0, .string ⟨#[]⟩, .int .i64 0, .int .i64 0] 44)) from by
    have hz := hg2.size
    have hgl := heapLt HR1.out
    have hba := balloc (bref W2) (.cells #[.int .i64 nd, .int .i64 sl, .int .i64 sq, .int .i64 t, .slice A1 n1 k1, .slice A2 n2 k2, .int .i64 0, .int .i64 0, .string ⟨#[]⟩, .int .i64 0, .string ⟨#[]⟩, .int .i64 0, .string ⟨#[]⟩, .int .i64 0, .int .i64 0] 44)
    have hR2 := (hg2.block g hgl (by simp; omega)).trans HR1.out
    refine ⟨heap_alloc_new _ _, (Below.heap_alloc _ _ _ (by omega)).trans hR2, (TAt.imp (fun q hq hP => ⟨by have : W1.heap.size ≤ q := hP; omega, by omega⟩) hT).below hba, hs2.alloc _, grown_trans (grown_trans HB1.out hg2) (grown_below hba), hsl, HG.out, by omega⟩)
  clear hT hF hs2 hg2 HST HS1 HR1 HB1
  go_upto_region 2 with fail
  generalize W2.alloc (.cells #[.int .i64 nd, .int .i64 sl, .int .i64 sq, .int .i64 t, .slice A1 n1 k1, .slice A2 n2 k2, .int .i64 0, .int .i64 0, .string ⟨#[]⟩, .int .i64 0, .string ⟨#[]⟩, .int .i64 0, .string ⟨#[]⟩, .int .i64 0, .int .i64 0] 44) = W3 at *
  generalize W2.heap.size = eb at *
  go_wp2_with fail
  refine (Value_run _ _ H3.out.src).mono ?_
  rintro e W4 ⟨bi, hb0, hb1, rfl, hs1, hg1⟩
  have H4 := Lib.hid (H3.out.grown hs1 hg1)
  clear hs1 hg1 H3
  go_wp2_with fail
  refine (N_run _ _ _ (by omega) (by omega) H4.out.src).mono ?_
  rintro e W5 ⟨k, hk0, hk1, rfl, hs1, hg1⟩
  have H5 := Lib.hid (H4.out.grown hs1 hg1)
  clear hs1 hg1 H4
  go_upto_block 0 with fail
  go_cut [23] (fun a W => Hid (SG w sb g eb nd sl sq t n1 k1 n2 k2 A1 A2 T bi W))
  case first =>
    go_upto_block 3 with fail
    go_cut [24] (fun a W => Hid (ES w sb g eb (.int .i64 nd) (.int .i64 sl) (.int .i64 sq) (.int .i64 t) (.slice A1 n1 k1) (.slice A2 n2 k2) (.int .i64 0) (.int .i64 0) (.string (valOf 0)) (.int .i64 0) (.string (valOf 0)) (.int .i64 0) (.string (valOf 0)) (.int .i64 0) (.int .i64 0) T W))
    case first =>
      by_cases h0 : k = 0
      · skip
        have e0 : (k == 0) = true := by rw [beq_iff_eq]; exact h0
        clear h0
        go_wp2_with fail
        refine (Range_run _ _ _ _ (by omega) (by omega) (by omega) H5.out.src).mono ?_
        rintro e W6 ⟨bc, hc0, hc1, rfl, hs1, hg1⟩
        have H6 := Lib.hid (H5.out.grown hs1 hg1)
        clear hs1 hg1 H5
        have x6 : W6.cell? ⟨eb, 6, none⟩ = some (.int .i64 0) := cell_of_row _ _ 6 _ _ (0, 0) H6.out.e
        have x7 : W6.cell? ⟨eb, 7, none⟩ = some (.int .i64 0) := cell_of_row _ _ 7 _ _ (0, 0) H6.out.e
        have x8 : W6.cell? ⟨eb, 8, none⟩ = some (.string (valOf 0)) := cell_of_row _ _ 8 _ _ (0, 0) H6.out.e
        have f6 := H6.out.fr 6
        have f7 := H6.out.fr 7
        have f8 := H6.out.fr 8
        have hel := heapLt H6.out.e
        go_upto_region 7 with fail
        have H7 := Lib.hid (((H6.out.set6 (.int .i64 2)).set7 (.int .i64 bc)).set8 (.string (valOf bi)))
        generalize (((W6.setCell ⟨eb, 6, none⟩ (.int .i64 2)).setCell ⟨eb, 7, none⟩ (.int .i64 bc)).setCell ⟨eb, 8, none⟩ (.string (valOf bi))) = W7 at *
        clear hel x6 x7 x8 f6 f7 f8
        clear H6
        go_wp2_with fail
        refine (Range_run _ _ _ _ (by omega) (by omega) (by omega) H7.out.src).mono ?_
        rintro e W8 ⟨lo, hlo0, hlo1, rfl, hs1, hg1⟩
        have H8 := Lib.hid (H7.out.grown hs1 hg1)
        clear hs1 hg1 H7
        have x13 : W8.cell? ⟨eb, 13, none⟩ = some (.int .i64 0) := cell_of_row _ _ 13 _ _ (0, 0) H8.out.e
        have f13 := H8.out.fr 13
        have hel := heapLt H8.out.e
        go_upto_region 8 with fail
        have H9 := Lib.hid (H8.out.set13 (.int .i64 lo))
        generalize (W8.setCell ⟨eb, 13, none⟩ (.int .i64 lo)) = W9 at *
        clear hel x13 f13
        clear H8
        go_upto_region 8 with fail
        have x13 : W9.cell? ⟨eb, 13, none⟩ = some (.int .i64 lo) := cell_of_row _ _ 13 _ _ (0, 0) H9.out.e
        have x14 : W9.cell? ⟨eb, 14, none⟩ = some (.int .i64 0) := cell_of_row _ _ 14 _ _ (0, 0) H9.out.e
        have f14 := H9.out.fr 14
        have hel := heapLt H9.out.e
        have hwr : ∀ z : Int, 0 ≤ z → z < 3 → IntKind.i64.wrap (lo + z) = lo + z := fun z z0 z1 => IntWalk.i64_in _ (by omega)
        have HWR := Lib.hid hwr
        clear hwr
        have hS6 := Lib.hid (show W9.drew.cell? ⟨eb, 13, none⟩ = some (.int .i64 lo) ∧ ∃ a14, ES w sb g eb (.int .i64 nd) (.int .i64 sl) (.int .i64 sq) (.int .i64 t) (.slice A1 n1 k1) (.slice A2 n2 k2) (.int .i64 2) (.int .i64 bc) (.string (valOf bi)) (.int .i64 0) (.string (valOf 0)) (.int .i64 0) (.string (valOf 0)) (.int .i64 lo) a14 T W9.drew from ⟨x13, _, H9.out.bl (W' := W9.drew) ⟨rfl, rfl, rfl, Nat.le_refl _, fun _ _ => rfl⟩⟩)
        go_region_held3 (fun W => W.cell? ⟨eb, 13, none⟩ = some (.int .i64 lo) ∧ ∃ a14, ES w sb g eb (.int .i64 nd) (.int .i64 sl) (.int .i64 sq) (.int .i64 t) (.slice A1 n1 k1) (.slice A2 n2 k2) (.int .i64 2) (.int .i64 bc) (.string (valOf bi)) (.int .i64 0) (.string (valOf 0)) (.int .i64 0) (.string (valOf 0)) (.int .i64 lo) a14 T W) (first | (with_reducible exact hS6.out) | (with_reducible exact hSK) | (with_reducible exact hSX) | go_keep)
          ((go_at_call 16; refine (N_run _ _ _ (by omega) (by omega) (by exact H9.out.src)).mono ?_; rintro e WK ⟨r14, r140, r141, rfl, hs1, hg1⟩; have hg2 : W9.grownBy WK (some sb) := ⟨hg1.os, hg1.tape, hg1.output, hg1.size, hg1.block⟩; have hK := H9.out.grown hs1 hg2; have hSK : WK.cell? ⟨eb, 13, none⟩ = some (.int .i64 lo) ∧ ∃ a14, ES w sb g eb (.int .i64 nd) (.int .i64 sl) (.int .i64 sq) (.int .i64 t) (.slice A1 n1 k1) (.slice A2 n2 k2) (.int .i64 2) (.int .i64 bc) (.string (valOf bi)) (.int .i64 0) (.string (valOf 0)) (.int .i64 0) (.string (valOf 0)) (.int .i64 lo) a14 T WK := ⟨cell_of_row _ _ 13 _ _ (0, 0) hK.e, _, hK⟩; have y14 : WK.cell? ⟨eb, 14, none⟩ = some (.int .i64 0) := cell_of_row _ _ 14 _ _ (0, 0) hK.e; have z14 := hK.fr 14; have hel2 := heapLt hK.e; have hwz := HWR.out r14 r140 r141; have hSX : (WK.setCell ⟨eb, 14, none⟩ (.int .i64 (lo + r14))).cell? ⟨eb, 13, none⟩ = some (.int .i64 lo) ∧ ∃ a14, ES w sb g eb (.int .i64 nd) (.int .i64 sl) (.int .i64 sq) (.int .i64 t) (.slice A1 n1 k1) (.slice A2 n2 k2) (.int .i64 2) (.int .i64 bc) (.string (valOf bi)) (.int .i64 0) (.string (valOf 0)) (.int .i64 0) (.string (valOf 0)) (.int .i64 lo) a14 T (WK.setCell ⟨eb, 14, none⟩ (.int .i64 (lo + r14))) := ⟨cell_of_row _ _ 13 _ _ (0, 0) (hK.set14 (.int .i64 (lo + r14))).e, _, (hK.set14 (.int .i64 (lo + r14)))⟩))
        have HK10 := Lib.hid (hK.set14 (.int .i64 (lo + r14)))
        clear hs1 hg1 hg2 hK hSK hSX hel2 hwz hS6 HWR hel x13 x14 f14 y14 z14 H9
        generalize (WK.setCell ⟨eb, 14, none⟩ (.int .i64 (lo + r14))) = W10 at *
        go_upto_region 9 with fail
        have x14 : W10.cell? ⟨eb, 14, none⟩ = some (.int .i64 (lo + r14)) := cell_of_row _ _ 14 _ _ (0, 0) HK10.out.e
        have x9 : W10.cell? ⟨eb, 9, none⟩ = some (.int .i64 0) := cell_of_row _ _ 9 _ _ (0, 0) HK10.out.e
        have x10 : W10.cell? ⟨eb, 10, none⟩ = some (.string (valOf 0)) := cell_of_row _ _ 10 _ _ (0, 0) HK10.out.e
        have f9 := HK10.out.fr 9
        have f10 := HK10.out.fr 10
        have hel := heapLt HK10.out.e
        have hwr : ∀ z : Int, 0 ≤ z → z < 3 → IntKind.i64.wrap (lo + r14 + z) = lo + r14 + z := fun z z0 z1 => IntWalk.i64_in _ (by omega)
        have HWR := Lib.hid hwr
        clear hwr
        have hS6 := Lib.hid (show W10.drew.cell? ⟨eb, 14, none⟩ = some (.int .i64 (lo + r14)) ∧ ∃ a9 a10, ES w sb g eb (.int .i64 nd) (.int .i64 sl) (.int .i64 sq) (.int .i64 t) (.slice A1 n1 k1) (.slice A2 n2 k2) (.int .i64 2) (.int .i64 bc) (.string (valOf bi)) a9 a10 (.int .i64 0) (.string (valOf 0)) (.int .i64 lo) (.int .i64 (lo + r14)) T W10.drew from ⟨x14, _, _, HK10.out.bl (W' := W10.drew) ⟨rfl, rfl, rfl, Nat.le_refl _, fun _ _ => rfl⟩⟩)
        go_region_held3 (fun W => W.cell? ⟨eb, 14, none⟩ = some (.int .i64 (lo + r14)) ∧ ∃ a9 a10, ES w sb g eb (.int .i64 nd) (.int .i64 sl) (.int .i64 sq) (.int .i64 t) (.slice A1 n1 k1) (.slice A2 n2 k2) (.int .i64 2) (.int .i64 bc) (.string (valOf bi)) a9 a10 (.int .i64 0) (.string (valOf 0)) (.int .i64 lo) (.int .i64 (lo + r14)) T W) (first | (with_reducible exact hS6.out) | (with_reducible exact hSK) | (with_reducible exact hSX) | go_keep)
          ((go_at_call 16; refine (N_run _ _ _ (by omega) (by omega) (by exact HK10.out.src)).mono ?_; rintro e WK ⟨r9, r90, r91, rfl, hs1, hg1⟩; have hg2 : W10.grownBy WK (some sb) := ⟨hg1.os, hg1.tape, hg1.output, hg1.size, hg1.block⟩; have hK := HK10.out.grown hs1 hg2; have hSK : WK.cell? ⟨eb, 14, none⟩ = some (.int .i64 (lo + r14)) ∧ ∃ a9 a10, ES w sb g eb (.int .i64 nd) (.int .i64 sl) (.int .i64 sq) (.int .i64 t) (.slice A1 n1 k1) (.slice A2 n2 k2) (.int .i64 2) (.int .i64 bc) (.string (valOf bi)) a9 a10 (.int .i64 0) (.string (valOf 0)) (.int .i64 lo) (.int .i64 (lo + r14)) T WK := ⟨cell_of_row _ _ 14 _ _ (0, 0) hK.e, _, _, hK⟩; have y9 : WK.cell? ⟨eb, 9, none⟩ = some (.int .i64 0) := cell_of_row _ _ 9 _ _ (0, 0) hK.e; have z9 := hK.fr 9; have y10 : WK.cell? ⟨eb, 10, none⟩ = some (.string (valOf 0)) := cell_of_row _ _ 10 _ _ (0, 0) hK.e; have z10 := hK.fr 10; have hel2 := heapLt hK.e; have hwz := HWR.out r9 r90 r91; have hSX : ((WK.setCell ⟨eb, 9, none⟩ (.int .i64 (lo + r14 + r9))).setCell ⟨eb, 10, none⟩ (.string (valOf bi))).cell? ⟨eb, 14, none⟩ = some (.int .i64 (lo + r14)) ∧ ∃ a9 a10, ES w sb g eb (.int .i64 nd) (.int .i64 sl) (.int .i64 sq) (.int .i64 t) (.slice A1 n1 k1) (.slice A2 n2 k2) (.int .i64 2) (.int .i64 bc) (.string (valOf bi)) a9 a10 (.int .i64 0) (.string (valOf 0)) (.int .i64 lo) (.int .i64 (lo + r14)) T ((WK.setCell ⟨eb, 9, none⟩ (.int .i64 (lo + r14 + r9))).setCell ⟨eb, 10, none⟩ (.string (valOf bi))) := ⟨cell_of_row _ _ 14 _ _ (0, 0) ((hK.set9 (.int .i64 (lo + r14 + r9))).set10 (.string (valOf bi))).e, _, _, ((hK.set9 (.int .i64 (lo + r14 + r9))).set10 (.string (valOf bi)))⟩))
        have HK11 := Lib.hid ((hK.set9 (.int .i64 (lo + r14 + r9))).set10 (.string (valOf bi)))
        clear hs1 hg1 hg2 hK hSK hSX hel2 hwz hS6 HWR hel x14 x9 x10 f9 y9 z9 f10 y10 z10 HK10
        generalize ((WK.setCell ⟨eb, 9, none⟩ (.int .i64 (lo + r14 + r9))).setCell ⟨eb, 10, none⟩ (.string (valOf bi))) = W11 at *
        go_wp2_with fail
        go_meet
        exact Lib.hid ⟨2, bc, (lo + r14 + r9), 0, lo, (lo + r14), bi, 0, hb1, by omega, hc0, hc1, .inr (.inl rfl), ok_commit hc0 hc1 hlo0 hlo1 r140 r141 r90 r91 hb0 hb1, HK11.out⟩
      · skip
        have e0 : (k == 0) = false := by rw [beq_eq_false_iff_ne]; exact h0
        by_cases h1 : k = 1
        · skip
          have e1 : (k == 1) = true := by rw [beq_iff_eq]; exact h1
          clear h0 h1
          go_wp2_with fail
          refine (N_run _ _ _ (by omega) (by omega) H5.out.src).mono ?_
          rintro e W12 ⟨r3, hr30, hr31, rfl, hs1, hg1⟩
          have H12 := Lib.hid (H5.out.grown hs1 hg1)
          clear hs1 hg1 H5
          by_cases hh3 : 0 < r3
          · skip
            go_wp2_with fail
            refine (Range_run _ _ _ _ (by omega) (by omega) (by omega) H12.out.src).mono ?_
            rintro e W13 ⟨bc, hc0, hc1, rfl, hs1, hg1⟩
            have H13 := Lib.hid (H12.out.grown hs1 hg1)
            clear hs1 hg1 H12
            have x6 : W13.cell? ⟨eb, 6, none⟩ = some (.int .i64 0) := cell_of_row _ _ 6 _ _ (0, 0) H13.out.e
            have x7 : W13.cell? ⟨eb, 7, none⟩ = some (.int .i64 0) := cell_of_row _ _ 7 _ _ (0, 0) H13.out.e
            have x8 : W13.cell? ⟨eb, 8, none⟩ = some (.string (valOf 0)) := cell_of_row _ _ 8 _ _ (0, 0) H13.out.e
            have f6 := H13.out.fr 6
            have f7 := H13.out.fr 7
            have f8 := H13.out.fr 8
            have hel := heapLt H13.out.e
            go_upto_region 12 with fail
            have H14 := Lib.hid (((H13.out.set6 (.int .i64 3)).set7 (.int .i64 bc)).set8 (.string (valOf bi)))
            generalize (((W13.setCell ⟨eb, 6, none⟩ (.int .i64 3)).setCell ⟨eb, 7, none⟩ (.int .i64 bc)).setCell ⟨eb, 8, none⟩ (.string (valOf bi))) = W14 at *
            clear hel x6 x7 x8 f6 f7 f8
            clear H13
            go_wp2_with fail
            refine (Range_run _ _ _ _ (by omega) (by omega) (by omega) H14.out.src).mono ?_
            rintro e W15 ⟨lo, hlo0, hlo1, rfl, hs1, hg1⟩
            have H15 := Lib.hid (H14.out.grown hs1 hg1)
            clear hs1 hg1 H14
            have x13 : W15.cell? ⟨eb, 13, none⟩ = some (.int .i64 0) := cell_of_row _ _ 13 _ _ (0, 0) H15.out.e
            have f13 := H15.out.fr 13
            have hel := heapLt H15.out.e
            go_upto_region 13 with fail
            have H16 := Lib.hid (H15.out.set13 (.int .i64 lo))
            generalize (W15.setCell ⟨eb, 13, none⟩ (.int .i64 lo)) = W16 at *
            clear hel x13 f13
            clear H15
            go_upto_region 13 with fail
            have x13 : W16.cell? ⟨eb, 13, none⟩ = some (.int .i64 lo) := cell_of_row _ _ 13 _ _ (0, 0) H16.out.e
            have x14 : W16.cell? ⟨eb, 14, none⟩ = some (.int .i64 0) := cell_of_row _ _ 14 _ _ (0, 0) H16.out.e
            have f14 := H16.out.fr 14
            have hel := heapLt H16.out.e
            have hwr : ∀ z : Int, 0 ≤ z → z < 3 → IntKind.i64.wrap (lo + z) = lo + z := fun z z0 z1 => IntWalk.i64_in _ (by omega)
            have HWR := Lib.hid hwr
            clear hwr
            have hS6 := Lib.hid (show W16.drew.cell? ⟨eb, 13, none⟩ = some (.int .i64 lo) ∧ ∃ a14, ES w sb g eb (.int .i64 nd) (.int .i64 sl) (.int .i64 sq) (.int .i64 t) (.slice A1 n1 k1) (.slice A2 n2 k2) (.int .i64 3) (.int .i64 bc) (.string (valOf bi)) (.int .i64 0) (.string (valOf 0)) (.int .i64 0) (.string (valOf 0)) (.int .i64 lo) a14 T W16.drew from ⟨x13, _, H16.out.bl (W' := W16.drew) ⟨rfl, rfl, rfl, Nat.le_refl _, fun _ _ => rfl⟩⟩)
            go_region_held3 (fun W => W.cell? ⟨eb, 13, none⟩ = some (.int .i64 lo) ∧ ∃ a14, ES w sb g eb (.int .i64 nd) (.int .i64 sl) (.int .i64 sq) (.int .i64 t) (.slice A1 n1 k1) (.slice A2 n2 k2) (.int .i64 3) (.int .i64 bc) (.string (valOf bi)) (.int .i64 0) (.string (valOf 0)) (.int .i64 0) (.string (valOf 0)) (.int .i64 lo) a14 T W) (first | (with_reducible exact hS6.out) | (with_reducible exact hSK) | (with_reducible exact hSX) | go_keep)
              ((go_at_call 16; refine (N_run _ _ _ (by omega) (by omega) (by exact H16.out.src)).mono ?_; rintro e WK ⟨r14, r140, r141, rfl, hs1, hg1⟩; have hg2 : W16.grownBy WK (some sb) := ⟨hg1.os, hg1.tape, hg1.output, hg1.size, hg1.block⟩; have hK := H16.out.grown hs1 hg2; have hSK : WK.cell? ⟨eb, 13, none⟩ = some (.int .i64 lo) ∧ ∃ a14, ES w sb g eb (.int .i64 nd) (.int .i64 sl) (.int .i64 sq) (.int .i64 t) (.slice A1 n1 k1) (.slice A2 n2 k2) (.int .i64 3) (.int .i64 bc) (.string (valOf bi)) (.int .i64 0) (.string (valOf 0)) (.int .i64 0) (.string (valOf 0)) (.int .i64 lo) a14 T WK := ⟨cell_of_row _ _ 13 _ _ (0, 0) hK.e, _, hK⟩; have y14 : WK.cell? ⟨eb, 14, none⟩ = some (.int .i64 0) := cell_of_row _ _ 14 _ _ (0, 0) hK.e; have z14 := hK.fr 14; have hel2 := heapLt hK.e; have hwz := HWR.out r14 r140 r141; have hSX : (WK.setCell ⟨eb, 14, none⟩ (.int .i64 (lo + r14))).cell? ⟨eb, 13, none⟩ = some (.int .i64 lo) ∧ ∃ a14, ES w sb g eb (.int .i64 nd) (.int .i64 sl) (.int .i64 sq) (.int .i64 t) (.slice A1 n1 k1) (.slice A2 n2 k2) (.int .i64 3) (.int .i64 bc) (.string (valOf bi)) (.int .i64 0) (.string (valOf 0)) (.int .i64 0) (.string (valOf 0)) (.int .i64 lo) a14 T (WK.setCell ⟨eb, 14, none⟩ (.int .i64 (lo + r14))) := ⟨cell_of_row _ _ 13 _ _ (0, 0) (hK.set14 (.int .i64 (lo + r14))).e, _, (hK.set14 (.int .i64 (lo + r14)))⟩))
            have HK17 := Lib.hid (hK.set14 (.int .i64 (lo + r14)))
            clear hs1 hg1 hg2 hK hSK hSX hel2 hwz hS6 HWR hel x13 x14 f14 y14 z14 H16
            generalize (WK.setCell ⟨eb, 14, none⟩ (.int .i64 (lo + r14))) = W17 at *
            go_wp2_with fail
            go_meet
            exact Lib.hid ⟨3, bc, 0, 0, lo, (lo + r14), 0, 0, by omega, by omega, hc0, hc1, .inr (.inr ⟨rfl, rfl, rfl⟩), ok_ext hlo0 hlo1 r140 r141, HK17.out⟩
          · skip
            go_wp2_with fail
            go_meet
            exact H12
        · skip
          have e1 : (k == 1) = false := by rw [beq_eq_false_iff_ne]; exact h1
          clear h0 h1
          go_wp2_with fail
          go_meet
          exact H5
    case rest =>
      have HD := hcut
      clear hcut H5
      go_wp2_with fail
      refine (Range_run _ _ _ _ (by omega) (by omega) (by omega) HD.out.src).mono ?_
      rintro e W18 ⟨bc, hc0, hc1, rfl, hs1, hg1⟩
      have H18 := Lib.hid (HD.out.grown hs1 hg1)
      clear hs1 hg1 HD
      have x6 : W18.cell? ⟨eb, 6, none⟩ = some (.int .i64 0) := cell_of_row _ _ 6 _ _ (0, 0) H18.out.e
      have x7 : W18.cell? ⟨eb, 7, none⟩ = some (.int .i64 0) := cell_of_row _ _ 7 _ _ (0, 0) H18.out.e
      have x8 : W18.cell? ⟨eb, 8, none⟩ = some (.string (valOf 0)) := cell_of_row _ _ 8 _ _ (0, 0) H18.out.e
      have f6 := H18.out.fr 6
      have f7 := H18.out.fr 7
      have f8 := H18.out.fr 8
      have hel := heapLt H18.out.e
      go_upto_region 15 with fail
      have H19 := Lib.hid (((H18.out.set6 (.int .i64 1)).set7 (.int .i64 bc)).set8 (.string (valOf bi)))
      generalize (((W18.setCell ⟨eb, 6, none⟩ (.int .i64 1)).setCell ⟨eb, 7, none⟩ (.int .i64 bc)).setCell ⟨eb, 8, none⟩ (.string (valOf bi))) = W19 at *
      clear hel x6 x7 x8 f6 f7 f8
      clear H18
      have HVB := Lib.hid (vb_small hc0 hc1 hb0)
      go_wp2_with fail
      refine (N_run _ _ _ (by omega) (by omega) H19.out.src).mono ?_
      rintro e W20 ⟨rp, hrp0, hrp1, rfl, hs1, hg1⟩
      have H20 := Lib.hid (H19.out.grown hs1 hg1)
      clear hs1 hg1 H19
      go_upto_if 76 with fail
      go_cut [78] (fun a W => ∃ (pc qc : Int) (pi qi : Nat), Hid (PQ pc pi qc qi) ∧ Hid (ES w sb g eb (.int .i64 nd) (.int .i64 sl) (.int .i64 sq) (.int .i64 t) (.slice A1 n1 k1) (.slice A2 n2 k2) (.int .i64 1) (.int .i64 bc) (.string (valOf bi)) (.int .i64 pc) (.string (valOf pi)) (.int .i64 qc) (.string (valOf qi)) (.int .i64 0) (.int .i64 0) T W))
      case first =>
        by_cases hrp : 0 < rp
        · skip
          go_wp2_with fail
          refine (Low_run _ _ H20.out.src).mono ?_
          rintro e W21 ⟨pc, pi, hpc0, hpc1, hpi0, hpi1, rfl, hs1, hg1⟩
          have H21 := Lib.hid (H20.out.grown hs1 hg1)
          clear hs1 hg1 H20
          have x9 : W21.cell? ⟨eb, 9, none⟩ = some (.int .i64 0) := cell_of_row _ _ 9 _ _ (0, 0) H21.out.e
          have x10 : W21.cell? ⟨eb, 10, none⟩ = some (.string (valOf 0)) := cell_of_row _ _ 10 _ _ (0, 0) H21.out.e
          have f9 := H21.out.fr 9
          have f10 := H21.out.fr 10
          have hel := heapLt H21.out.e
          go_upto_region 17 with fail
          have H22 := Lib.hid ((H21.out.set9 (.int .i64 pc)).set10 (.string (valOf pi)))
          generalize ((W21.setCell ⟨eb, 9, none⟩ (.int .i64 pc)).setCell ⟨eb, 10, none⟩ (.string (valOf pi))) = W22 at *
          clear hel x9 x10 f9 f10
          clear H21
          go_wp2_with fail
          refine (N_run _ _ _ (by omega) (by omega) H22.out.src).mono ?_
          rintro e W23 ⟨rq, hrq0, hrq1, rfl, hs1, hg1⟩
          have H23 := Lib.hid (H22.out.grown hs1 hg1)
          clear hs1 hg1 H22
          by_cases hrq : rq = 1
          · skip
            have erq : (rq == 1) = true := by rw [beq_iff_eq]; exact hrq
            clear hrq
            go_wp2_with fail
            refine (Low_run _ _ H23.out.src).mono ?_
            rintro e W24 ⟨qc, qi, hqc0, hqc1, hqi0, hqi1, rfl, hs1, hg1⟩
            have H24 := Lib.hid (H23.out.grown hs1 hg1)
            clear hs1 hg1 H23
            have x11 : W24.cell? ⟨eb, 11, none⟩ = some (.int .i64 0) := cell_of_row _ _ 11 _ _ (0, 0) H24.out.e
            have x12 : W24.cell? ⟨eb, 12, none⟩ = some (.string (valOf 0)) := cell_of_row _ _ 12 _ _ (0, 0) H24.out.e
            have f11 := H24.out.fr 11
            have f12 := H24.out.fr 12
            have hel := heapLt H24.out.e
            go_wp2_with fail
            have H25 := Lib.hid ((H24.out.set11 (.int .i64 qc)).set12 (.string (valOf qi)))
            generalize ((W24.setCell ⟨eb, 11, none⟩ (.int .i64 qc)).setCell ⟨eb, 12, none⟩ (.string (valOf qi))) = W25 at *
            clear hel x11 x12 f11 f12
            clear H24
            go_meet
            exact ⟨pc, qc, pi, qi, Lib.hid ⟨.inr ⟨hpc0, hpc1, hpi0, hpi1⟩, .inr ⟨hqc0, hqc1, hqi0, hqi1⟩⟩, H25⟩
          · skip
            have erq : (rq == 1) = false := by rw [beq_eq_false_iff_ne]; exact hrq
            go_wp2_with fail
            go_meet
            exact ⟨pc, 0, pi, 0, Lib.hid ⟨.inr ⟨hpc0, hpc1, hpi0, hpi1⟩, .inl ⟨rfl, rfl⟩⟩, H23⟩
        · skip
          go_wp2_with fail
          go_meet
          exact ⟨0, 0, 0, 0, Lib.hid ⟨.inl ⟨rfl, rfl⟩, .inl ⟨rfl, rfl⟩⟩, H20⟩
      case rest =>
        obtain ⟨pc, qc, pi, qi, HPQ, H26⟩ := hcut
        clear H20
        have hpq := HPQ.out.bd
        have x7 : wc.cell? ⟨eb, 7, none⟩ = some (.int .i64 bc) := cell_of_row _ _ 7 _ _ (0, 0) H26.out.e
        have hel := heapLt H26.out.e
        go_wp2_with fail
        refine (N_run _ _ _ (by omega) (by omega) H26.out.src).mono ?_
        rintro e W27 ⟨hi, hhi0, hhi1, rfl, hs1, hg1⟩
        have H27 := Lib.hid (H26.out.grown hs1 hg1)
        clear hs1 hg1 H26
        clear hel x7 
        have x14 : W27.cell? ⟨eb, 14, none⟩ = some (.int .i64 0) := cell_of_row _ _ 14 _ _ (0, 0) H27.out.e
        have f14 := H27.out.fr 14
        have hel := heapLt H27.out.e
        go_upto_region 20 with fail
        have H28 := Lib.hid (H27.out.set14 (.int .i64 hi))
        generalize (W27.setCell ⟨eb, 14, none⟩ (.int .i64 hi)) = W28 at *
        clear hel x14 f14
        clear H27
        have x14 : W28.cell? ⟨eb, 14, none⟩ = some (.int .i64 hi) := cell_of_row _ _ 14 _ _ (0, 0) H28.out.e
        have hel := heapLt H28.out.e
        go_wp2_with fail
        refine (N_run _ _ _ (by omega) (by omega) H28.out.src).mono ?_
        rintro e W29 ⟨lo, hlo0, hlo1, rfl, hs1, hg1⟩
        have H29 := Lib.hid (H28.out.grown hs1 hg1)
        clear hs1 hg1 H28
        clear hel x14 
        have x13 : W29.cell? ⟨eb, 13, none⟩ = some (.int .i64 0) := cell_of_row _ _ 13 _ _ (0, 0) H29.out.e
        have f13 := H29.out.fr 13
        have hel := heapLt H29.out.e
        go_upto_region 21 with fail
        have H30 := Lib.hid (H29.out.set13 (.int .i64 lo))
        generalize (W29.setCell ⟨eb, 13, none⟩ (.int .i64 lo)) = W30 at *
        clear hel x13 f13
        clear H29
        have x0 : W30.cell? ⟨eb, 0, none⟩ = some (.int .i64 nd) := cell_of_row _ _ 0 _ _ (0, 0) H30.out.e
        have x1 : W30.cell? ⟨eb, 1, none⟩ = some (.int .i64 sl) := cell_of_row _ _ 1 _ _ (0, 0) H30.out.e
        have x2 : W30.cell? ⟨eb, 2, none⟩ = some (.int .i64 sq) := cell_of_row _ _ 2 _ _ (0, 0) H30.out.e
        have x3 : W30.cell? ⟨eb, 3, none⟩ = some (.int .i64 t) := cell_of_row _ _ 3 _ _ (0, 0) H30.out.e
        have x4 : W30.cell? ⟨eb, 4, none⟩ = some (.slice A1 n1 k1) := cell_of_row _ _ 4 _ _ (0, 0) H30.out.e
        have x5 : W30.cell? ⟨eb, 5, none⟩ = some (.slice A2 n2 k2) := cell_of_row _ _ 5 _ _ (0, 0) H30.out.e
        have x6 : W30.cell? ⟨eb, 6, none⟩ = some (.int .i64 1) := cell_of_row _ _ 6 _ _ (0, 0) H30.out.e
        have x7 : W30.cell? ⟨eb, 7, none⟩ = some (.int .i64 bc) := cell_of_row _ _ 7 _ _ (0, 0) H30.out.e
        have x8 : W30.cell? ⟨eb, 8, none⟩ = some (.string (valOf bi)) := cell_of_row _ _ 8 _ _ (0, 0) H30.out.e
        have x9 : W30.cell? ⟨eb, 9, none⟩ = some (.int .i64 pc) := cell_of_row _ _ 9 _ _ (0, 0) H30.out.e
        have x10 : W30.cell? ⟨eb, 10, none⟩ = some (.string (valOf pi)) := cell_of_row _ _ 10 _ _ (0, 0) H30.out.e
        have x11 : W30.cell? ⟨eb, 11, none⟩ = some (.int .i64 qc) := cell_of_row _ _ 11 _ _ (0, 0) H30.out.e
        have x12 : W30.cell? ⟨eb, 12, none⟩ = some (.string (valOf qi)) := cell_of_row _ _ 12 _ _ (0, 0) H30.out.e
        have x13 : W30.cell? ⟨eb, 13, none⟩ = some (.int .i64 lo) := cell_of_row _ _ 13 _ _ (0, 0) H30.out.e
        have x14 : W30.cell? ⟨eb, 14, none⟩ = some (.int .i64 hi) := cell_of_row _ _ 14 _ _ (0, 0) H30.out.e
        have hel := heapLt H30.out.e
        go_wp2_with fail
        refine (r24_run _ _ _ _ _ _ _ _ _ _ _ _ _ _ _ _ _ _ _ _ hn0 hn1 hl0 hl1 hq0 (by omega) rfl hb1 hpq.1 hpq.2 HVB.out H30.out.tat HFine.out).mono ?_
        rintro e W31 ⟨rfl, hb⟩
        have H31 := Lib.hid (H30.out.bl hb)
        clear hel x0 x1 x2 x3 x4 x5 x6 x7 x8 x9 x10 x11 x12 x13 x14 
        clear hb H30
        go_upto_if 101 with fail
        go_cut [102] (fun a W => ∃ (l2 : Int), 0 ≤ l2 ∧ l2 ≤ hi ∧ Hid (rpB bc bi pc pi qc qi l2 hi = true ∨ l2 = 0) ∧ Hid (ES w sb g eb (.int .i64 nd) (.int .i64 sl) (.int .i64 sq) (.int .i64 t) (.slice A1 n1 k1) (.slice A2 n2 k2) (.int .i64 1) (.int .i64 bc) (.string (valOf bi)) (.int .i64 pc) (.string (valOf pi)) (.int .i64 qc) (.string (valOf qi)) (.int .i64 l2) (.int .i64 hi) T W))
        case first =>
          cases hz : rpB bc bi pc pi qc qi lo hi
          · skip
            have x13 : W31.cell? ⟨eb, 13, none⟩ = some (.int .i64 lo) := cell_of_row _ _ 13 _ _ (0, 0) H31.out.e
            have f13 := H31.out.fr 13
            have hel := heapLt H31.out.e
            go_wp2_with fail
            have H32 := Lib.hid (H31.out.set13 (.int .i64 0))
            generalize (W31.setCell ⟨eb, 13, none⟩ (.int .i64 0)) = W32 at *
            clear hel x13 f13
            go_meet
            exact ⟨0, by omega, by omega, Lib.hid (.inr rfl), H32⟩
          · skip
            have HZ := Lib.hid hz
            clear hz
            go_wp2_with fail
            go_meet
            exact ⟨lo, by omega, by omega, Lib.hid (.inl HZ.out), H31⟩
        case rest =>
          obtain ⟨l2, hl20, hl21, HO2, H33⟩ := hcut
          clear H31
          have x0 : wc.cell? ⟨eb, 0, none⟩ = some (.int .i64 nd) := cell_of_row _ _ 0 _ _ (0, 0) H33.out.e
          have x1 : wc.cell? ⟨eb, 1, none⟩ = some (.int .i64 sl) := cell_of_row _ _ 1 _ _ (0, 0) H33.out.e
          have x2 : wc.cell? ⟨eb, 2, none⟩ = some (.int .i64 sq) := cell_of_row _ _ 2 _ _ (0, 0) H33.out.e
          have x3 : wc.cell? ⟨eb, 3, none⟩ = some (.int .i64 t) := cell_of_row _ _ 3 _ _ (0, 0) H33.out.e
          have x4 : wc.cell? ⟨eb, 4, none⟩ = some (.slice A1 n1 k1) := cell_of_row _ _ 4 _ _ (0, 0) H33.out.e
          have x5 : wc.cell? ⟨eb, 5, none⟩ = some (.slice A2 n2 k2) := cell_of_row _ _ 5 _ _ (0, 0) H33.out.e
          have x6 : wc.cell? ⟨eb, 6, none⟩ = some (.int .i64 1) := cell_of_row _ _ 6 _ _ (0, 0) H33.out.e
          have x7 : wc.cell? ⟨eb, 7, none⟩ = some (.int .i64 bc) := cell_of_row _ _ 7 _ _ (0, 0) H33.out.e
          have x8 : wc.cell? ⟨eb, 8, none⟩ = some (.string (valOf bi)) := cell_of_row _ _ 8 _ _ (0, 0) H33.out.e
          have x9 : wc.cell? ⟨eb, 9, none⟩ = some (.int .i64 pc) := cell_of_row _ _ 9 _ _ (0, 0) H33.out.e
          have x10 : wc.cell? ⟨eb, 10, none⟩ = some (.string (valOf pi)) := cell_of_row _ _ 10 _ _ (0, 0) H33.out.e
          have x11 : wc.cell? ⟨eb, 11, none⟩ = some (.int .i64 qc) := cell_of_row _ _ 11 _ _ (0, 0) H33.out.e
          have x12 : wc.cell? ⟨eb, 12, none⟩ = some (.string (valOf qi)) := cell_of_row _ _ 12 _ _ (0, 0) H33.out.e
          have x13 : wc.cell? ⟨eb, 13, none⟩ = some (.int .i64 l2) := cell_of_row _ _ 13 _ _ (0, 0) H33.out.e
          have x14 : wc.cell? ⟨eb, 14, none⟩ = some (.int .i64 hi) := cell_of_row _ _ 14 _ _ (0, 0) H33.out.e
          have hel := heapLt H33.out.e
          go_wp2_with fail
          refine (r24_run _ _ _ _ _ _ _ _ _ _ _ _ _ _ _ _ _ _ _ _ hn0 hn1 hl0 hl1 hq0 (by omega) rfl hb1 hpq.1 hpq.2 HVB.out H33.out.tat HFine.out).mono ?_
          rintro e W34 ⟨rfl, hb⟩
          have H34 := Lib.hid (H33.out.bl hb)
          clear hel x0 x1 x2 x3 x4 x5 x6 x7 x8 x9 x10 x11 x12 x13 x14 
          clear hb H33
          go_upto_if 105 with fail
          go_cut [106] (fun a W => ∃ (l3 hh3 : Int), Hid (rpB bc bi pc pi qc qi l3 hh3 = true ∨ (l3 = 0 ∧ hh3 = 0)) ∧ Hid (ES w sb g eb (.int .i64 nd) (.int .i64 sl) (.int .i64 sq) (.int .i64 t) (.slice A1 n1 k1) (.slice A2 n2 k2) (.int .i64 1) (.int .i64 bc) (.string (valOf bi)) (.int .i64 pc) (.string (valOf pi)) (.int .i64 qc) (.string (valOf qi)) (.int .i64 l3) (.int .i64 hh3) T W))
          case first =>
            cases hz : rpB bc bi pc pi qc qi l2 hi
            · skip
              have HZ := Lib.hid hz
              clear hz
              have x14 : W34.cell? ⟨eb, 14, none⟩ = some (.int .i64 hi) := cell_of_row _ _ 14 _ _ (0, 0) H34.out.e
              have f14 := H34.out.fr 14
              have hel := heapLt H34.out.e
              go_wp2_with fail
              have H35 := Lib.hid (H34.out.set14 (.int .i64 0))
              generalize (W34.setCell ⟨eb, 14, none⟩ (.int .i64 0)) = W35 at *
              clear hel x14 f14
              go_meet
              exact ⟨l2, 0, Lib.hid (.inr ⟨HO2.out.resolve_left (by rw [HZ.out]; simp), rfl⟩), H35⟩
            · skip
              have HZ := Lib.hid hz
              clear hz
              go_wp2_with fail
              go_meet
              exact ⟨l2, hi, Lib.hid (.inl HZ.out), H34⟩
          case rest =>
            obtain ⟨l3, hh3, HO3, H36⟩ := hcut
            clear H34 HO2
            have x0 : wc.cell? ⟨eb, 0, none⟩ = some (.int .i64 nd) := cell_of_row _ _ 0 _ _ (0, 0) H36.out.e
            have x1 : wc.cell? ⟨eb, 1, none⟩ = some (.int .i64 sl) := cell_of_row _ _ 1 _ _ (0, 0) H36.out.e
            have x2 : wc.cell? ⟨eb, 2, none⟩ = some (.int .i64 sq) := cell_of_row _ _ 2 _ _ (0, 0) H36.out.e
            have x3 : wc.cell? ⟨eb, 3, none⟩ = some (.int .i64 t) := cell_of_row _ _ 3 _ _ (0, 0) H36.out.e
            have x4 : wc.cell? ⟨eb, 4, none⟩ = some (.slice A1 n1 k1) := cell_of_row _ _ 4 _ _ (0, 0) H36.out.e
            have x5 : wc.cell? ⟨eb, 5, none⟩ = some (.slice A2 n2 k2) := cell_of_row _ _ 5 _ _ (0, 0) H36.out.e
            have x6 : wc.cell? ⟨eb, 6, none⟩ = some (.int .i64 1) := cell_of_row _ _ 6 _ _ (0, 0) H36.out.e
            have x7 : wc.cell? ⟨eb, 7, none⟩ = some (.int .i64 bc) := cell_of_row _ _ 7 _ _ (0, 0) H36.out.e
            have x8 : wc.cell? ⟨eb, 8, none⟩ = some (.string (valOf bi)) := cell_of_row _ _ 8 _ _ (0, 0) H36.out.e
            have x9 : wc.cell? ⟨eb, 9, none⟩ = some (.int .i64 pc) := cell_of_row _ _ 9 _ _ (0, 0) H36.out.e
            have x10 : wc.cell? ⟨eb, 10, none⟩ = some (.string (valOf pi)) := cell_of_row _ _ 10 _ _ (0, 0) H36.out.e
            have x11 : wc.cell? ⟨eb, 11, none⟩ = some (.int .i64 qc) := cell_of_row _ _ 11 _ _ (0, 0) H36.out.e
            have x12 : wc.cell? ⟨eb, 12, none⟩ = some (.string (valOf qi)) := cell_of_row _ _ 12 _ _ (0, 0) H36.out.e
            have x13 : wc.cell? ⟨eb, 13, none⟩ = some (.int .i64 l3) := cell_of_row _ _ 13 _ _ (0, 0) H36.out.e
            have x14 : wc.cell? ⟨eb, 14, none⟩ = some (.int .i64 hh3) := cell_of_row _ _ 14 _ _ (0, 0) H36.out.e
            have hel := heapLt H36.out.e
            go_wp2_with fail
            refine (r24_run _ _ _ _ _ _ _ _ _ _ _ _ _ _ _ _ _ _ _ _ hn0 hn1 hl0 hl1 hq0 (by omega) rfl hb1 hpq.1 hpq.2 HVB.out H36.out.tat HFine.out).mono ?_
            rintro e W37 ⟨rfl, hb⟩
            have H37 := Lib.hid (H36.out.bl hb)
            clear hel x0 x1 x2 x3 x4 x5 x6 x7 x8 x9 x10 x11 x12 x13 x14 
            clear hb H36
            go_upto_if 109 with fail
            go_cut [110] (fun a W => ∃ (c4 : Int) (j4 : Nat), j4 ≤ 4 ∧ Hid (rpB bc bi pc pi c4 j4 l3 hh3 = true) ∧ Hid (ES w sb g eb (.int .i64 nd) (.int .i64 sl) (.int .i64 sq) (.int .i64 t) (.slice A1 n1 k1) (.slice A2 n2 k2) (.int .i64 1) (.int .i64 bc) (.string (valOf bi)) (.int .i64 pc) (.string (valOf pi)) (.int .i64 c4) (.string (valOf j4)) (.int .i64 l3) (.int .i64 hh3) T W))
            case first =>
              cases hz : rpB bc bi pc pi qc qi l3 hh3
              · skip
                have HZ := Lib.hid hz
                clear hz
                have x11 : W37.cell? ⟨eb, 11, none⟩ = some (.int .i64 qc) := cell_of_row _ _ 11 _ _ (0, 0) H37.out.e
                have x12 : W37.cell? ⟨eb, 12, none⟩ = some (.string (valOf qi)) := cell_of_row _ _ 12 _ _ (0, 0) H37.out.e
                have f11 := H37.out.fr 11
                have f12 := H37.out.fr 12
                have hel := heapLt H37.out.e
                go_wp2_with fail
                have H38 := Lib.hid ((H37.out.set11 (.int .i64 0)).set12 (.string ⟨#[]⟩))
                generalize ((W37.setCell ⟨eb, 11, none⟩ (.int .i64 0)).setCell ⟨eb, 12, none⟩ (.string ⟨#[]⟩)) = W38 at *
                clear hel x11 x12 f11 f12
                go_meet
                exact ⟨0, 0, by omega, Lib.hid (ok_zero hc0 hc1 hb0 HPQ.out (HO3.out.resolve_left (by rw [HZ.out]; simp))), H38⟩
              · skip
                have HZ := Lib.hid hz
                clear hz
                go_wp2_with fail
                go_meet
                exact ⟨qc, qi, hpq.2, HZ, H37⟩
            case rest =>
              obtain ⟨c4, j4, hj4, HOK, H39⟩ := hcut
              clear H37 HO3
              go_wp2_with fail
              go_meet
              exact Lib.hid ⟨1, bc, pc, c4, l3, hh3, pi, j4, hpq.1, hj4, hc0, hc1, .inl rfl, HOK.out, H39.out⟩
  case rest =>
    obtain ⟨kd, bc, pc, qc, lo, hi, pi, qi, hp4, hq4, hc0, hc1, hk3, hok, hes⟩ := hcut.out
    have HES := Lib.hid hes
    clear hes hcut H5
    have HK3 := Lib.hid hk3
    have HOK := Lib.hid hok
    clear hk3 hok
    obtain ⟨rr0, rr1, rr2, rr3, rr4, rr5, rr6, rr7, rr8, rr9, rr10, rr11, rr12, rr13, rr14⟩ := HES.out.rcs
    have q0 := HES.out.rfr 0
    have q1 := HES.out.rfr 1
    have q2 := HES.out.rfr 2
    have q3 := HES.out.rfr 3
    have q4 := HES.out.rfr 4
    have q5 := HES.out.rfr 5
    have q6 := HES.out.rfr 6
    have q7 := HES.out.rfr 7
    have q8 := HES.out.rfr 8
    have q9 := HES.out.rfr 9
    have q10 := HES.out.rfr 10
    have q11 := HES.out.rfr 11
    have q12 := HES.out.rfr 12
    have q13 := HES.out.rfr 13
    have q14 := HES.out.rfr 14
    have x0 : wc.cell? ⟨eb, 0, none⟩ = some (.int .i64 nd) := cell_of_row _ _ 0 _ _ (0, 0) HES.out.e
    have x1 : wc.cell? ⟨eb, 1, none⟩ = some (.int .i64 sl) := cell_of_row _ _ 1 _ _ (0, 0) HES.out.e
    have x2 : wc.cell? ⟨eb, 2, none⟩ = some (.int .i64 sq) := cell_of_row _ _ 2 _ _ (0, 0) HES.out.e
    have x3 : wc.cell? ⟨eb, 3, none⟩ = some (.int .i64 t) := cell_of_row _ _ 3 _ _ (0, 0) HES.out.e
    have x4 : wc.cell? ⟨eb, 4, none⟩ = some (.slice A1 n1 k1) := cell_of_row _ _ 4 _ _ (0, 0) HES.out.e
    have x5 : wc.cell? ⟨eb, 5, none⟩ = some (.slice A2 n2 k2) := cell_of_row _ _ 5 _ _ (0, 0) HES.out.e
    have x6 : wc.cell? ⟨eb, 6, none⟩ = some (.int .i64 kd) := cell_of_row _ _ 6 _ _ (0, 0) HES.out.e
    have x7 : wc.cell? ⟨eb, 7, none⟩ = some (.int .i64 bc) := cell_of_row _ _ 7 _ _ (0, 0) HES.out.e
    have x8 : wc.cell? ⟨eb, 8, none⟩ = some (.string (valOf bi)) := cell_of_row _ _ 8 _ _ (0, 0) HES.out.e
    have x9 : wc.cell? ⟨eb, 9, none⟩ = some (.int .i64 pc) := cell_of_row _ _ 9 _ _ (0, 0) HES.out.e
    have x10 : wc.cell? ⟨eb, 10, none⟩ = some (.string (valOf pi)) := cell_of_row _ _ 10 _ _ (0, 0) HES.out.e
    have x11 : wc.cell? ⟨eb, 11, none⟩ = some (.int .i64 qc) := cell_of_row _ _ 11 _ _ (0, 0) HES.out.e
    have x12 : wc.cell? ⟨eb, 12, none⟩ = some (.string (valOf qi)) := cell_of_row _ _ 12 _ _ (0, 0) HES.out.e
    have x13 : wc.cell? ⟨eb, 13, none⟩ = some (.int .i64 lo) := cell_of_row _ _ 13 _ _ (0, 0) HES.out.e
    have x14 : wc.cell? ⟨eb, 14, none⟩ = some (.int .i64 hi) := cell_of_row _ _ 14 _ _ (0, 0) HES.out.e
    have hel := heapLt HES.out.e
    have hrl := heapLt HES.out.res
    have HRS := Lib.hid (set15 HES.out.res (.int .i64 nd) (.int .i64 sl) (.int .i64 sq) (.int .i64 t) (.slice A1 n1 k1) (.slice A2 n2 k2) (.int .i64 kd) (.int .i64 bc) (.string (valOf bi)) (.int .i64 pc) (.string (valOf pi)) (.int .i64 qc) (.string (valOf qi)) (.int .i64 lo) (.int .i64 hi))
    have HF := Lib.hid HES.out.fin
    go_wp2_with fail
    clear hel hrl rr0 q0 x0 rr1 q1 x1 rr2 q2 x2 rr3 q3 x3 rr4 q4 x4 rr5 q5 x5 rr6 q6 x6 rr7 q7 x7 rr8 q8 x8 rr9 q9 x9 rr10 q10 x10 rr11 q11 x11 rr12 q12 x12 rr13 q13 x13 rr14 q14 x14
    generalize (((((((((((((((wc.setCell ⟨g, 0, none⟩ (.int .i64 nd)).setCell ⟨g, 1, none⟩ (.int .i64 sl)).setCell ⟨g, 2, none⟩ (.int .i64 sq)).setCell ⟨g, 3, none⟩ (.int .i64 t)).setCell ⟨g, 4, none⟩ (.slice A1 n1 k1)).setCell ⟨g, 5, none⟩ (.slice A2 n2 k2)).setCell ⟨g, 6, none⟩ (.int .i64 kd)).setCell ⟨g, 7, none⟩ (.int .i64 bc)).setCell ⟨g, 8, none⟩ (.string (valOf bi))).setCell ⟨g, 9, none⟩ (.int .i64 pc)).setCell ⟨g, 10, none⟩ (.string (valOf pi))).setCell ⟨g, 11, none⟩ (.int .i64 qc)).setCell ⟨g, 12, none⟩ (.string (valOf qi))).setCell ⟨g, 13, none⟩ (.int .i64 lo)).setCell ⟨g, 14, none⟩ (.int .i64 hi)) = W99 at *
    have s0 : W99.cell? ⟨g, 0, none⟩ = some (.int .i64 nd) := cell_of_row _ _ 0 _ _ (0, 0) HRS.out
    have s1 : W99.cell? ⟨g, 1, none⟩ = some (.int .i64 sl) := cell_of_row _ _ 1 _ _ (0, 0) HRS.out
    have s2 : W99.cell? ⟨g, 2, none⟩ = some (.int .i64 sq) := cell_of_row _ _ 2 _ _ (0, 0) HRS.out
    have s3 : W99.cell? ⟨g, 3, none⟩ = some (.int .i64 t) := cell_of_row _ _ 3 _ _ (0, 0) HRS.out
    have s4 : W99.cell? ⟨g, 4, none⟩ = some (.slice A1 n1 k1) := cell_of_row _ _ 4 _ _ (0, 0) HRS.out
    have s5 : W99.cell? ⟨g, 5, none⟩ = some (.slice A2 n2 k2) := cell_of_row _ _ 5 _ _ (0, 0) HRS.out
    have s6 : W99.cell? ⟨g, 6, none⟩ = some (.int .i64 kd) := cell_of_row _ _ 6 _ _ (0, 0) HRS.out
    have s7 : W99.cell? ⟨g, 7, none⟩ = some (.int .i64 bc) := cell_of_row _ _ 7 _ _ (0, 0) HRS.out
    have s8 : W99.cell? ⟨g, 8, none⟩ = some (.string (valOf bi)) := cell_of_row _ _ 8 _ _ (0, 0) HRS.out
    have s9 : W99.cell? ⟨g, 9, none⟩ = some (.int .i64 pc) := cell_of_row _ _ 9 _ _ (0, 0) HRS.out
    have s10 : W99.cell? ⟨g, 10, none⟩ = some (.string (valOf pi)) := cell_of_row _ _ 10 _ _ (0, 0) HRS.out
    have s11 : W99.cell? ⟨g, 11, none⟩ = some (.int .i64 qc) := cell_of_row _ _ 11 _ _ (0, 0) HRS.out
    have s12 : W99.cell? ⟨g, 12, none⟩ = some (.string (valOf qi)) := cell_of_row _ _ 12 _ _ (0, 0) HRS.out
    have s13 : W99.cell? ⟨g, 13, none⟩ = some (.int .i64 lo) := cell_of_row _ _ 13 _ _ (0, 0) HRS.out
    have s14 : W99.cell? ⟨g, 14, none⟩ = some (.int .i64 hi) := cell_of_row _ _ 14 _ _ (0, 0) HRS.out
    refine bodyPost_ret (v := .agg #[.int .i64 nd, .int .i64 sl, .int .i64 sq, .int .i64 t, .slice A1 n1 k1, .slice A2 n2 k2, .int .i64 kd, .int .i64 bc, .string (valOf bi), .int .i64 pc, .string (valOf pi), .int .i64 qc, .string (valOf qi), .int .i64 lo, .int .i64 hi]) ?_ rfl ?_
    · simp [results, Try.results34, go_sem, s0, s1, s2, s3, s4, s5, s6, s7, s8, s9, s10, s11, s12, s13, s14]
    · exact ⟨sq, t, kd, bc, pc, qc, lo, hi, bi, pi, qi, n1, k1, n2, k2, A1, A2, T, rfl, ⟨hn0, hn1, hl0, hl1, hq0, by omega, HK3.out, hb1, hp4, hq4, vb_small hc0 hc1 hb0, HF.out.1, HFine.out, HOK.out⟩, HF.out.2.1, HF.out.2.2⟩
end Go.Proofs.Ytmgiojdipheokaa
