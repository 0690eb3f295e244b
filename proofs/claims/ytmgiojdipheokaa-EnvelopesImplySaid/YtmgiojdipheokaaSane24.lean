/- The law's world with an envelope; the chapter's example of layer 24. -/
import Derived.Test.YtmgiojdipheokaaEnv3
import Derived.Test.YtmgiojdipheokaaPFlat
import Derived.Test.YtmgiojdipheokaaSTrust
namespace Go.Proofs.Ytmgiojdipheokaa
set_option linter.unusedVariables false
set_option linter.unusedSimpArgs false
open Go.RowKit

theorem ok_lit : okE 1 3 1 3 1 0 0 2 3 = true ∧ vcB 1 1 2 3 1 2 3 = true ∧ acB 1 1 2 3 1 2 3 = false ∧ ctB 1 3 = 3 := by decide
theorem fine_lit : Fine 5 2 (.mk 2 (rangeI 3) []) := by
  have h : rangeI 3 = [0, 1, 2] := rfl
  rw [h]
  refine ⟨⟨by omega, by simp, by simp, by simp, fun x hx => ?_, by simp, fun T hT => by simp at hT⟩, by simp [sizeT]⟩
  simp at hx; omega

/-- The world of a law that has an envelope in block eb. -/
structure LE (w : World) (eb : Nat) (P : Nat → Prop) (T : Tree) (nd sl sq t kd bc pc qc lo hi : Int) (bi pi qi n1 k1 n2 k2 : Nat) (A1 A2 : Option Addr) (W : World) : Prop where
  e : W.heap[eb]? = some (.cells #[.int .i64 nd, .int .i64 sl, .int .i64 sq, .int .i64 t, .slice A1 n1 k1, .slice A2 n2 k2, .int .i64 kd, .int .i64 bc, .string (valOf bi), .int .i64 pc, .string (valOf pi), .int .i64 qc, .string (valOf qi), .int .i64 lo, .int .i64 hi] 44 (0, 0))
  ge : GE P T nd sl sq t kd bc pc qc lo hi bi pi qi n1 k1 n2 k2 A1 A2 W
  src : SrcOk W w.heap.size
  bel : Below w.heap.size w W
  lo : w.heap.size < eb
  pp : ∀ b, P b → w.heap.size < b
theorem LE.bl {w : World} {eb : Nat} {P : Nat → Prop} {T : Tree} {nd sl sq t kd bc pc qc lo hi : Int} {bi pi qi n1 k1 n2 k2 : Nat} {A1 A2 : Option Addr} {W W' : World} (h : LE w eb P T nd sl sq t kd bc pc qc lo hi bi pi qi n1 k1 n2 k2 A1 A2 W) (hb : Below W.heap.size W W') : LE w eb P T nd sl sq t kd bc pc qc lo hi bi pi qi n1 k1 n2 k2 A1 A2 W' :=
  ⟨(hb.block _ (heapLt h.e)).trans h.e, h.ge.bl hb, h.src.below hb, bstep h.bel hb, h.lo, h.pp⟩
theorem GE.keep {P : Nat → Prop} {T : Tree} {nd sl sq t kd bc pc qc lo hi : Int} {bi pi qi n1 k1 n2 k2 : Nat} {A1 A2 : Option Addr} {w w' : World} (h : GE P T nd sl sq t kd bc pc qc lo hi bi pi qi n1 k1 n2 k2 A1 A2 w) (hk : ∀ k, k < w.heap.size → P k → w'.heap[k]? = w.heap[k]?) : GE P T nd sl sq t kd bc pc qc lo hi bi pi qi n1 k1 n2 k2 A1 A2 w' :=
  ⟨h.nlo, h.nhi, h.slo, h.shi, h.qlo, h.qhi, h.k, h.b, h.p, h.q, h.vb, h.tat.keep hk, h.fine, h.ok⟩
theorem LE.grown {w : World} {eb : Nat} {P : Nat → Prop} {T : Tree} {nd sl sq t kd bc pc qc lo hi : Int} {bi pi qi n1 k1 n2 k2 : Nat} {A1 A2 : Option Addr} {W W' : World} (h : LE w eb P T nd sl sq t kd bc pc qc lo hi bi pi qi n1 k1 n2 k2 A1 A2 W) (hs : SrcOk W' w.heap.size) (hg : W.grownBy W' (some w.heap.size)) : LE w eb P T nd sl sq t kd bc pc qc lo hi bi pi qi n1 k1 n2 k2 A1 A2 W' :=
  ⟨(hg.block _ (heapLt h.e) (by have := h.lo; simp; omega)).trans h.e, h.ge.keep (fun k hk hP => hg.block k hk (by have := h.pp k hP; simp; omega)), hs, bgrown h.bel hg (Nat.le_refl _), h.lo, h.pp⟩

set_option maxRecDepth 100000 in
set_option maxHeartbeats 2000000 in
theorem sane24 (w : World) : Calls Try.prog 33 #[] w fun e w' => e = .returned (.bool true) ∧ Below w.heap.size w w' := by
  have HL := Lib.hid ok_lit
  have hf := pflat_run 3 2 w (by omega)
  have HF := Lib.hid hf
  clear hf
  go_enter Try.func33, Try.ntmps33
  go_wp2_with fail
  refine HF.out.mono ?_
  rintro e W1 ⟨v1, rfl, hT, hb1⟩
  obtain ⟨t', A1, n1, k1, A2, n2, k2, h1, rfl, h3⟩ := hT.form
  have hba := balloc (bref W1) (.cells #[.int .i64 0, .int .i64 1, .int .i64 1, .int .i64 2, .slice A1 n1 k1, .slice none 0 0, .int .i64 1, .int .i64 3, .string ⟨#[97]⟩, .int .i64 3, .string ⟨#[97]⟩, .int .i64 0, .string ⟨#[]⟩, .int .i64 2, .int .i64 3] 44)
  have H0 := Lib.hid (show GE (fun b => w.heap.size ≤ b) (.mk 2 (rangeI 3) []) 0 1 1 2 1 3 3 0 2 3 1 1 0 n1 k1 0 0 A1 none (W1.alloc (.cells #[.int .i64 0, .int .i64 1, .int .i64 1, .int .i64 2, .slice A1 n1 k1, .slice none 0 0, .int .i64 1, .int .i64 3, .string ⟨#[97]⟩, .int .i64 3, .string ⟨#[97]⟩, .int .i64 0, .string ⟨#[]⟩, .int .i64 2, .int .i64 3] 44)) from
    ⟨by omega, by omega, by omega, by omega, by omega, by omega, .inl rfl, by omega, by omega, by omega, rfl, hT.up.below hba, fine_lit, HL.out.1⟩)
  have HX0 := Lib.hid (show (W1.alloc (.cells #[.int .i64 0, .int .i64 1, .int .i64 1, .int .i64 2, .slice A1 n1 k1, .slice none 0 0, .int .i64 1, .int .i64 3, .string ⟨#[97]⟩, .int .i64 3, .string ⟨#[97]⟩, .int .i64 0, .string ⟨#[]⟩, .int .i64 2, .int .i64 3] 44)).heap[W1.heap.size]? = some (.cells #[.int .i64 0, .int .i64 1, .int .i64 1, .int .i64 2, .slice A1 n1 k1, .slice none 0 0, .int .i64 1, .int .i64 3, .string (valOf 1), .int .i64 3, .string (valOf 1), .int .i64 0, .string (valOf 0), .int .i64 2, .int .i64 3] 44 (0, 0)) from heap_alloc_new _ _)
  have HB0 := Lib.hid (bstep hb1 hba)
  clear hT h1 h3 hb1 hba HF
  go_upto_region 2 with fail
  generalize W1.alloc (.cells #[.int .i64 0, .int .i64 1, .int .i64 1, .int .i64 2, .slice A1 n1 k1, .slice none 0 0, .int .i64 1, .int .i64 3, .string ⟨#[97]⟩, .int .i64 3, .string ⟨#[97]⟩, .int .i64 0, .string ⟨#[]⟩, .int .i64 2, .int .i64 3] 44) = W2 at *
  generalize W1.heap.size = eb at *
  have x0 : W2.cell? ⟨eb, 0, none⟩ = some (.int .i64 0) := cell_of_row _ _ 0 _ _ (0, 0) HX0.out
  have x1 : W2.cell? ⟨eb, 1, none⟩ = some (.int .i64 1) := cell_of_row _ _ 1 _ _ (0, 0) HX0.out
  have x2 : W2.cell? ⟨eb, 2, none⟩ = some (.int .i64 1) := cell_of_row _ _ 2 _ _ (0, 0) HX0.out
  have x3 : W2.cell? ⟨eb, 3, none⟩ = some (.int .i64 2) := cell_of_row _ _ 3 _ _ (0, 0) HX0.out
  have x4 : W2.cell? ⟨eb, 4, none⟩ = some (.slice A1 n1 k1) := cell_of_row _ _ 4 _ _ (0, 0) HX0.out
  have x5 : W2.cell? ⟨eb, 5, none⟩ = some (.slice none 0 0) := cell_of_row _ _ 5 _ _ (0, 0) HX0.out
  have x6 : W2.cell? ⟨eb, 6, none⟩ = some (.int .i64 1) := cell_of_row _ _ 6 _ _ (0, 0) HX0.out
  have x7 : W2.cell? ⟨eb, 7, none⟩ = some (.int .i64 3) := cell_of_row _ _ 7 _ _ (0, 0) HX0.out
  have x8 : W2.cell? ⟨eb, 8, none⟩ = some (.string ⟨#[97]⟩) := cell_of_row _ _ 8 _ _ (0, 0) HX0.out
  have x9 : W2.cell? ⟨eb, 9, none⟩ = some (.int .i64 3) := cell_of_row _ _ 9 _ _ (0, 0) HX0.out
  have x10 : W2.cell? ⟨eb, 10, none⟩ = some (.string ⟨#[97]⟩) := cell_of_row _ _ 10 _ _ (0, 0) HX0.out
  have x11 : W2.cell? ⟨eb, 11, none⟩ = some (.int .i64 0) := cell_of_row _ _ 11 _ _ (0, 0) HX0.out
  have x12 : W2.cell? ⟨eb, 12, none⟩ = some (.string ⟨#[]⟩) := cell_of_row _ _ 12 _ _ (0, 0) HX0.out
  have x13 : W2.cell? ⟨eb, 13, none⟩ = some (.int .i64 2) := cell_of_row _ _ 13 _ _ (0, 0) HX0.out
  have x14 : W2.cell? ⟨eb, 14, none⟩ = some (.int .i64 3) := cell_of_row _ _ 14 _ _ (0, 0) HX0.out
  go_wp2_with fail
  refine (pvalidE_run _ _ _ _ _ _ _ _ _ _ _ _ _ _ _ _ _ _ _ _ H0.out).mono ?_
  rintro e V1 ⟨rfl, hb⟩
  have H1 := Lib.hid (H0.out.bl hb)
  have HX1 := Lib.hid ((hb.block _ (heapLt HX0.out)).trans HX0.out)
  have HB1 := Lib.hid (bstep HB0.out hb)
  clear hb HX0 H0 HB0 x0 x1 x2 x3 x4 x5 x6 x7 x8 x9 x10 x11 x12 x13 x14
  have x0 : V1.cell? ⟨eb, 0, none⟩ = some (.int .i64 0) := cell_of_row _ _ 0 _ _ (0, 0) HX1.out
  have x1 : V1.cell? ⟨eb, 1, none⟩ = some (.int .i64 1) := cell_of_row _ _ 1 _ _ (0, 0) HX1.out
  have x2 : V1.cell? ⟨eb, 2, none⟩ = some (.int .i64 1) := cell_of_row _ _ 2 _ _ (0, 0) HX1.out
  have x3 : V1.cell? ⟨eb, 3, none⟩ = some (.int .i64 2) := cell_of_row _ _ 3 _ _ (0, 0) HX1.out
  have x4 : V1.cell? ⟨eb, 4, none⟩ = some (.slice A1 n1 k1) := cell_of_row _ _ 4 _ _ (0, 0) HX1.out
  have x5 : V1.cell? ⟨eb, 5, none⟩ = some (.slice none 0 0) := cell_of_row _ _ 5 _ _ (0, 0) HX1.out
  have x6 : V1.cell? ⟨eb, 6, none⟩ = some (.int .i64 1) := cell_of_row _ _ 6 _ _ (0, 0) HX1.out
  have x7 : V1.cell? ⟨eb, 7, none⟩ = some (.int .i64 3) := cell_of_row _ _ 7 _ _ (0, 0) HX1.out
  have x8 : V1.cell? ⟨eb, 8, none⟩ = some (.string ⟨#[97]⟩) := cell_of_row _ _ 8 _ _ (0, 0) HX1.out
  have x9 : V1.cell? ⟨eb, 9, none⟩ = some (.int .i64 3) := cell_of_row _ _ 9 _ _ (0, 0) HX1.out
  have x10 : V1.cell? ⟨eb, 10, none⟩ = some (.string ⟨#[97]⟩) := cell_of_row _ _ 10 _ _ (0, 0) HX1.out
  have x11 : V1.cell? ⟨eb, 11, none⟩ = some (.int .i64 0) := cell_of_row _ _ 11 _ _ (0, 0) HX1.out
  have x12 : V1.cell? ⟨eb, 12, none⟩ = some (.string ⟨#[]⟩) := cell_of_row _ _ 12 _ _ (0, 0) HX1.out
  have x13 : V1.cell? ⟨eb, 13, none⟩ = some (.int .i64 2) := cell_of_row _ _ 13 _ _ (0, 0) HX1.out
  have x14 : V1.cell? ⟨eb, 14, none⟩ = some (.int .i64 3) := cell_of_row _ _ 14 _ _ (0, 0) HX1.out
  go_wp2_with fail
  refine (votesCom_run _ _ _ _ _ _ _ _ _ _ _ _ _ _ _ _ _ _ _ 1 2 3 (by omega) _ H1.out).mono ?_
  rintro e V2 ⟨rfl, hb⟩
  have H2 := Lib.hid (H1.out.bl hb)
  have HX2 := Lib.hid ((hb.block _ (heapLt HX1.out)).trans HX1.out)
  have HB2 := Lib.hid (bstep HB1.out hb)
  clear hb HX1 H1 HB1 x0 x1 x2 x3 x4 x5 x6 x7 x8 x9 x10 x11 x12 x13 x14
  rw [HL.out.2.1]
  have x0 : V2.cell? ⟨eb, 0, none⟩ = some (.int .i64 0) := cell_of_row _ _ 0 _ _ (0, 0) HX2.out
  have x1 : V2.cell? ⟨eb, 1, none⟩ = some (.int .i64 1) := cell_of_row _ _ 1 _ _ (0, 0) HX2.out
  have x2 : V2.cell? ⟨eb, 2, none⟩ = some (.int .i64 1) := cell_of_row _ _ 2 _ _ (0, 0) HX2.out
  have x3 : V2.cell? ⟨eb, 3, none⟩ = some (.int .i64 2) := cell_of_row _ _ 3 _ _ (0, 0) HX2.out
  have x4 : V2.cell? ⟨eb, 4, none⟩ = some (.slice A1 n1 k1) := cell_of_row _ _ 4 _ _ (0, 0) HX2.out
  have x5 : V2.cell? ⟨eb, 5, none⟩ = some (.slice none 0 0) := cell_of_row _ _ 5 _ _ (0, 0) HX2.out
  have x6 : V2.cell? ⟨eb, 6, none⟩ = some (.int .i64 1) := cell_of_row _ _ 6 _ _ (0, 0) HX2.out
  have x7 : V2.cell? ⟨eb, 7, none⟩ = some (.int .i64 3) := cell_of_row _ _ 7 _ _ (0, 0) HX2.out
  have x8 : V2.cell? ⟨eb, 8, none⟩ = some (.string ⟨#[97]⟩) := cell_of_row _ _ 8 _ _ (0, 0) HX2.out
  have x9 : V2.cell? ⟨eb, 9, none⟩ = some (.int .i64 3) := cell_of_row _ _ 9 _ _ (0, 0) HX2.out
  have x10 : V2.cell? ⟨eb, 10, none⟩ = some (.string ⟨#[97]⟩) := cell_of_row _ _ 10 _ _ (0, 0) HX2.out
  have x11 : V2.cell? ⟨eb, 11, none⟩ = some (.int .i64 0) := cell_of_row _ _ 11 _ _ (0, 0) HX2.out
  have x12 : V2.cell? ⟨eb, 12, none⟩ = some (.string ⟨#[]⟩) := cell_of_row _ _ 12 _ _ (0, 0) HX2.out
  have x13 : V2.cell? ⟨eb, 13, none⟩ = some (.int .i64 2) := cell_of_row _ _ 13 _ _ (0, 0) HX2.out
  have x14 : V2.cell? ⟨eb, 14, none⟩ = some (.int .i64 3) := cell_of_row _ _ 14 _ _ (0, 0) HX2.out
  go_wp2_with fail
  refine (acceptsCom_run _ _ _ _ _ _ _ _ _ _ _ _ _ _ _ _ _ _ _ 1 2 3 (by omega) _ H2.out).mono ?_
  rintro e V3 ⟨rfl, hb⟩
  have H3 := Lib.hid (H2.out.bl hb)
  have HX3 := Lib.hid ((hb.block _ (heapLt HX2.out)).trans HX2.out)
  have HB3 := Lib.hid (bstep HB2.out hb)
  clear hb HX2 H2 HB2 x0 x1 x2 x3 x4 x5 x6 x7 x8 x9 x10 x11 x12 x13 x14
  rw [HL.out.2.2.1]
  have x0 : V3.cell? ⟨eb, 0, none⟩ = some (.int .i64 0) := cell_of_row _ _ 0 _ _ (0, 0) HX3.out
  have x1 : V3.cell? ⟨eb, 1, none⟩ = some (.int .i64 1) := cell_of_row _ _ 1 _ _ (0, 0) HX3.out
  have x2 : V3.cell? ⟨eb, 2, none⟩ = some (.int .i64 1) := cell_of_row _ _ 2 _ _ (0, 0) HX3.out
  have x3 : V3.cell? ⟨eb, 3, none⟩ = some (.int .i64 2) := cell_of_row _ _ 3 _ _ (0, 0) HX3.out
  have x4 : V3.cell? ⟨eb, 4, none⟩ = some (.slice A1 n1 k1) := cell_of_row _ _ 4 _ _ (0, 0) HX3.out
  have x5 : V3.cell? ⟨eb, 5, none⟩ = some (.slice none 0 0) := cell_of_row _ _ 5 _ _ (0, 0) HX3.out
  have x6 : V3.cell? ⟨eb, 6, none⟩ = some (.int .i64 1) := cell_of_row _ _ 6 _ _ (0, 0) HX3.out
  have x7 : V3.cell? ⟨eb, 7, none⟩ = some (.int .i64 3) := cell_of_row _ _ 7 _ _ (0, 0) HX3.out
  have x8 : V3.cell? ⟨eb, 8, none⟩ = some (.string ⟨#[97]⟩) := cell_of_row _ _ 8 _ _ (0, 0) HX3.out
  have x9 : V3.cell? ⟨eb, 9, none⟩ = some (.int .i64 3) := cell_of_row _ _ 9 _ _ (0, 0) HX3.out
  have x10 : V3.cell? ⟨eb, 10, none⟩ = some (.string ⟨#[97]⟩) := cell_of_row _ _ 10 _ _ (0, 0) HX3.out
  have x11 : V3.cell? ⟨eb, 11, none⟩ = some (.int .i64 0) := cell_of_row _ _ 11 _ _ (0, 0) HX3.out
  have x12 : V3.cell? ⟨eb, 12, none⟩ = some (.string ⟨#[]⟩) := cell_of_row _ _ 12 _ _ (0, 0) HX3.out
  have x13 : V3.cell? ⟨eb, 13, none⟩ = some (.int .i64 2) := cell_of_row _ _ 13 _ _ (0, 0) HX3.out
  have x14 : V3.cell? ⟨eb, 14, none⟩ = some (.int .i64 3) := cell_of_row _ _ 14 _ _ (0, 0) HX3.out
  go_wp2_with fail
  refine (counter_run _ _ _ _ _ _ _ _ _ _ _ _ _ _ _ _ _ _ _ _ H3.out).mono ?_
  rintro e V4 ⟨rfl, hb⟩
  have H4 := Lib.hid (H3.out.bl hb)
  have HX4 := Lib.hid ((hb.block _ (heapLt HX3.out)).trans HX3.out)
  have HB4 := Lib.hid (bstep HB3.out hb)
  clear hb HX3 H3 HB3 x0 x1 x2 x3 x4 x5 x6 x7 x8 x9 x10 x11 x12 x13 x14
  rw [HL.out.2.2.2]
  go_wp2_with fail
  go_ret
  exact ⟨rfl, HB4.out⟩
end Go.Proofs.Ytmgiojdipheokaa
