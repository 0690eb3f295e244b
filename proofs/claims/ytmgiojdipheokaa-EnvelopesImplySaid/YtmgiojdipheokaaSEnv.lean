/- The source's Envelope: the memory of its making. -/
import Derived.Test.YtmgiojdipheokaaEnv3
import Derived.Test.YtmgiojdipheokaaSTrust
namespace Go.Proofs.Ytmgiojdipheokaa
set_option linter.unusedVariables false
set_option linter.unusedSimpArgs false
open Go.RowKit

structure ES (w : World) (sb g eb : Nat) (u0 u1 u2 u3 u4 u5 u6 u7 u8 u9 u10 u11 u12 u13 u14 : Value) (T : Tree) (W : World) : Prop where
  e : W.heap[eb]? = some (.cells #[u0, u1, u2, u3, u4, u5, u6, u7, u8, u9, u10, u11, u12, u13, u14] 44 (0, 0))
  res : W.heap[g]? = some (.cells #[.int .i64 0, .int .i64 0, .int .i64 0, .int .i64 0, .slice none 0 0, .slice none 0 0, .int .i64 0, .int .i64 0, .string ⟨#[]⟩, .int .i64 0, .string ⟨#[]⟩, .int .i64 0, .string ⟨#[]⟩, .int .i64 0, .int .i64 0] 44 (0, 0))
  tat : TAt (fun b => g < b ∧ b ≠ eb) 2 W u3 u4 u5 T
  src : SrcOk W sb
  gr : w.grownBy W (some sb)
  lo : sb < g
  eq : w.heap.size = g
  ge : g < eb
theorem ES.grown {w W W' : World} {sb g eb : Nat} {u0 u1 u2 u3 u4 u5 u6 u7 u8 u9 u10 u11 u12 u13 u14 : Value} {T : Tree} (h : ES w sb g eb u0 u1 u2 u3 u4 u5 u6 u7 u8 u9 u10 u11 u12 u13 u14 T W) (hs : SrcOk W' sb) (hg : W.grownBy W' (some sb)) : ES w sb g eb u0 u1 u2 u3 u4 u5 u6 u7 u8 u9 u10 u11 u12 u13 u14 T W' :=
  ⟨(hg.block _ (heapLt h.e) (by have := h.lo; have := h.ge; simp; omega)).trans h.e, (hg.block _ (heapLt h.res) (by have := h.lo; simp; omega)).trans h.res, h.tat.keep (fun q hq hP => hg.block q hq (by have := h.lo; simp; omega)), hs, grown_trans h.gr hg, h.lo, h.eq, h.ge⟩
theorem ES.bl {w W W' : World} {sb g eb : Nat} {u0 u1 u2 u3 u4 u5 u6 u7 u8 u9 u10 u11 u12 u13 u14 : Value} {T : Tree} (h : ES w sb g eb u0 u1 u2 u3 u4 u5 u6 u7 u8 u9 u10 u11 u12 u13 u14 T W) (hb : Below W.heap.size W W') : ES w sb g eb u0 u1 u2 u3 u4 u5 u6 u7 u8 u9 u10 u11 u12 u13 u14 T W' := h.grown (h.src.below hb) (grown_below hb)
theorem ES.set6 {w W : World} {sb g eb : Nat} {u0 u1 u2 u3 u4 u5 u6 u7 u8 u9 u10 u11 u12 u13 u14 : Value} {T : Tree} (h : ES w sb g eb u0 u1 u2 u3 u4 u5 u6 u7 u8 u9 u10 u11 u12 u13 u14 T W) (x : Value) : ES w sb g eb u0 u1 u2 u3 u4 u5 x u7 u8 u9 u10 u11 u12 u13 u14 T (W.setCell ⟨eb, 6, none⟩ x) := by
  have hlo := h.lo
  have hge := h.ge
  have heq := h.eq
  have he := h.e
  exact ⟨by simp [World.setCell, Array.getElem?_modify, he], (Below.heap_setCell _ _ _ _ (by simp; omega)).trans h.res, h.tat.keep (fun q hq hP => Below.heap_setCell _ _ _ _ (by simp; exact hP.2)), h.src.setCell (by simp; omega) _, gset h.gr (p := ⟨eb, 6, none⟩) (by simp; omega) _, h.lo, h.eq, h.ge⟩
theorem ES.set7 {w W : World} {sb g eb : Nat} {u0 u1 u2 u3 u4 u5 u6 u7 u8 u9 u10 u11 u12 u13 u14 : Value} {T : Tree} (h : ES w sb g eb u0 u1 u2 u3 u4 u5 u6 u7 u8 u9 u10 u11 u12 u13 u14 T W) (x : Value) : ES w sb g eb u0 u1 u2 u3 u4 u5 u6 x u8 u9 u10 u11 u12 u13 u14 T (W.setCell ⟨eb, 7, none⟩ x) := by
  have hlo := h.lo
  have hge := h.ge
  have heq := h.eq
  have he := h.e
  exact ⟨by simp [World.setCell, Array.getElem?_modify, he], (Below.heap_setCell _ _ _ _ (by simp; omega)).trans h.res, h.tat.keep (fun q hq hP => Below.heap_setCell _ _ _ _ (by simp; exact hP.2)), h.src.setCell (by simp; omega) _, gset h.gr (p := ⟨eb, 7, none⟩) (by simp; omega) _, h.lo, h.eq, h.ge⟩
theorem ES.set8 {w W : World} {sb g eb : Nat} {u0 u1 u2 u3 u4 u5 u6 u7 u8 u9 u10 u11 u12 u13 u14 : Value} {T : Tree} (h : ES w sb g eb u0 u1 u2 u3 u4 u5 u6 u7 u8 u9 u10 u11 u12 u13 u14 T W) (x : Value) : ES w sb g eb u0 u1 u2 u3 u4 u5 u6 u7 x u9 u10 u11 u12 u13 u14 T (W.setCell ⟨eb, 8, none⟩ x) := by
  have hlo := h.lo
  have hge := h.ge
  have heq := h.eq
  have he := h.e
  exact ⟨by simp [World.setCell, Array.getElem?_modify, he], (Below.heap_setCell _ _ _ _ (by simp; omega)).trans h.res, h.tat.keep (fun q hq hP => Below.heap_setCell _ _ _ _ (by simp; exact hP.2)), h.src.setCell (by simp; omega) _, gset h.gr (p := ⟨eb, 8, none⟩) (by simp; omega) _, h.lo, h.eq, h.ge⟩
theorem ES.set9 {w W : World} {sb g eb : Nat} {u0 u1 u2 u3 u4 u5 u6 u7 u8 u9 u10 u11 u12 u13 u14 : Value} {T : Tree} (h : ES w sb g eb u0 u1 u2 u3 u4 u5 u6 u7 u8 u9 u10 u11 u12 u13 u14 T W) (x : Value) : ES w sb g eb u0 u1 u2 u3 u4 u5 u6 u7 u8 x u10 u11 u12 u13 u14 T (W.setCell ⟨eb, 9, none⟩ x) := by
  have hlo := h.lo
  have hge := h.ge
  have heq := h.eq
  have he := h.e
  exact ⟨by simp [World.setCell, Array.getElem?_modify, he], (Below.heap_setCell _ _ _ _ (by simp; omega)).trans h.res, h.tat.keep (fun q hq hP => Below.heap_setCell _ _ _ _ (by simp; exact hP.2)), h.src.setCell (by simp; omega) _, gset h.gr (p := ⟨eb, 9, none⟩) (by simp; omega) _, h.lo, h.eq, h.ge⟩
theorem ES.set10 {w W : World} {sb g eb : Nat} {u0 u1 u2 u3 u4 u5 u6 u7 u8 u9 u10 u11 u12 u13 u14 : Value} {T : Tree} (h : ES w sb g eb u0 u1 u2 u3 u4 u5 u6 u7 u8 u9 u10 u11 u12 u13 u14 T W) (x : Value) : ES w sb g eb u0 u1 u2 u3 u4 u5 u6 u7 u8 u9 x u11 u12 u13 u14 T (W.setCell ⟨eb, 10, none⟩ x) := by
  have hlo := h.lo
  have hge := h.ge
  have heq := h.eq
  have he := h.e
  exact ⟨by simp [World.setCell, Array.getElem?_modify, he], (Below.heap_setCell _ _ _ _ (by simp; omega)).trans h.res, h.tat.keep (fun q hq hP => Below.heap_setCell _ _ _ _ (by simp; exact hP.2)), h.src.setCell (by simp; omega) _, gset h.gr (p := ⟨eb, 10, none⟩) (by simp; omega) _, h.lo, h.eq, h.ge⟩
theorem ES.set11 {w W : World} {sb g eb : Nat} {u0 u1 u2 u3 u4 u5 u6 u7 u8 u9 u10 u11 u12 u13 u14 : Value} {T : Tree} (h : ES w sb g eb u0 u1 u2 u3 u4 u5 u6 u7 u8 u9 u10 u11 u12 u13 u14 T W) (x : Value) : ES w sb g eb u0 u1 u2 u3 u4 u5 u6 u7 u8 u9 u10 x u12 u13 u14 T (W.setCell ⟨eb, 11, none⟩ x) := by
  have hlo := h.lo
  have hge := h.ge
  have heq := h.eq
  have he := h.e
  exact ⟨by simp [World.setCell, Array.getElem?_modify, he], (Below.heap_setCell _ _ _ _ (by simp; omega)).trans h.res, h.tat.keep (fun q hq hP => Below.heap_setCell _ _ _ _ (by simp; exact hP.2)), h.src.setCell (by simp; omega) _, gset h.gr (p := ⟨eb, 11, none⟩) (by simp; omega) _, h.lo, h.eq, h.ge⟩
theorem ES.set12 {w W : World} {sb g eb : Nat} {u0 u1 u2 u3 u4 u5 u6 u7 u8 u9 u10 u11 u12 u13 u14 : Value} {T : Tree} (h : ES w sb g eb u0 u1 u2 u3 u4 u5 u6 u7 u8 u9 u10 u11 u12 u13 u14 T W) (x : Value) : ES w sb g eb u0 u1 u2 u3 u4 u5 u6 u7 u8 u9 u10 u11 x u13 u14 T (W.setCell ⟨eb, 12, none⟩ x) := by
  have hlo := h.lo
  have hge := h.ge
  have heq := h.eq
  have he := h.e
  exact ⟨by simp [World.setCell, Array.getElem?_modify, he], (Below.heap_setCell _ _ _ _ (by simp; omega)).trans h.res, h.tat.keep (fun q hq hP => Below.heap_setCell _ _ _ _ (by simp; exact hP.2)), h.src.setCell (by simp; omega) _, gset h.gr (p := ⟨eb, 12, none⟩) (by simp; omega) _, h.lo, h.eq, h.ge⟩
theorem ES.set13 {w W : World} {sb g eb : Nat} {u0 u1 u2 u3 u4 u5 u6 u7 u8 u9 u10 u11 u12 u13 u14 : Value} {T : Tree} (h : ES w sb g eb u0 u1 u2 u3 u4 u5 u6 u7 u8 u9 u10 u11 u12 u13 u14 T W) (x : Value) : ES w sb g eb u0 u1 u2 u3 u4 u5 u6 u7 u8 u9 u10 u11 u12 x u14 T (W.setCell ⟨eb, 13, none⟩ x) := by
  have hlo := h.lo
  have hge := h.ge
  have heq := h.eq
  have he := h.e
  exact ⟨by simp [World.setCell, Array.getElem?_modify, he], (Below.heap_setCell _ _ _ _ (by simp; omega)).trans h.res, h.tat.keep (fun q hq hP => Below.heap_setCell _ _ _ _ (by simp; exact hP.2)), h.src.setCell (by simp; omega) _, gset h.gr (p := ⟨eb, 13, none⟩) (by simp; omega) _, h.lo, h.eq, h.ge⟩
theorem ES.set14 {w W : World} {sb g eb : Nat} {u0 u1 u2 u3 u4 u5 u6 u7 u8 u9 u10 u11 u12 u13 u14 : Value} {T : Tree} (h : ES w sb g eb u0 u1 u2 u3 u4 u5 u6 u7 u8 u9 u10 u11 u12 u13 u14 T W) (x : Value) : ES w sb g eb u0 u1 u2 u3 u4 u5 u6 u7 u8 u9 u10 u11 u12 u13 x T (W.setCell ⟨eb, 14, none⟩ x) := by
  have hlo := h.lo
  have hge := h.ge
  have heq := h.eq
  have he := h.e
  exact ⟨by simp [World.setCell, Array.getElem?_modify, he], (Below.heap_setCell _ _ _ _ (by simp; omega)).trans h.res, h.tat.keep (fun q hq hP => Below.heap_setCell _ _ _ _ (by simp; exact hP.2)), h.src.setCell (by simp; omega) _, gset h.gr (p := ⟨eb, 14, none⟩) (by simp; omega) _, h.lo, h.eq, h.ge⟩
theorem ES.cs {w W : World} {sb g eb : Nat} {u0 u1 u2 u3 u4 u5 u6 u7 u8 u9 u10 u11 u12 u13 u14 : Value} {T : Tree} (h : ES w sb g eb u0 u1 u2 u3 u4 u5 u6 u7 u8 u9 u10 u11 u12 u13 u14 T W) : W.cell? ⟨eb, 0, none⟩ = some u0 ∧ W.cell? ⟨eb, 1, none⟩ = some u1 ∧ W.cell? ⟨eb, 2, none⟩ = some u2 ∧ W.cell? ⟨eb, 3, none⟩ = some u3 ∧ W.cell? ⟨eb, 4, none⟩ = some u4 ∧ W.cell? ⟨eb, 5, none⟩ = some u5 ∧ W.cell? ⟨eb, 6, none⟩ = some u6 ∧ W.cell? ⟨eb, 7, none⟩ = some u7 ∧ W.cell? ⟨eb, 8, none⟩ = some u8 ∧ W.cell? ⟨eb, 9, none⟩ = some u9 ∧ W.cell? ⟨eb, 10, none⟩ = some u10 ∧ W.cell? ⟨eb, 11, none⟩ = some u11 ∧ W.cell? ⟨eb, 12, none⟩ = some u12 ∧ W.cell? ⟨eb, 13, none⟩ = some u13 ∧ W.cell? ⟨eb, 14, none⟩ = some u14 :=
  ⟨cell_of_row _ _ 0 _ _ (0, 0) h.e, cell_of_row _ _ 1 _ _ (0, 0) h.e, cell_of_row _ _ 2 _ _ (0, 0) h.e, cell_of_row _ _ 3 _ _ (0, 0) h.e, cell_of_row _ _ 4 _ _ (0, 0) h.e, cell_of_row _ _ 5 _ _ (0, 0) h.e, cell_of_row _ _ 6 _ _ (0, 0) h.e, cell_of_row _ _ 7 _ _ (0, 0) h.e, cell_of_row _ _ 8 _ _ (0, 0) h.e, cell_of_row _ _ 9 _ _ (0, 0) h.e, cell_of_row _ _ 10 _ _ (0, 0) h.e, cell_of_row _ _ 11 _ _ (0, 0) h.e, cell_of_row _ _ 12 _ _ (0, 0) h.e, cell_of_row _ _ 13 _ _ (0, 0) h.e, cell_of_row _ _ 14 _ _ (0, 0) h.e⟩
theorem ES.fr {w W : World} {sb g eb : Nat} {u0 u1 u2 u3 u4 u5 u6 u7 u8 u9 u10 u11 u12 u13 u14 : Value} {T : Tree} (h : ES w sb g eb u0 u1 u2 u3 u4 u5 u6 u7 u8 u9 u10 u11 u12 u13 u14 T W) (k : Nat) : W.frozen? ⟨eb, k, none⟩ = false := by
  have := h.e; simp [World.frozen?, this]
theorem ES.rcs {w W : World} {sb g eb : Nat} {u0 u1 u2 u3 u4 u5 u6 u7 u8 u9 u10 u11 u12 u13 u14 : Value} {T : Tree} (h : ES w sb g eb u0 u1 u2 u3 u4 u5 u6 u7 u8 u9 u10 u11 u12 u13 u14 T W) : W.cell? ⟨g, 0, none⟩ = some (.int .i64 0) ∧ W.cell? ⟨g, 1, none⟩ = some (.int .i64 0) ∧ W.cell? ⟨g, 2, none⟩ = some (.int .i64 0) ∧ W.cell? ⟨g, 3, none⟩ = some (.int .i64 0) ∧ W.cell? ⟨g, 4, none⟩ = some (.slice none 0 0) ∧ W.cell? ⟨g, 5, none⟩ = some (.slice none 0 0) ∧ W.cell? ⟨g, 6, none⟩ = some (.int .i64 0) ∧ W.cell? ⟨g, 7, none⟩ = some (.int .i64 0) ∧ W.cell? ⟨g, 8, none⟩ = some (.string ⟨#[]⟩) ∧ W.cell? ⟨g, 9, none⟩ = some (.int .i64 0) ∧ W.cell? ⟨g, 10, none⟩ = some (.string ⟨#[]⟩) ∧ W.cell? ⟨g, 11, none⟩ = some (.int .i64 0) ∧ W.cell? ⟨g, 12, none⟩ = some (.string ⟨#[]⟩) ∧ W.cell? ⟨g, 13, none⟩ = some (.int .i64 0) ∧ W.cell? ⟨g, 14, none⟩ = some (.int .i64 0) :=
  ⟨cell_of_row _ _ 0 _ _ (0, 0) h.res, cell_of_row _ _ 1 _ _ (0, 0) h.res, cell_of_row _ _ 2 _ _ (0, 0) h.res, cell_of_row _ _ 3 _ _ (0, 0) h.res, cell_of_row _ _ 4 _ _ (0, 0) h.res, cell_of_row _ _ 5 _ _ (0, 0) h.res, cell_of_row _ _ 6 _ _ (0, 0) h.res, cell_of_row _ _ 7 _ _ (0, 0) h.res, cell_of_row _ _ 8 _ _ (0, 0) h.res, cell_of_row _ _ 9 _ _ (0, 0) h.res, cell_of_row _ _ 10 _ _ (0, 0) h.res, cell_of_row _ _ 11 _ _ (0, 0) h.res, cell_of_row _ _ 12 _ _ (0, 0) h.res, cell_of_row _ _ 13 _ _ (0, 0) h.res, cell_of_row _ _ 14 _ _ (0, 0) h.res⟩
theorem ES.rfr {w W : World} {sb g eb : Nat} {u0 u1 u2 u3 u4 u5 u6 u7 u8 u9 u10 u11 u12 u13 u14 : Value} {T : Tree} (h : ES w sb g eb u0 u1 u2 u3 u4 u5 u6 u7 u8 u9 u10 u11 u12 u13 u14 T W) (k : Nat) : W.frozen? ⟨g, k, none⟩ = false := by
  have := h.res; simp [World.frozen?, this]

/-- What the source's Envelope returns. -/
def SEnv (sb : Nat) (nd sl : Int) (w : World) (e : Ending) (w' : World) : Prop :=
  ∃ (sq t kd bc pc qc lo hi : Int) (bi pi qi n1 k1 n2 k2 : Nat) (A1 A2 : Option Addr) (T : Tree), e = .returned (.agg #[.int .i64 nd, .int .i64 sl, .int .i64 sq, .int .i64 t, .slice A1 n1 k1, .slice A2 n2 k2, .int .i64 kd, .int .i64 bc, .string (valOf bi), .int .i64 pc, .string (valOf pi), .int .i64 qc, .string (valOf qi), .int .i64 lo, .int .i64 hi]) ∧ GE (fun b => w.heap.size ≤ b) T nd sl sq t kd bc pc qc lo hi bi pi qi n1 k1 n2 k2 A1 A2 w' ∧ SrcOk w' sb ∧ w.grownBy w' (some sb)
end Go.Proofs.Ytmgiojdipheokaa
