/- The world of a law that has made two configurations. -/
import Derived.Test.YtcngpfffhjbiaaaDoorBase3
namespace Go.Proofs.YtcngpfffhjbiaaaDoor
set_option linter.unusedVariables false
set_option linter.unusedSimpArgs false
open Go.RowKit

/-- The world with both configurations. -/
structure CTwo (w : World) (g : Nat) (v : Value) (ms : List Mem) (gx : Nat) (vx : Value) (xs : List Mem) (W : World) : Prop where
  made : CMade w g v ms W
  outX : W.heap[gx]? = some (.cells #[vx] 40 (0, 0))
  memX : MemsAt (fun b => w.heap.size < b) 2 W vx xs
theorem CTwo.bel {w W W' : World} {g gx : Nat} {v vx : Value} {ms xs : List Mem} (h : CTwo w g v ms gx vx xs W) (hb : Below W.heap.size W W') : CTwo w g v ms gx vx xs W' :=
  ⟨h.made.bel hb, (hb.block _ (Array.getElem?_eq_some_iff.1 h.outX).1).trans h.outX, h.memX.below hb⟩
theorem CTwo.keeps {w W : World} {g gx : Nat} {v vx : Value} {ms xs : List Mem} (h : CTwo w g v ms gx vx xs W) : W.cell? ⟨g, 0, none⟩ = some v ∧ W.cell? ⟨gx, 0, none⟩ = some vx ∧ CTwo w g v ms gx vx xs W := ⟨h.made.cell, cell_of_row _ _ 0 _ _ (0, 0) h.outX, h⟩
theorem keepT {w W W' : World} {g gx : Nat} {v vx : Value} {ms xs : List Mem} (h : W.cell? ⟨g, 0, none⟩ = some v ∧ W.cell? ⟨gx, 0, none⟩ = some vx ∧ CTwo w g v ms gx vx xs W) (hb : Below W.heap.size W W') : W'.cell? ⟨g, 0, none⟩ = some v ∧ W'.cell? ⟨gx, 0, none⟩ = some vx ∧ CTwo w g v ms gx vx xs W' := (h.2.2.bel hb).keeps
theorem memsT {w W : World} {g gx : Nat} {v vx : Value} {ms xs : List Mem} (h : W.cell? ⟨g, 0, none⟩ = some v ∧ W.cell? ⟨gx, 0, none⟩ = some vx ∧ CTwo w g v ms gx vx xs W) : MemsAt (fun b => w.heap.size < b) 2 W v ms := h.2.2.made.mems
theorem memsX {w W : World} {g gx : Nat} {v vx : Value} {ms xs : List Mem} (h : W.cell? ⟨g, 0, none⟩ = some v ∧ W.cell? ⟨gx, 0, none⟩ = some vx ∧ CTwo w g v ms gx vx xs W) : MemsAt (fun b => w.heap.size < b) 2 W vx xs := h.2.2.memX

theorem CTwo.grown {w W W' : World} {g gx : Nat} {v vx : Value} {ms xs : List Mem} (h : CTwo w g v ms gx vx xs W) (hgx : w.heap.size < gx) (hs : TapeOk W' w.heap.size) (hg : W.grownBy W' (some w.heap.size)) : CTwo w g v ms gx vx xs W' :=
  ⟨h.made.grown hs hg, (hg.block _ (Array.getElem?_eq_some_iff.1 h.outX).1 (by simp; omega)).trans h.outX, h.memX.both (fun q hq hP => hg.block q hq (by simp; omega)) (fun _ _ h => h)⟩
end Go.Proofs.YtcngpfffhjbiaaaDoor
