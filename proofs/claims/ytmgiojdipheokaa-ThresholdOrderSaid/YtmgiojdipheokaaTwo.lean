/- A world with two trusts. -/
import Derived.Test.YtmgiojdipheokaaMade
namespace Go.Proofs.Ytmgiojdipheokaa
set_option linter.unusedVariables false
open Go.RowKit

/-- Two trusts of one world, with the cells that a drawn region reads. -/
theorem twoM {w W : World} {g d : Nat} {t : Int} {v1 v2 : Value} {T : Tree} {g' d' : Nat} {t' : Int} {v1' v2' : Value} {T' : Tree} (h : MadeAt w g d t v1 v2 T W) (h' : MadeAt w g' d' t' v1' v2' T' W) : W.cell? ⟨g, 0, none⟩ = some (.int .i64 t) ∧ W.cell? ⟨g, 1, none⟩ = some v1 ∧ W.cell? ⟨g, 2, none⟩ = some v2 ∧ W.cell? ⟨g', 0, none⟩ = some (.int .i64 t') ∧ W.cell? ⟨g', 1, none⟩ = some v1' ∧ W.cell? ⟨g', 2, none⟩ = some v2' ∧ MadeAt w g d t v1 v2 T W ∧ MadeAt w g' d' t' v1' v2' T' W :=
  ⟨h.out.cs.1, h.out.cs.2.1, h.out.cs.2.2, h'.out.cs.1, h'.out.cs.2.1, h'.out.cs.2.2, h, h'⟩
theorem keepTwo {w W W' : World} {g d : Nat} {t : Int} {v1 v2 : Value} {T : Tree} {g' d' : Nat} {t' : Int} {v1' v2' : Value} {T' : Tree} (h : W.cell? ⟨g, 0, none⟩ = some (.int .i64 t) ∧ W.cell? ⟨g, 1, none⟩ = some v1 ∧ W.cell? ⟨g, 2, none⟩ = some v2 ∧ W.cell? ⟨g', 0, none⟩ = some (.int .i64 t') ∧ W.cell? ⟨g', 1, none⟩ = some v1' ∧ W.cell? ⟨g', 2, none⟩ = some v2' ∧ MadeAt w g d t v1 v2 T W ∧ MadeAt w g' d' t' v1' v2' T' W) (hb : Below W.heap.size W W') : W'.cell? ⟨g, 0, none⟩ = some (.int .i64 t) ∧ W'.cell? ⟨g, 1, none⟩ = some v1 ∧ W'.cell? ⟨g, 2, none⟩ = some v2 ∧ W'.cell? ⟨g', 0, none⟩ = some (.int .i64 t') ∧ W'.cell? ⟨g', 1, none⟩ = some v1' ∧ W'.cell? ⟨g', 2, none⟩ = some v2' ∧ MadeAt w g d t v1 v2 T W' ∧ MadeAt w g' d' t' v1' v2' T' W' :=
  twoM (h.2.2.2.2.2.2.1.bel hb) (h.2.2.2.2.2.2.2.bel hb)
theorem tatX {w W : World} {g d : Nat} {t : Int} {v1 v2 : Value} {T : Tree} {g' d' : Nat} {t' : Int} {v1' v2' : Value} {T' : Tree} (h : W.cell? ⟨g, 0, none⟩ = some (.int .i64 t) ∧ W.cell? ⟨g, 1, none⟩ = some v1 ∧ W.cell? ⟨g, 2, none⟩ = some v2 ∧ W.cell? ⟨g', 0, none⟩ = some (.int .i64 t') ∧ W.cell? ⟨g', 1, none⟩ = some v1' ∧ W.cell? ⟨g', 2, none⟩ = some v2' ∧ MadeAt w g d t v1 v2 T W ∧ MadeAt w g' d' t' v1' v2' T' W) : TAt (fun b => w.heap.size < b) d W (.int .i64 t) v1 v2 T := h.2.2.2.2.2.2.1.tat
theorem tatY {w W : World} {g d : Nat} {t : Int} {v1 v2 : Value} {T : Tree} {g' d' : Nat} {t' : Int} {v1' v2' : Value} {T' : Tree} (h : W.cell? ⟨g, 0, none⟩ = some (.int .i64 t) ∧ W.cell? ⟨g, 1, none⟩ = some v1 ∧ W.cell? ⟨g, 2, none⟩ = some v2 ∧ W.cell? ⟨g', 0, none⟩ = some (.int .i64 t') ∧ W.cell? ⟨g', 1, none⟩ = some v1' ∧ W.cell? ⟨g', 2, none⟩ = some v2' ∧ MadeAt w g d t v1 v2 T W ∧ MadeAt w g' d' t' v1' v2' T' W) : TAt (fun b => w.heap.size < b) d' W (.int .i64 t') v1' v2' T' := h.2.2.2.2.2.2.2.tat
theorem madeX {w W : World} {g d : Nat} {t : Int} {v1 v2 : Value} {T : Tree} {g' d' : Nat} {t' : Int} {v1' v2' : Value} {T' : Tree} (h : W.cell? ⟨g, 0, none⟩ = some (.int .i64 t) ∧ W.cell? ⟨g, 1, none⟩ = some v1 ∧ W.cell? ⟨g, 2, none⟩ = some v2 ∧ W.cell? ⟨g', 0, none⟩ = some (.int .i64 t') ∧ W.cell? ⟨g', 1, none⟩ = some v1' ∧ W.cell? ⟨g', 2, none⟩ = some v2' ∧ MadeAt w g d t v1 v2 T W ∧ MadeAt w g' d' t' v1' v2' T' W) : MadeAt w g d t v1 v2 T W ∧ MadeAt w g' d' t' v1' v2' T' W := ⟨h.2.2.2.2.2.2.1, h.2.2.2.2.2.2.2⟩

end Go.Proofs.Ytmgiojdipheokaa
