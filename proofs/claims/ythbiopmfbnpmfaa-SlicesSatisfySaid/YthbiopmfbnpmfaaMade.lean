/- The world of a law that has made a trust. -/
import Derived.Test.YthbiopmfbnpmfaaSatMath
namespace Go.Proofs.Ythbiopmfbnpmfaa
set_option linter.unusedVariables false
set_option linter.unusedSimpArgs false
open Go.RowKit

theorem bgrownT {w a b : World} {sb : Nat} (h : Below w.heap.size w a) (hg : a.grownBy b (some sb)) (hs : w.heap.size ≤ sb) : Below w.heap.size w b :=
  h.grown hg h.size (fun k hk => by cases hk; exact hs)

/-- What holds of the world of a law that has made a trust: the tape, the trust in its block g. -/
structure MadeAt (w : World) (g d : Nat) (t : Int) (v1 v2 : Value) (T : Tree) (W : World) : Prop where
  tape : TapeOk W w.heap.size
  out : OutAt W g t v1 v2
  tat : TAt (fun b => w.heap.size < b) d W (.int .i64 t) v1 v2 T
  low : w.heap.size < g
  below : Below w.heap.size w W
theorem MadeAt.bel {w W W' : World} {g d : Nat} {t : Int} {v1 v2 : Value} {T : Tree} (h : MadeAt w g d t v1 v2 T W) (hb : Below W.heap.size W W') : MadeAt w g d t v1 v2 T W' :=
  ⟨h.tape.below hb, h.out.keep (hb.block _ h.out.lt), h.tat.below hb, h.low, bstep h.below hb⟩
theorem MadeAt.grown {w W W' : World} {g d : Nat} {t : Int} {v1 v2 : Value} {T : Tree} (h : MadeAt w g d t v1 v2 T W) (hs : TapeOk W' w.heap.size) (hg : W.grownBy W' (some w.heap.size)) : MadeAt w g d t v1 v2 T W' :=
  ⟨hs, h.out.keep (hg.block _ h.out.lt (by have := h.low; simp; omega)), h.tat.keep (fun q hq hP => hg.block q hq (by simp; omega)), h.low, bgrownT h.below hg (Nat.le_refl _)⟩
theorem MadeAt.drew {w W : World} {g d : Nat} {t : Int} {v1 v2 : Value} {T : Tree} (h : MadeAt w g d t v1 v2 T W) : MadeAt w g d t v1 v2 T W.drew := h.bel ⟨rfl, rfl, rfl, Nat.le_refl _, fun _ _ => rfl⟩
/-- What a drawn region keeps. -/
theorem keepM {w W W' : World} {g d : Nat} {t : Int} {v1 v2 : Value} {T : Tree}
    (h : W.cell? ⟨g, 0, none⟩ = some (.int .i64 t) ∧ W.cell? ⟨g, 1, none⟩ = some v1 ∧ W.cell? ⟨g, 2, none⟩ = some v2 ∧ MadeAt w g d t v1 v2 T W) (hb : Below W.heap.size W W') :
    W'.cell? ⟨g, 0, none⟩ = some (.int .i64 t) ∧ W'.cell? ⟨g, 1, none⟩ = some v1 ∧ W'.cell? ⟨g, 2, none⟩ = some v2 ∧ MadeAt w g d t v1 v2 T W' := by
  have k := h.2.2.2.bel hb
  exact ⟨k.out.cs.1, k.out.cs.2.1, k.out.cs.2.2, k⟩
theorem MadeAt.keeps {w W : World} {g d : Nat} {t : Int} {v1 v2 : Value} {T : Tree} (h : MadeAt w g d t v1 v2 T W) :
    W.cell? ⟨g, 0, none⟩ = some (.int .i64 t) ∧ W.cell? ⟨g, 1, none⟩ = some v1 ∧ W.cell? ⟨g, 2, none⟩ = some v2 ∧ MadeAt w g d t v1 v2 T W := ⟨h.out.cs.1, h.out.cs.2.1, h.out.cs.2.2, h⟩
theorem tatM {w W : World} {g d : Nat} {t : Int} {v1 v2 : Value} {T : Tree}
    (h : W.cell? ⟨g, 0, none⟩ = some (.int .i64 t) ∧ W.cell? ⟨g, 1, none⟩ = some v1 ∧ W.cell? ⟨g, 2, none⟩ = some v2 ∧ MadeAt w g d t v1 v2 T W) : TAt (fun b => w.heap.size < b) d W (.int .i64 t) v1 v2 T := h.2.2.2.tat
end Go.Proofs.Ythbiopmfbnpmfaa
