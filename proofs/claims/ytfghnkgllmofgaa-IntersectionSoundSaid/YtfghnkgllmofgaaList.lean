/- The contract of data.List over trusts, and threshold.Dual. -/
import Derived.Test.YtfghnkgllmofgaaDual
namespace Go.Proofs.Ytfghnkgllmofgaa
set_option linter.unusedVariables false
set_option linter.unusedSimpArgs false
open Go.RowKit

/-- v is a slice of just these trusts. -/
def ListT (P : Nat → Prop) (d : Nat) (w : World) (v : Value) (is : List Tree) : Prop :=
  ∃ A c, v = .slice A is.length c ∧ ∀ k T, is[k]? = some T → ∃ b off x0 x1 x2, A = some ⟨b, off, none⟩ ∧ P b ∧ w.cell? ⟨b, off + k * 3, none⟩ = some x0 ∧ w.cell? ⟨b, off + k * 3 + 1, none⟩ = some x1 ∧ w.cell? ⟨b, off + k * 3 + 2, none⟩ = some x2 ∧ TAt P d w x0 x1 x2 T

/-- What a function over trusts does, where C holds of the trust. -/
def OneC (F : Nat) (d : Nat) (C : Tree → Prop) (f : Tree → Tree) : Prop :=
  ∀ (P : Nat → Prop) (T : Tree) (x0 x1 x2 : Value) (w : World), TAt P d w x0 x1 x2 T → C T →
    Calls Try.prog F #[.agg #[x0, x1, x2]] w fun e w' => ∃ y0 y1 y2, e = .returned (.agg #[y0, y1, y2]) ∧ TAt (fun b => w.heap.size ≤ b) d w' y0 y1 y2 (f T) ∧ Below w.heap.size w w'

end Go.Proofs.Ytfghnkgllmofgaa
