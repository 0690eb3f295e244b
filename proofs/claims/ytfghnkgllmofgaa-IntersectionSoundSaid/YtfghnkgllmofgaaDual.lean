/- The contracts of data.Flat, data.List over trusts, and threshold.Dual. -/
import Derived.Test.YtfghnkgllmofgaaRef02
namespace Go.Proofs.Ytfghnkgllmofgaa
set_option linter.unusedVariables false
set_option linter.unusedSimpArgs false
open Go.RowKit

/-- v is a slice of just these nodes, in blocks of which P holds. -/
def NodesAt (P : Nat → Prop) (w : World) (v : Value) (ns : List Int) : Prop :=
  ∃ A c, v = .slice A ns.length c ∧ ∀ k, k < ns.length → ∃ b off, A = some ⟨b, off, none⟩ ∧ P b ∧ w.cell? ⟨b, off + k, none⟩ = some (.int .i64 (ns.getD k 0))

theorem NodesAt.of_own {W : World} {B : Nat} {v : Value} {ns : List Int} (h : W.ownsRow B 3 1 v ns.length (ns.map (Value.int .i64))) : NodesAt (fun b => B ≤ b) W v ns := by
  rcases h.2 with ⟨hv, h0⟩ | ⟨g, cap, cur, hv, hb, _⟩
  · exact ⟨none, 0, by rw [hv, h0], fun k hk => by omega⟩
  · refine ⟨some ⟨g, 0, none⟩, cap, hv, fun k hk => ⟨g, 0, rfl, hb, ?_⟩⟩
    have := h.cells (g := g) (by rw [hv]; rfl) k (.int .i64 (ns.getD k 0)) (by
      rw [List.getElem?_map, List.getD_eq_getElem?_getD, List.getElem?_eq_getElem hk]; rfl)
    rw [Addr.add_lit] at this
    exact this

end Go.Proofs.Ytfghnkgllmofgaa
