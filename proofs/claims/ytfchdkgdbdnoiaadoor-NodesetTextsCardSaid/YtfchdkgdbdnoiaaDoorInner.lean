/- The inner trusts of a trust that is being made: a slice of its own whose cells are trusts that lie elsewhere. -/
import Derived.Test.YtfchdkgdbdnoiaaDoorInner0
namespace Go.Proofs.YtfchdkgdbdnoiaaDoor
set_option linter.unusedVariables false
open Go.RowKit

theorem cell_three_new (w : World) (a b c : Value) (t : TypeId) : ∀ j u, [a, b, c][j]? = some u → (w.alloc (.cells #[a, b, c] t)).cell? ((⟨w.heap.size, 0, none⟩ : Addr).add j) = some u :=
  fun j u hu => World.news_of_block (heap_alloc_new w _) j u (by simpa using hu)

end Go.Proofs.YtfchdkgdbdnoiaaDoor
