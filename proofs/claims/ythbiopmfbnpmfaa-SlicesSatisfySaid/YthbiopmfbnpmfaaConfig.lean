/- The contract of trustquorummake.Config: a configuration made from a tape. -/
import Derived.Test.YthbiopmfbnpmfaaGroup
namespace Go.Proofs.Ythbiopmfbnpmfaa
set_option linter.unusedVariables false
set_option linter.unusedSimpArgs false
open Go.RowKit

/-- What is said of the members: a declared one has a well-formed trust, an undeclared one none. -/
def MemsOk (m : Nat) (ms : List Mem) : Prop := ∀ x ∈ ms, (x.1 = true → WF m 2 x.2) ∧ (x.1 = false → x.2 = .mk 0 [] [])

theorem cell_four_new (w : World) (a b c e : Value) (t : TypeId) : ∀ j u, [a, b, c, e][j]? = some u → (w.alloc (.cells #[a, b, c, e] t)).cell? ((⟨w.heap.size, 0, none⟩ : Addr).add j) = some u :=
  fun j u hu => World.news_of_block (heap_alloc_new w _) j u (by simpa using hu)

end Go.Proofs.Ythbiopmfbnpmfaa
