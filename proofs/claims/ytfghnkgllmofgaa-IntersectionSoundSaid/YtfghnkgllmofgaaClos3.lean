/- The contracts of closure.Check, Elimination, and of mk.Ints for equal lists. -/
import Derived.Test.YtfghnkgllmofgaaClos2
import Derived.BigQuiet
namespace Go.Proofs.Ytfghnkgllmofgaa
set_option linter.unusedVariables false
set_option linter.unusedSimpArgs false
open Go.RowKit

theorem drop_cons {l : List Int} {k : Nat} (h : k < l.length) : l.drop k = l.getD k 0 :: l.drop (k + 1) := by
  rw [List.getD_eq_getElem?_getD, List.getElem?_eq_getElem h]
  exact List.drop_eq_getElem_cons h

end Go.Proofs.Ytfghnkgllmofgaa
