/- The contracts of the reference for layer 23 over the source's ballots. -/
import Derived.Test.YtoceogdpkfcghaaDoorBal2
namespace Go.Proofs.YtoceogdpkfcghaaDoor
set_option linter.unusedVariables false
open Go.RowKit

end Go.Proofs.YtoceogdpkfcghaaDoor
