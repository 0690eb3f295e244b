/- The contract of data.Trust: a copy of a trust. -/
import Derived.Test.YtoceogdpkfcghaaDoorDual2
namespace Go.Proofs.YtoceogdpkfcghaaDoor
set_option linter.unusedVariables false
open Go.RowKit

end Go.Proofs.YtoceogdpkfcghaaDoor
