/- The contracts of Size, Depth and Uses: of the program's and of the reference's. -/
import Derived.Test.YtoceogdpkfcghaaDoorSize
namespace Go.Proofs.YtoceogdpkfcghaaDoor
set_option linter.unusedVariables false
open Go.RowKit

end Go.Proofs.YtoceogdpkfcghaaDoor
