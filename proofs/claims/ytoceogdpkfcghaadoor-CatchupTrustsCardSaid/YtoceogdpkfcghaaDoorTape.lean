/- The source of numbers (trustquorummake.Tape): its state in memory, and what each of its methods returns. -/
import Derived.Test.YtoceogdpkfcghaaDoorSrc
namespace Go.Proofs.YtoceogdpkfcghaaDoor
set_option linter.unusedVariables false
open Go.RowKit

end Go.Proofs.YtoceogdpkfcghaaDoor
