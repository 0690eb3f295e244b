/- The source of numbers (trustquorummake.Tape): its state in memory, and what each of its methods returns. -/
import Derived.Test.YtfchdkgdbdnoiaaDoorSrc
namespace Go.Proofs.YtfchdkgdbdnoiaaDoor
set_option linter.unusedVariables false
open Go.RowKit

end Go.Proofs.YtfchdkgdbdnoiaaDoor
