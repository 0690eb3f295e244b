/- The contract of prepare.Join over the source's ballots. -/
import Derived.Test.YtoceogdpkfcghaaDoorBalMem
import Derived.Deep.DeepCutAuto
namespace Go.Proofs.YtoceogdpkfcghaaDoor
set_option linter.unusedVariables false
set_option linter.unusedSimpArgs false
open Go.RowKit

/-- Joining a ballot: what is prepared, and the prime. -/
def joinB (c : Int) (i : Nat) (d : Int) (j : Nat) (f : Int) (k : Nat) : (Int × Nat) × (Int × Nat) :=
  if zeroB f k then ((c, i), (d, j)) else if zeroB c i then ((f, k), (d, j)) else
  if lessB c i f k then (if decide (i = k) then (if decide (j = k) then ((f, k), (0, 0)) else ((f, k), (d, j))) else ((f, k), (c, i)))
  else if lessB f k c i && (!decide (k = i) && (zeroB d j || lessB d j f k)) then ((c, i), (f, k)) else ((c, i), (d, j))

def balV (b : Int × Nat) : Value := .agg #[.int .i64 b.1, .string (valOf b.2)]

end Go.Proofs.YtoceogdpkfcghaaDoor
