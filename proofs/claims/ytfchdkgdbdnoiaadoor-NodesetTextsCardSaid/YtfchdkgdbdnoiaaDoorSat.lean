/- The contracts of threshold.Satisfied and threshold.Blocked. -/
import Derived.Test.YtfchdkgdbdnoiaaDoorTrust
namespace Go.Proofs.YtfchdkgdbdnoiaaDoor
set_option linter.unusedVariables false
open Go.RowKit

def satB (d : Nat) (T : Tree) (s : Int) : Bool := setB s && holdsT d (hasB s) T

def blkB (d : Nat) (T : Tree) (s : Int) : Bool := setB s && !holdsT d (hasB (1023 - s)) T

theorem andNot_fact (S : Nat) (h : S ≤ 1023) : bits .andNot .i64 1023 (S : Int) = 1023 - (S : Int) := by
  have : ∀ S : Fin 1024, bits .andNot .i64 1023 ((S.val : Nat) : Int) = 1023 - ((S.val : Nat) : Int) := by decide +kernel
  exact this ⟨S, by omega⟩

end Go.Proofs.YtfchdkgdbdnoiaaDoor
