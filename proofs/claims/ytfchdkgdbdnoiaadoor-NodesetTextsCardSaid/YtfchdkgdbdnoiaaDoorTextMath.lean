/- A set comes back from its text and from its nodes. -/
import Derived.Test.YtfchdkgdbdnoiaaDoorText01
import Derived.Test.YtfchdkgdbdnoiaaDoorUses
namespace Go.Proofs.YtfchdkgdbdnoiaaDoor
set_option linter.unusedVariables false
set_option linter.unusedSimpArgs false
open Go.RowKit

/-- What Parse gathers. -/
def tbit (s : Nat) (b : UInt8) : Nat := if 48 ≤ b.toNat ∧ b.toNat ≤ 57 then s ||| 2 ^ (b.toNat - 48) else s

theorem tbit_lt {s : Nat} {b : UInt8} (h : s < 1024) : tbit s b < 1024 := by
  unfold tbit
  split
  · exact Nat.or_lt_two_pow (n := 10) h (Nat.lt_of_le_of_lt (Nat.pow_le_pow_right (by omega) (show b.toNat - 48 ≤ 9 by omega)) (by omega))
  · exact h

theorem tfold_lt : ∀ (l : List UInt8) (s : Nat), s < 1024 → l.foldl tbit s < 1024
  | [], s, h => h
  | b :: l, s, h => tfold_lt l _ (tbit_lt h)

set_option maxRecDepth 100000 in
theorem text_back (s : Nat) (hs : s < 1024) : (textN s).foldl tbit 0 = s ∧ (textN s).length ≤ 30 := by
  have all : ∀ s : Fin 1024, (textN s.val).foldl tbit 0 = s.val ∧ (textN s.val).length ≤ 30 := by decide +kernel
  exact all ⟨s, hs⟩

theorem text_inj {s t : Nat} (hs : s < 1024) (ht : t < 1024) (h : textN s = textN t) : s = t := by
  rw [← (text_back s hs).1, h, (text_back t ht).1]

set_option maxRecDepth 100000 in
theorem nodes_back (s : Nat) (hs : s < 1024) : nodesS (zs (nodN s 10)) = s := by
  have all : ∀ s : Fin 1024, nodesS (zs (nodN s.val 10)) = s.val := by decide +kernel
  exact all ⟨s, hs⟩

theorem tfold_take {t : List UInt8} {k : Nat} {b : UInt8} (h : t[k]? = some b) : (t.take (k + 1)).foldl tbit 0 = tbit ((t.take k).foldl tbit 0) b := by
  rw [List.take_add_one, h, List.foldl_append]; rfl

end Go.Proofs.YtfchdkgdbdnoiaaDoor
