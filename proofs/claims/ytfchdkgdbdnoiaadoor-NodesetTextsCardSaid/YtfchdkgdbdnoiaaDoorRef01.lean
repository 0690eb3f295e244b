/- The contracts of the reference's sets: Valid, Has, Of. -/
import Derived.Test.YtfchdkgdbdnoiaaDoorUses
namespace Go.Proofs.YtfchdkgdbdnoiaaDoor
set_option linter.unusedVariables false
open Go.RowKit

/-- Nodes in range. -/
def InR (ns : List Int) : Prop := ∀ x ∈ ns, 0 ≤ x ∧ x < 10

theorem foldBit_bit : ∀ (ns : List Int) (s K : Nat), InR ns → (ns.foldl bitS s).testBit K = (s.testBit K || decide ((K : Int) ∈ ns))
  | [], s, K, _ => by simp
  | x :: ns, s, K, h => by
    rw [List.foldl_cons, foldBit_bit ns _ K (fun y hy => h y (List.mem_cons_of_mem _ hy))]
    have hx := h x List.mem_cons_self
    unfold bitS
    rw [if_pos hx, Nat.testBit_or, Nat.testBit_two_pow, Bool.or_assoc]
    congr 1
    rw [Bool.eq_iff_iff]
    simp
    constructor
    · rintro (h | h)
      · left; omega
      · exact .inr h
    · rintro (h | h)
      · left; omega
      · exact .inr h

theorem nodesS_bit {ns : List Int} (K : Nat) (h : InR ns) : (nodesS ns).testBit K = decide ((K : Int) ∈ ns) := by
  unfold nodesS; rw [foldBit_bit ns 0 K h]; simp

end Go.Proofs.YtfchdkgdbdnoiaaDoor
