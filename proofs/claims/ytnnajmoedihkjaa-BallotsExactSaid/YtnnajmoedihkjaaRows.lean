/-
  No cell of these rows narrows 'for every input' (looked for: loops, veiled, ifaces, maps, wideKeys, modest, calm, conditions, laid).
  DERIVED. THE GIVEN ROWS OF THIS SEAT. 2 by the template 'for every input the law returns true; each argument reads behind the call as it read before'; 0 by the template 'total and deterministic' (their statements: YtnnajmoedihkjaaTotals.lean).
  GIVEN WITH THE SEED: the statements are not yours to turn. If you find one false, say at which input.
  Laid BY PROGRAM, IN A SANDBOX (cutbox-rows.mjs): the forced cells as the released guide's own fill.sh prints them over the translation f6da485ae4ba43cc… (all of the seat's roots in one cut). By AI agents, Wed Nov 11 2026. No macro, syntax, notation, axiom, sorry.
-/
import Derived.Test.YtnnajmoedihkjaaChecked
import GoSem.Claim
import GoSem.ClaimJoined
import GoSem.ClaimMapViews
import Derived.JoinedTies
import Derived.KernelRfl
namespace Go.Proofs.Ytnnajmoedihkjaa
/- THE CELL 'sum', in the pinned program and in every row, IS THE sha256 OF THE DUMP (.gsa) THAT YtnnajmoedihkjaaProg.lean LOADS. Nothing in Lean hashes anything: it is a label: what it is worth is what the hold of that sum in a sandbox is worth. -/
noncomputable def Try.pinned : Pinned := { name := "ytnnajmoedihkjaa", sum := "f6da485ae4ba43cc3856973d2b568bf22be77515052fc1b28bdba3a1147c2d5f", checked := Try.checked }
namespace Rows
def none {H : Type} : Left H := { results := [], args := [] }

/-- 'trustquorumlaw23.BallotsExact': WHATEVER THE INPUT: true; the input reads as it did. -/
def ballotsExactSpec : ChangeSpec := { name := "ballotsExact", fn := fun _ => fun
  | [d1, d2, d3, d4, d5, d6] => { results := [.lit (.bool true)], args := [d1, d2, d3, d4, d5, d6] }
  | _ => none }
def ballotsExactRow : OpenClaim := { program := "ytnnajmoedihkjaa", sum := "f6da485ae4ba43cc3856973d2b568bf22be77515052fc1b28bdba3a1147c2d5f", func := "trustquorum/trustquorumlaw23.BallotsExact", spec := "ballotsExact", apart := false }
def BallotsExactSaid : Prop := ballotsExactRow.holds Try.pinned (OpenSpec.ofChange ballotsExactSpec)

/-- ITS FALSE NEIGHBOUR: 'it returns false'. Refute it at one input. -/
def ballotsExactWrong : ChangeSpec := { name := "ballotsExact", fn := fun _ => fun
  | [d1, d2, d3, d4, d5, d6] => { results := [.lit (.bool false)], args := [d1, d2, d3, d4, d5, d6] }
  | _ => none }
def BallotsExactWrongFalsely : Prop := ballotsExactRow.holds Try.pinned (OpenSpec.ofChange ballotsExactWrong)

/-- 'trustquorumlaw35.AmountExact': WHATEVER THE INPUT: true; the input reads as it did. -/
def amountExactSpec : ChangeSpec := { name := "amountExact", fn := fun _ => fun
  | [d1, d2, d3, d4, d5, d6, d7] => { results := [.lit (.bool true)], args := [d1, d2, d3, d4, d5, d6, d7] }
  | _ => none }
def amountExactRow : OpenClaim := { program := "ytnnajmoedihkjaa", sum := "f6da485ae4ba43cc3856973d2b568bf22be77515052fc1b28bdba3a1147c2d5f", func := "trustquorum/trustquorumlaw35.AmountExact", spec := "amountExact", apart := false }
def AmountExactSaid : Prop := amountExactRow.holds Try.pinned (OpenSpec.ofChange amountExactSpec)

/-- ITS FALSE NEIGHBOUR: 'it returns false'. Refute it at one input. -/
def amountExactWrong : ChangeSpec := { name := "amountExact", fn := fun _ => fun
  | [d1, d2, d3, d4, d5, d6, d7] => { results := [.lit (.bool false)], args := [d1, d2, d3, d4, d5, d6, d7] }
  | _ => none }
def AmountExactWrongFalsely : Prop := amountExactRow.holds Try.pinned (OpenSpec.ofChange amountExactWrong)

/- THE SECOND FORM. 'bulk': how many values and letters a reading holds, each counted each time it is reached (what is shared counts as often as it is met; a slice's spare places count too). A statement '..UptoSaid' is the law's where the arguments, and the package variables that the reading takes, are together of bulk at most 1048576: NARROWER than '..Said'. Prove '..Said' where nothing that the law and all that it calls make is longer than what came in: it says more and counts as full. Else prove '..UptoSaid'. A law counts once. -/
mutual
def uptoBulk {H : Type} : DataW H → Nat
  | .lit (.string bytes) => bytes.length + 1
  | .lit _ => 1
  | .nil => 1
  | .ptr d => uptoBulk d + 1
  | .slice elems spare => uptoBulkAll elems + uptoBulkAll spare + 1
  | .agg parts => uptoBulkAll parts + 1
  | .iface _ d => uptoBulk d + 1
  | .map entries => uptoBulkEntries entries + 1
  | .held _ => 1
def uptoBulkAll {H : Type} : List (DataW H) → Nat
  | [] => 0
  | d :: r => uptoBulk d + uptoBulkAll r
def uptoBulkEntries {H : Type} : List (Lit × DataW H) → Nat
  | [] => 0
  | x :: r => uptoBulkEntry x + uptoBulkEntries r
def uptoBulkEntry {H : Type} : Lit × DataW H → Nat
  | (.string bytes, d) => bytes.length + uptoBulk d + 1
  | (_, d) => uptoBulk d + 1
 end
def uptoSmall : (H : Type) → List (DataW H) → Bool := fun _ ds => decide (uptoBulkAll ds ≤ 1048576)
def OpenSpec.upto (s : _root_.Go.ChangeSpec) : _root_.Go.OpenSpec := { _root_.Go.OpenSpec.ofChange s with cond := some uptoSmall }

/-- 'trustquorumlaw23.BallotsExact', WHERE WHAT IT READS IS OF BULK AT MOST 1048576: true; the input reads as it did. -/
def ballotsExactUptoRow : OpenClaim := { program := "ytnnajmoedihkjaa", sum := "f6da485ae4ba43cc3856973d2b568bf22be77515052fc1b28bdba3a1147c2d5f", func := "trustquorum/trustquorumlaw23.BallotsExact", spec := "ballotsExact", apart := false, narrowed := true }
def BallotsExactUptoSaid : Prop := ballotsExactUptoRow.holds Try.pinned (OpenSpec.upto ballotsExactSpec)

/-- 'trustquorumlaw35.AmountExact', WHERE WHAT IT READS IS OF BULK AT MOST 1048576: true; the input reads as it did. -/
def amountExactUptoRow : OpenClaim := { program := "ytnnajmoedihkjaa", sum := "f6da485ae4ba43cc3856973d2b568bf22be77515052fc1b28bdba3a1147c2d5f", func := "trustquorum/trustquorumlaw35.AmountExact", spec := "amountExact", apart := false, narrowed := true }
def AmountExactUptoSaid : Prop := amountExactUptoRow.holds Try.pinned (OpenSpec.upto amountExactSpec)

end Rows
end Go.Proofs.Ytnnajmoedihkjaa
