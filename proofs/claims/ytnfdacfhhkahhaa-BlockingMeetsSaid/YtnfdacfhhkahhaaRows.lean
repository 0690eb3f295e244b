/-
  No cell of these rows narrows 'for every input' (looked for: loops, veiled, ifaces, maps, wideKeys, modest, calm, conditions, laid).
  DERIVED. THE GIVEN ROWS OF THIS SEAT. 2 by the template 'for every input the law returns true; each argument reads behind the call as it read before'; 0 by the template 'total and deterministic' (their statements: YtnfdacfhhkahhaaTotals.lean).
  GIVEN WITH THE SEED: the statements are not yours to turn. If you find one false, say at which input.
  Laid BY PROGRAM, IN A SANDBOX (cutbox-rows.mjs): the forced cells as the released guide's own fill.sh prints them over the translation bada3ce642b8ccf5… (all of the seat's roots in one cut). By AI agents, Wed Nov 11 2026. No macro, syntax, notation, axiom, sorry.
-/
import Derived.Test.YtnfdacfhhkahhaaChecked
import GoSem.Claim
import GoSem.ClaimJoined
import GoSem.ClaimMapViews
import Derived.JoinedTies
import Derived.KernelRfl
namespace Go.Proofs.Ytnfdacfhhkahhaa
/- THE CELL 'sum', in the pinned program and in every row, IS THE sha256 OF THE DUMP (.gsa) THAT YtnfdacfhhkahhaaProg.lean LOADS. Nothing in Lean hashes anything: it is a label: what it is worth is what the hold of that sum in a sandbox is worth. -/
noncomputable def Try.pinned : Pinned := { name := "ytnfdacfhhkahhaa", sum := "bada3ce642b8ccf556315bcadfba3bb3e661f3dc6771e093cd7b314ac831dfc3", checked := Try.checked }
namespace Rows
def none {H : Type} : Left H := { results := [], args := [] }

/-- 'trustquorumlaw11.BlockingMeets': WHATEVER THE INPUT: true; the input reads as it did. -/
def blockingMeetsSpec : ChangeSpec := { name := "blockingMeets", fn := fun _ => fun
  | [d] => { results := [.lit (.bool true)], args := [d] }
  | _ => none }
def blockingMeetsRow : OpenClaim := { program := "ytnfdacfhhkahhaa", sum := "bada3ce642b8ccf556315bcadfba3bb3e661f3dc6771e093cd7b314ac831dfc3", func := "trustquorum/trustquorumlaw11.BlockingMeets", spec := "blockingMeets", unfollowed := true, recurses := true, apart := false }
def BlockingMeetsSaid : Prop := blockingMeetsRow.holds Try.pinned (OpenSpec.ofChange blockingMeetsSpec)

/-- ITS FALSE NEIGHBOUR: 'it returns false'. Refute it at one input. -/
def blockingMeetsWrong : ChangeSpec := { name := "blockingMeets", fn := fun _ => fun
  | [d] => { results := [.lit (.bool false)], args := [d] }
  | _ => none }
def BlockingMeetsWrongFalsely : Prop := blockingMeetsRow.holds Try.pinned (OpenSpec.ofChange blockingMeetsWrong)

/-- 'trustquorumlaw18.FederatedBelieves': WHATEVER THE INPUT: true; the input reads as it did. -/
def federatedBelievesSpec : ChangeSpec := { name := "federatedBelieves", fn := fun _ => fun
  | [d] => { results := [.lit (.bool true)], args := [d] }
  | _ => none }
def federatedBelievesRow : OpenClaim := { program := "ytnfdacfhhkahhaa", sum := "bada3ce642b8ccf556315bcadfba3bb3e661f3dc6771e093cd7b314ac831dfc3", func := "trustquorum/trustquorumlaw18.FederatedBelieves", spec := "federatedBelieves", recurses := true, apart := false }
def FederatedBelievesSaid : Prop := federatedBelievesRow.holds Try.pinned (OpenSpec.ofChange federatedBelievesSpec)

/-- ITS FALSE NEIGHBOUR: 'it returns false'. Refute it at one input. -/
def federatedBelievesWrong : ChangeSpec := { name := "federatedBelieves", fn := fun _ => fun
  | [d] => { results := [.lit (.bool false)], args := [d] }
  | _ => none }
def FederatedBelievesWrongFalsely : Prop := federatedBelievesRow.holds Try.pinned (OpenSpec.ofChange federatedBelievesWrong)

/- THE SECOND FORM. 'bulk': how many values and letters a reading holds, each counted each time it is reached (what is shared counts as often as it is met; a slice's spare places count too). A statement '..UptoSaid' is the law's where the arguments, and the package variables that the reading takes, are together of bulk at most 1048576: NARROWER than '..Said'. Prove '..Said' where nothing that the law and all that it calls make is longer than what came in: it says more and counts as full. Else prove '..UptoSaid'. A law counts once. -/
mutual
def uptoBulk {H : Type} : DataW H → Nat
  | .lit (.string bytes) => bytes.length + 1
  | .lit _ => 1
  | .nil => 1
  | .ptr d => uptoBulk d + 1
  | .slice elems spare => uptoBulkAll elems + uptoBulkAll spare + 1
  | .agg parts => uptoBulkAll parts + 1
  | .iface _ d => uptoBulk d + 1
  | .map entries => uptoBulkEntries entries + 1
  | .held _ => 1
def uptoBulkAll {H : Type} : List (DataW H) → Nat
  | [] => 0
  | d :: r => uptoBulk d + uptoBulkAll r
def uptoBulkEntries {H : Type} : List (Lit × DataW H) → Nat
  | [] => 0
  | x :: r => uptoBulkEntry x + uptoBulkEntries r
def uptoBulkEntry {H : Type} : Lit × DataW H → Nat
  | (.string bytes, d) => bytes.length + uptoBulk d + 1
  | (_, d) => uptoBulk d + 1
 end
def uptoSmall : (H : Type) → List (DataW H) → Bool := fun _ ds => decide (uptoBulkAll ds ≤ 1048576)
def OpenSpec.upto (s : _root_.Go.ChangeSpec) : _root_.Go.OpenSpec := { _root_.Go.OpenSpec.ofChange s with cond := some uptoSmall }

/-- 'trustquorumlaw11.BlockingMeets', WHERE WHAT IT READS IS OF BULK AT MOST 1048576: true; the input reads as it did. -/
def blockingMeetsUptoRow : OpenClaim := { program := "ytnfdacfhhkahhaa", sum := "bada3ce642b8ccf556315bcadfba3bb3e661f3dc6771e093cd7b314ac831dfc3", func := "trustquorum/trustquorumlaw11.BlockingMeets", spec := "blockingMeets", unfollowed := true, recurses := true, apart := false, narrowed := true }
def BlockingMeetsUptoSaid : Prop := blockingMeetsUptoRow.holds Try.pinned (OpenSpec.upto blockingMeetsSpec)

/-- 'trustquorumlaw18.FederatedBelieves', WHERE WHAT IT READS IS OF BULK AT MOST 1048576: true; the input reads as it did. -/
def federatedBelievesUptoRow : OpenClaim := { program := "ytnfdacfhhkahhaa", sum := "bada3ce642b8ccf556315bcadfba3bb3e661f3dc6771e093cd7b314ac831dfc3", func := "trustquorum/trustquorumlaw18.FederatedBelieves", spec := "federatedBelieves", recurses := true, apart := false, narrowed := true }
def FederatedBelievesUptoSaid : Prop := federatedBelievesUptoRow.holds Try.pinned (OpenSpec.upto federatedBelievesSpec)

end Rows
end Go.Proofs.Ytnfdacfhhkahhaa
