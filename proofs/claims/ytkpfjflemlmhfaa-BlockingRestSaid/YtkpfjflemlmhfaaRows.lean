/-
  No cell of these rows narrows 'for every input' (looked for: loops, veiled, ifaces, maps, wideKeys, modest, calm, conditions, laid).
  DERIVED. THE GIVEN ROWS OF THIS SEAT. 9 by the template 'for every input the law returns true; each argument reads behind the call as it read before'; 0 by the template 'total and deterministic' (their statements: YtkpfjflemlmhfaaTotals.lean).
  GIVEN WITH THE SEED: the statements are not yours to turn. If you find one false, say at which input.
  Laid BY PROGRAM, IN A SANDBOX (cutbox-rows.mjs): the forced cells as the released guide's own fill.sh prints them over the translation ec1ab7e77f9bb5a4… (all of the seat's roots in one cut). By AI agents, Wed Nov 11 2026. No macro, syntax, notation, axiom, sorry.
-/
import Derived.Test.YtkpfjflemlmhfaaChecked
import GoSem.Claim
import GoSem.ClaimJoined
import GoSem.ClaimMapViews
import Derived.JoinedTies
import Derived.KernelRfl
namespace Go.Proofs.Ytkpfjflemlmhfaa
/- THE CELL 'sum', in the pinned program and in every row, IS THE sha256 OF THE DUMP (.gsa) THAT YtkpfjflemlmhfaaProg.lean LOADS. Nothing in Lean hashes anything: it is a label: what it is worth is what the hold of that sum in a sandbox is worth. -/
noncomputable def Try.pinned : Pinned := { name := "ytkpfjflemlmhfaa", sum := "ec1ab7e77f9bb5a4adc46574e8f03af76b29d3868a6471b3b188358f73dcc504", checked := Try.checked }
namespace Rows
def none {H : Type} : Left H := { results := [], args := [] }

/-- 'trustquorumlaw09.ClosureUnion': WHATEVER THE INPUT: true; the input reads as it did. -/
def closureUnionSpec : ChangeSpec := { name := "closureUnion", fn := fun _ => fun
  | [d] => { results := [.lit (.bool true)], args := [d] }
  | _ => none }
def closureUnionRow : OpenClaim := { program := "ytkpfjflemlmhfaa", sum := "ec1ab7e77f9bb5a4adc46574e8f03af76b29d3868a6471b3b188358f73dcc504", func := "trustquorum/trustquorumlaw09.ClosureUnion", spec := "closureUnion", recurses := true, apart := false }
def ClosureUnionSaid : Prop := closureUnionRow.holds Try.pinned (OpenSpec.ofChange closureUnionSpec)

/-- ITS FALSE NEIGHBOUR: 'it returns false'. Refute it at one input. -/
def closureUnionWrong : ChangeSpec := { name := "closureUnion", fn := fun _ => fun
  | [d] => { results := [.lit (.bool false)], args := [d] }
  | _ => none }
def ClosureUnionWrongFalsely : Prop := closureUnionRow.holds Try.pinned (OpenSpec.ofChange closureUnionWrong)

/-- 'trustquorumlaw09.ClosureGreatest': WHATEVER THE INPUT: true; the input reads as it did. -/
def closureGreatestSpec : ChangeSpec := { name := "closureGreatest", fn := fun _ => fun
  | [d] => { results := [.lit (.bool true)], args := [d] }
  | _ => none }
def closureGreatestRow : OpenClaim := { program := "ytkpfjflemlmhfaa", sum := "ec1ab7e77f9bb5a4adc46574e8f03af76b29d3868a6471b3b188358f73dcc504", func := "trustquorum/trustquorumlaw09.ClosureGreatest", spec := "closureGreatest", recurses := true, apart := false }
def ClosureGreatestSaid : Prop := closureGreatestRow.holds Try.pinned (OpenSpec.ofChange closureGreatestSpec)

/-- ITS FALSE NEIGHBOUR: 'it returns false'. Refute it at one input. -/
def closureGreatestWrong : ChangeSpec := { name := "closureGreatest", fn := fun _ => fun
  | [d] => { results := [.lit (.bool false)], args := [d] }
  | _ => none }
def ClosureGreatestWrongFalsely : Prop := closureGreatestRow.holds Try.pinned (OpenSpec.ofChange closureGreatestWrong)

/-- 'trustquorumlaw09.ClosureRestricts': WHATEVER THE INPUT: true; the input reads as it did. -/
def closureRestrictsSpec : ChangeSpec := { name := "closureRestricts", fn := fun _ => fun
  | [d] => { results := [.lit (.bool true)], args := [d] }
  | _ => none }
def closureRestrictsRow : OpenClaim := { program := "ytkpfjflemlmhfaa", sum := "ec1ab7e77f9bb5a4adc46574e8f03af76b29d3868a6471b3b188358f73dcc504", func := "trustquorum/trustquorumlaw09.ClosureRestricts", spec := "closureRestricts", recurses := true, apart := false }
def ClosureRestrictsSaid : Prop := closureRestrictsRow.holds Try.pinned (OpenSpec.ofChange closureRestrictsSpec)

/-- ITS FALSE NEIGHBOUR: 'it returns false'. Refute it at one input. -/
def closureRestrictsWrong : ChangeSpec := { name := "closureRestricts", fn := fun _ => fun
  | [d] => { results := [.lit (.bool false)], args := [d] }
  | _ => none }
def ClosureRestrictsWrongFalsely : Prop := closureRestrictsRow.holds Try.pinned (OpenSpec.ofChange closureRestrictsWrong)

/-- 'trustquorumlaw09.ClosureOrders': WHATEVER THE INPUT: true; the input reads as it did. -/
def closureOrdersSpec : ChangeSpec := { name := "closureOrders", fn := fun _ => fun
  | [d] => { results := [.lit (.bool true)], args := [d] }
  | _ => none }
def closureOrdersRow : OpenClaim := { program := "ytkpfjflemlmhfaa", sum := "ec1ab7e77f9bb5a4adc46574e8f03af76b29d3868a6471b3b188358f73dcc504", func := "trustquorum/trustquorumlaw09.ClosureOrders", spec := "closureOrders", recurses := true, apart := false }
def ClosureOrdersSaid : Prop := closureOrdersRow.holds Try.pinned (OpenSpec.ofChange closureOrdersSpec)

/-- ITS FALSE NEIGHBOUR: 'it returns false'. Refute it at one input. -/
def closureOrdersWrong : ChangeSpec := { name := "closureOrders", fn := fun _ => fun
  | [d] => { results := [.lit (.bool false)], args := [d] }
  | _ => none }
def ClosureOrdersWrongFalsely : Prop := closureOrdersRow.holds Try.pinned (OpenSpec.ofChange closureOrdersWrong)

/-- 'trustquorumlaw18.FederatedGrows': WHATEVER THE INPUT: true; the input reads as it did. -/
def federatedGrowsSpec : ChangeSpec := { name := "federatedGrows", fn := fun _ => fun
  | [d] => { results := [.lit (.bool true)], args := [d] }
  | _ => none }
def federatedGrowsRow : OpenClaim := { program := "ytkpfjflemlmhfaa", sum := "ec1ab7e77f9bb5a4adc46574e8f03af76b29d3868a6471b3b188358f73dcc504", func := "trustquorum/trustquorumlaw18.FederatedGrows", spec := "federatedGrows", recurses := true, apart := false }
def FederatedGrowsSaid : Prop := federatedGrowsRow.holds Try.pinned (OpenSpec.ofChange federatedGrowsSpec)

/-- ITS FALSE NEIGHBOUR: 'it returns false'. Refute it at one input. -/
def federatedGrowsWrong : ChangeSpec := { name := "federatedGrows", fn := fun _ => fun
  | [d] => { results := [.lit (.bool false)], args := [d] }
  | _ => none }
def FederatedGrowsWrongFalsely : Prop := federatedGrowsRow.holds Try.pinned (OpenSpec.ofChange federatedGrowsWrong)

/-- 'trustquorumlaw18.FederatedView': WHATEVER THE INPUT: true; the input reads as it did. -/
def federatedViewSpec : ChangeSpec := { name := "federatedView", fn := fun _ => fun
  | [d] => { results := [.lit (.bool true)], args := [d] }
  | _ => none }
def federatedViewRow : OpenClaim := { program := "ytkpfjflemlmhfaa", sum := "ec1ab7e77f9bb5a4adc46574e8f03af76b29d3868a6471b3b188358f73dcc504", func := "trustquorum/trustquorumlaw18.FederatedView", spec := "federatedView", unfollowed := true, recurses := true, apart := false }
def FederatedViewSaid : Prop := federatedViewRow.holds Try.pinned (OpenSpec.ofChange federatedViewSpec)

/-- ITS FALSE NEIGHBOUR: 'it returns false'. Refute it at one input. -/
def federatedViewWrong : ChangeSpec := { name := "federatedView", fn := fun _ => fun
  | [d] => { results := [.lit (.bool false)], args := [d] }
  | _ => none }
def FederatedViewWrongFalsely : Prop := federatedViewRow.holds Try.pinned (OpenSpec.ofChange federatedViewWrong)

/-- 'trustquorumlaw11.BlockingGrows': WHATEVER THE INPUT: true; the input reads as it did. -/
def blockingGrowsSpec : ChangeSpec := { name := "blockingGrows", fn := fun _ => fun
  | [d] => { results := [.lit (.bool true)], args := [d] }
  | _ => none }
def blockingGrowsRow : OpenClaim := { program := "ytkpfjflemlmhfaa", sum := "ec1ab7e77f9bb5a4adc46574e8f03af76b29d3868a6471b3b188358f73dcc504", func := "trustquorum/trustquorumlaw11.BlockingGrows", spec := "blockingGrows", unfollowed := true, recurses := true, apart := false }
def BlockingGrowsSaid : Prop := blockingGrowsRow.holds Try.pinned (OpenSpec.ofChange blockingGrowsSpec)

/-- ITS FALSE NEIGHBOUR: 'it returns false'. Refute it at one input. -/
def blockingGrowsWrong : ChangeSpec := { name := "blockingGrows", fn := fun _ => fun
  | [d] => { results := [.lit (.bool false)], args := [d] }
  | _ => none }
def BlockingGrowsWrongFalsely : Prop := blockingGrowsRow.holds Try.pinned (OpenSpec.ofChange blockingGrowsWrong)

/-- 'trustquorumlaw11.BlockingMeets': WHATEVER THE INPUT: true; the input reads as it did. -/
def blockingMeetsSpec : ChangeSpec := { name := "blockingMeets", fn := fun _ => fun
  | [d] => { results := [.lit (.bool true)], args := [d] }
  | _ => none }
def blockingMeetsRow : OpenClaim := { program := "ytkpfjflemlmhfaa", sum := "ec1ab7e77f9bb5a4adc46574e8f03af76b29d3868a6471b3b188358f73dcc504", func := "trustquorum/trustquorumlaw11.BlockingMeets", spec := "blockingMeets", unfollowed := true, recurses := true, apart := false }
def BlockingMeetsSaid : Prop := blockingMeetsRow.holds Try.pinned (OpenSpec.ofChange blockingMeetsSpec)

/-- ITS FALSE NEIGHBOUR: 'it returns false'. Refute it at one input. -/
def blockingMeetsWrong : ChangeSpec := { name := "blockingMeets", fn := fun _ => fun
  | [d] => { results := [.lit (.bool false)], args := [d] }
  | _ => none }
def BlockingMeetsWrongFalsely : Prop := blockingMeetsRow.holds Try.pinned (OpenSpec.ofChange blockingMeetsWrong)

/-- 'trustquorumlaw11.BlockingRest': WHATEVER THE INPUT: true; the input reads as it did. -/
def blockingRestSpec : ChangeSpec := { name := "blockingRest", fn := fun _ => fun
  | [d] => { results := [.lit (.bool true)], args := [d] }
  | _ => none }
def blockingRestRow : OpenClaim := { program := "ytkpfjflemlmhfaa", sum := "ec1ab7e77f9bb5a4adc46574e8f03af76b29d3868a6471b3b188358f73dcc504", func := "trustquorum/trustquorumlaw11.BlockingRest", spec := "blockingRest", unfollowed := true, recurses := true, apart := false }
def BlockingRestSaid : Prop := blockingRestRow.holds Try.pinned (OpenSpec.ofChange blockingRestSpec)

/-- ITS FALSE NEIGHBOUR: 'it returns false'. Refute it at one input. -/
def blockingRestWrong : ChangeSpec := { name := "blockingRest", fn := fun _ => fun
  | [d] => { results := [.lit (.bool false)], args := [d] }
  | _ => none }
def BlockingRestWrongFalsely : Prop := blockingRestRow.holds Try.pinned (OpenSpec.ofChange blockingRestWrong)

/- THE SECOND FORM. 'bulk': how many values and letters a reading holds, each counted each time it is reached (what is shared counts as often as it is met; a slice's spare places count too). A statement '..UptoSaid' is the law's where the arguments, and the package variables that the reading takes, are together of bulk at most 1048576: NARROWER than '..Said'. Prove '..Said' where nothing that the law and all that it calls make is longer than what came in: it says more and counts as full. Else prove '..UptoSaid'. A law counts once. -/
mutual
def uptoBulk {H : Type} : DataW H → Nat
  | .lit (.string bytes) => bytes.length + 1
  | .lit _ => 1
  | .nil => 1
  | .ptr d => uptoBulk d + 1
  | .slice elems spare => uptoBulkAll elems + uptoBulkAll spare + 1
  | .agg parts => uptoBulkAll parts + 1
  | .iface _ d => uptoBulk d + 1
  | .map entries => uptoBulkEntries entries + 1
  | .held _ => 1
def uptoBulkAll {H : Type} : List (DataW H) → Nat
  | [] => 0
  | d :: r => uptoBulk d + uptoBulkAll r
def uptoBulkEntries {H : Type} : List (Lit × DataW H) → Nat
  | [] => 0
  | x :: r => uptoBulkEntry x + uptoBulkEntries r
def uptoBulkEntry {H : Type} : Lit × DataW H → Nat
  | (.string bytes, d) => bytes.length + uptoBulk d + 1
  | (_, d) => uptoBulk d + 1
 end
def uptoSmall : (H : Type) → List (DataW H) → Bool := fun _ ds => decide (uptoBulkAll ds ≤ 1048576)
def OpenSpec.upto (s : _root_.Go.ChangeSpec) : _root_.Go.OpenSpec := { _root_.Go.OpenSpec.ofChange s with cond := some uptoSmall }

/-- 'trustquorumlaw09.ClosureUnion', WHERE WHAT IT READS IS OF BULK AT MOST 1048576: true; the input reads as it did. -/
def closureUnionUptoRow : OpenClaim := { program := "ytkpfjflemlmhfaa", sum := "ec1ab7e77f9bb5a4adc46574e8f03af76b29d3868a6471b3b188358f73dcc504", func := "trustquorum/trustquorumlaw09.ClosureUnion", spec := "closureUnion", recurses := true, apart := false, narrowed := true }
def ClosureUnionUptoSaid : Prop := closureUnionUptoRow.holds Try.pinned (OpenSpec.upto closureUnionSpec)

/-- 'trustquorumlaw09.ClosureGreatest', WHERE WHAT IT READS IS OF BULK AT MOST 1048576: true; the input reads as it did. -/
def closureGreatestUptoRow : OpenClaim := { program := "ytkpfjflemlmhfaa", sum := "ec1ab7e77f9bb5a4adc46574e8f03af76b29d3868a6471b3b188358f73dcc504", func := "trustquorum/trustquorumlaw09.ClosureGreatest", spec := "closureGreatest", recurses := true, apart := false, narrowed := true }
def ClosureGreatestUptoSaid : Prop := closureGreatestUptoRow.holds Try.pinned (OpenSpec.upto closureGreatestSpec)

/-- 'trustquorumlaw09.ClosureRestricts', WHERE WHAT IT READS IS OF BULK AT MOST 1048576: true; the input reads as it did. -/
def closureRestrictsUptoRow : OpenClaim := { program := "ytkpfjflemlmhfaa", sum := "ec1ab7e77f9bb5a4adc46574e8f03af76b29d3868a6471b3b188358f73dcc504", func := "trustquorum/trustquorumlaw09.ClosureRestricts", spec := "closureRestricts", recurses := true, apart := false, narrowed := true }
def ClosureRestrictsUptoSaid : Prop := closureRestrictsUptoRow.holds Try.pinned (OpenSpec.upto closureRestrictsSpec)

/-- 'trustquorumlaw09.ClosureOrders', WHERE WHAT IT READS IS OF BULK AT MOST 1048576: true; the input reads as it did. -/
def closureOrdersUptoRow : OpenClaim := { program := "ytkpfjflemlmhfaa", sum := "ec1ab7e77f9bb5a4adc46574e8f03af76b29d3868a6471b3b188358f73dcc504", func := "trustquorum/trustquorumlaw09.ClosureOrders", spec := "closureOrders", recurses := true, apart := false, narrowed := true }
def ClosureOrdersUptoSaid : Prop := closureOrdersUptoRow.holds Try.pinned (OpenSpec.upto closureOrdersSpec)

/-- 'trustquorumlaw18.FederatedGrows', WHERE WHAT IT READS IS OF BULK AT MOST 1048576: true; the input reads as it did. -/
def federatedGrowsUptoRow : OpenClaim := { program := "ytkpfjflemlmhfaa", sum := "ec1ab7e77f9bb5a4adc46574e8f03af76b29d3868a6471b3b188358f73dcc504", func := "trustquorum/trustquorumlaw18.FederatedGrows", spec := "federatedGrows", recurses := true, apart := false, narrowed := true }
def FederatedGrowsUptoSaid : Prop := federatedGrowsUptoRow.holds Try.pinned (OpenSpec.upto federatedGrowsSpec)

/-- 'trustquorumlaw18.FederatedView', WHERE WHAT IT READS IS OF BULK AT MOST 1048576: true; the input reads as it did. -/
def federatedViewUptoRow : OpenClaim := { program := "ytkpfjflemlmhfaa", sum := "ec1ab7e77f9bb5a4adc46574e8f03af76b29d3868a6471b3b188358f73dcc504", func := "trustquorum/trustquorumlaw18.FederatedView", spec := "federatedView", unfollowed := true, recurses := true, apart := false, narrowed := true }
def FederatedViewUptoSaid : Prop := federatedViewUptoRow.holds Try.pinned (OpenSpec.upto federatedViewSpec)

/-- 'trustquorumlaw11.BlockingGrows', WHERE WHAT IT READS IS OF BULK AT MOST 1048576: true; the input reads as it did. -/
def blockingGrowsUptoRow : OpenClaim := { program := "ytkpfjflemlmhfaa", sum := "ec1ab7e77f9bb5a4adc46574e8f03af76b29d3868a6471b3b188358f73dcc504", func := "trustquorum/trustquorumlaw11.BlockingGrows", spec := "blockingGrows", unfollowed := true, recurses := true, apart := false, narrowed := true }
def BlockingGrowsUptoSaid : Prop := blockingGrowsUptoRow.holds Try.pinned (OpenSpec.upto blockingGrowsSpec)

/-- 'trustquorumlaw11.BlockingMeets', WHERE WHAT IT READS IS OF BULK AT MOST 1048576: true; the input reads as it did. -/
def blockingMeetsUptoRow : OpenClaim := { program := "ytkpfjflemlmhfaa", sum := "ec1ab7e77f9bb5a4adc46574e8f03af76b29d3868a6471b3b188358f73dcc504", func := "trustquorum/trustquorumlaw11.BlockingMeets", spec := "blockingMeets", unfollowed := true, recurses := true, apart := false, narrowed := true }
def BlockingMeetsUptoSaid : Prop := blockingMeetsUptoRow.holds Try.pinned (OpenSpec.upto blockingMeetsSpec)

/-- 'trustquorumlaw11.BlockingRest', WHERE WHAT IT READS IS OF BULK AT MOST 1048576: true; the input reads as it did. -/
def blockingRestUptoRow : OpenClaim := { program := "ytkpfjflemlmhfaa", sum := "ec1ab7e77f9bb5a4adc46574e8f03af76b29d3868a6471b3b188358f73dcc504", func := "trustquorum/trustquorumlaw11.BlockingRest", spec := "blockingRest", unfollowed := true, recurses := true, apart := false, narrowed := true }
def BlockingRestUptoSaid : Prop := blockingRestUptoRow.holds Try.pinned (OpenSpec.upto blockingRestSpec)

end Rows
end Go.Proofs.Ytkpfjflemlmhfaa
