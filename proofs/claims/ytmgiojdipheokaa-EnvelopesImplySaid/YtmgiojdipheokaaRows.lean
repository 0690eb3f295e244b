/-
  No cell of these rows narrows 'for every input' (looked for: loops, veiled, ifaces, maps, wideKeys, modest, calm, conditions, laid).
  DERIVED. THE GIVEN ROWS OF THIS SEAT. 12 by the template 'for every input the law returns true; each argument reads behind the call as it read before'; 0 by the template 'total and deterministic' (their statements: YtmgiojdipheokaaTotals.lean).
  GIVEN WITH THE SEED: the statements are not yours to turn. If you find one false, say at which input.
  Laid BY PROGRAM, IN A SANDBOX (cutbox-rows.mjs): the forced cells as the released guide's own fill.sh prints them over the translation 72ff8b0927de7f70… (all of the seat's roots in one cut). By AI agents, Wed Nov 11 2026. No macro, syntax, notation, axiom, sorry.
-/
import Derived.Test.YtmgiojdipheokaaChecked
import GoSem.Claim
import GoSem.ClaimJoined
import GoSem.ClaimMapViews
import Derived.JoinedTies
import Derived.KernelRfl
namespace Go.Proofs.Ytmgiojdipheokaa
/- THE CELL 'sum', in the pinned program and in every row, IS THE sha256 OF THE DUMP (.gsa) THAT YtmgiojdipheokaaProg.lean LOADS. Nothing in Lean hashes anything: it is a label: what it is worth is what the hold of that sum in a sandbox is worth. -/
noncomputable def Try.pinned : Pinned := { name := "ytmgiojdipheokaa", sum := "72ff8b0927de7f7008a79b88716486ef58df2421a96852284e7085a75e13cf68", checked := Try.checked }
namespace Rows
def none {H : Type} : Left H := { results := [], args := [] }

/-- 'trustquorumlaw25.PrepareJoins': WHATEVER THE INPUT: true; the input reads as it did. -/
def prepareJoinsSpec : ChangeSpec := { name := "prepareJoins", fn := fun _ => fun
  | [d] => { results := [.lit (.bool true)], args := [d] }
  | _ => none }
def prepareJoinsRow : OpenClaim := { program := "ytmgiojdipheokaa", sum := "72ff8b0927de7f7008a79b88716486ef58df2421a96852284e7085a75e13cf68", func := "trustquorum/trustquorumlaw25.PrepareJoins", spec := "prepareJoins", unfollowed := true, recurses := true, apart := false }
def PrepareJoinsSaid : Prop := prepareJoinsRow.holds Try.pinned (OpenSpec.ofChange prepareJoinsSpec)

/-- ITS FALSE NEIGHBOUR: 'it returns false'. Refute it at one input. -/
def prepareJoinsWrong : ChangeSpec := { name := "prepareJoins", fn := fun _ => fun
  | [d] => { results := [.lit (.bool false)], args := [d] }
  | _ => none }
def PrepareJoinsWrongFalsely : Prop := prepareJoinsRow.holds Try.pinned (OpenSpec.ofChange prepareJoinsWrong)

/-- 'trustquorumlaw24.EnvelopesForever': WHATEVER THE INPUT: true; the input reads as it did. -/
def envelopesForeverSpec : ChangeSpec := { name := "envelopesForever", fn := fun _ => fun
  | [d1, d2, d3] => { results := [.lit (.bool true)], args := [d1, d2, d3] }
  | _ => none }
def envelopesForeverRow : OpenClaim := { program := "ytmgiojdipheokaa", sum := "72ff8b0927de7f7008a79b88716486ef58df2421a96852284e7085a75e13cf68", func := "trustquorum/trustquorumlaw24.EnvelopesForever", spec := "envelopesForever", unfollowed := true, recurses := true, apart := false }
def EnvelopesForeverSaid : Prop := envelopesForeverRow.holds Try.pinned (OpenSpec.ofChange envelopesForeverSpec)

/-- ITS FALSE NEIGHBOUR: 'it returns false'. Refute it at one input. -/
def envelopesForeverWrong : ChangeSpec := { name := "envelopesForever", fn := fun _ => fun
  | [d1, d2, d3] => { results := [.lit (.bool false)], args := [d1, d2, d3] }
  | _ => none }
def EnvelopesForeverWrongFalsely : Prop := envelopesForeverRow.holds Try.pinned (OpenSpec.ofChange envelopesForeverWrong)

/-- 'trustquorumlaw24.EnvelopesConsistent': WHATEVER THE INPUT: true; the input reads as it did. -/
def envelopesConsistentSpec : ChangeSpec := { name := "envelopesConsistent", fn := fun _ => fun
  | [d1, d2] => { results := [.lit (.bool true)], args := [d1, d2] }
  | _ => none }
def envelopesConsistentRow : OpenClaim := { program := "ytmgiojdipheokaa", sum := "72ff8b0927de7f7008a79b88716486ef58df2421a96852284e7085a75e13cf68", func := "trustquorum/trustquorumlaw24.EnvelopesConsistent", spec := "envelopesConsistent", unfollowed := true, recurses := true, apart := false }
def EnvelopesConsistentSaid : Prop := envelopesConsistentRow.holds Try.pinned (OpenSpec.ofChange envelopesConsistentSpec)

/-- ITS FALSE NEIGHBOUR: 'it returns false'. Refute it at one input. -/
def envelopesConsistentWrong : ChangeSpec := { name := "envelopesConsistent", fn := fun _ => fun
  | [d1, d2] => { results := [.lit (.bool false)], args := [d1, d2] }
  | _ => none }
def EnvelopesConsistentWrongFalsely : Prop := envelopesConsistentRow.holds Try.pinned (OpenSpec.ofChange envelopesConsistentWrong)

/-- 'trustquorumlaw24.EnvelopesImply': WHATEVER THE INPUT: true; the input reads as it did. -/
def envelopesImplySpec : ChangeSpec := { name := "envelopesImply", fn := fun _ => fun
  | [d] => { results := [.lit (.bool true)], args := [d] }
  | _ => none }
def envelopesImplyRow : OpenClaim := { program := "ytmgiojdipheokaa", sum := "72ff8b0927de7f7008a79b88716486ef58df2421a96852284e7085a75e13cf68", func := "trustquorum/trustquorumlaw24.EnvelopesImply", spec := "envelopesImply", unfollowed := true, recurses := true, apart := false }
def EnvelopesImplySaid : Prop := envelopesImplyRow.holds Try.pinned (OpenSpec.ofChange envelopesImplySpec)

/-- ITS FALSE NEIGHBOUR: 'it returns false'. Refute it at one input. -/
def envelopesImplyWrong : ChangeSpec := { name := "envelopesImply", fn := fun _ => fun
  | [d] => { results := [.lit (.bool false)], args := [d] }
  | _ => none }
def EnvelopesImplyWrongFalsely : Prop := envelopesImplyRow.holds Try.pinned (OpenSpec.ofChange envelopesImplyWrong)

/-- 'trustquorumlaw28.TimersAlone': WHATEVER THE INPUT: true; the input reads as it did. -/
def timersAloneSpec : ChangeSpec := { name := "timersAlone", fn := fun _ => fun
  | [d1, d2] => { results := [.lit (.bool true)], args := [d1, d2] }
  | _ => none }
def timersAloneRow : OpenClaim := { program := "ytmgiojdipheokaa", sum := "72ff8b0927de7f7008a79b88716486ef58df2421a96852284e7085a75e13cf68", func := "trustquorum/trustquorumlaw28.TimersAlone", spec := "timersAlone", unfollowed := true, recurses := true, apart := false }
def TimersAloneSaid : Prop := timersAloneRow.holds Try.pinned (OpenSpec.ofChange timersAloneSpec)

/-- ITS FALSE NEIGHBOUR: 'it returns false'. Refute it at one input. -/
def timersAloneWrong : ChangeSpec := { name := "timersAlone", fn := fun _ => fun
  | [d1, d2] => { results := [.lit (.bool false)], args := [d1, d2] }
  | _ => none }
def TimersAloneWrongFalsely : Prop := timersAloneRow.holds Try.pinned (OpenSpec.ofChange timersAloneWrong)

/-- 'trustquorumlaw02.ThresholdMeets': WHATEVER THE INPUT: true; the input reads as it did. -/
def thresholdMeetsSpec : ChangeSpec := { name := "thresholdMeets", fn := fun _ => fun
  | [d] => { results := [.lit (.bool true)], args := [d] }
  | _ => none }
def thresholdMeetsRow : OpenClaim := { program := "ytmgiojdipheokaa", sum := "72ff8b0927de7f7008a79b88716486ef58df2421a96852284e7085a75e13cf68", func := "trustquorum/trustquorumlaw02.ThresholdMeets", spec := "thresholdMeets", unfollowed := true, recurses := true, apart := false }
def ThresholdMeetsSaid : Prop := thresholdMeetsRow.holds Try.pinned (OpenSpec.ofChange thresholdMeetsSpec)

/-- ITS FALSE NEIGHBOUR: 'it returns false'. Refute it at one input. -/
def thresholdMeetsWrong : ChangeSpec := { name := "thresholdMeets", fn := fun _ => fun
  | [d] => { results := [.lit (.bool false)], args := [d] }
  | _ => none }
def ThresholdMeetsWrongFalsely : Prop := thresholdMeetsRow.holds Try.pinned (OpenSpec.ofChange thresholdMeetsWrong)

/-- 'trustquorumlaw02.ThresholdGrows': WHATEVER THE INPUT: true; the input reads as it did. -/
def thresholdGrowsSpec : ChangeSpec := { name := "thresholdGrows", fn := fun _ => fun
  | [d] => { results := [.lit (.bool true)], args := [d] }
  | _ => none }
def thresholdGrowsRow : OpenClaim := { program := "ytmgiojdipheokaa", sum := "72ff8b0927de7f7008a79b88716486ef58df2421a96852284e7085a75e13cf68", func := "trustquorum/trustquorumlaw02.ThresholdGrows", spec := "thresholdGrows", unfollowed := true, recurses := true, apart := false }
def ThresholdGrowsSaid : Prop := thresholdGrowsRow.holds Try.pinned (OpenSpec.ofChange thresholdGrowsSpec)

/-- ITS FALSE NEIGHBOUR: 'it returns false'. Refute it at one input. -/
def thresholdGrowsWrong : ChangeSpec := { name := "thresholdGrows", fn := fun _ => fun
  | [d] => { results := [.lit (.bool false)], args := [d] }
  | _ => none }
def ThresholdGrowsWrongFalsely : Prop := thresholdGrowsRow.holds Try.pinned (OpenSpec.ofChange thresholdGrowsWrong)

/-- 'trustquorumlaw02.ThresholdOrder': WHATEVER THE INPUT: true; the input reads as it did. -/
def thresholdOrderSpec : ChangeSpec := { name := "thresholdOrder", fn := fun _ => fun
  | [d] => { results := [.lit (.bool true)], args := [d] }
  | _ => none }
def thresholdOrderRow : OpenClaim := { program := "ytmgiojdipheokaa", sum := "72ff8b0927de7f7008a79b88716486ef58df2421a96852284e7085a75e13cf68", func := "trustquorum/trustquorumlaw02.ThresholdOrder", spec := "thresholdOrder", unfollowed := true, recurses := true, apart := false }
def ThresholdOrderSaid : Prop := thresholdOrderRow.holds Try.pinned (OpenSpec.ofChange thresholdOrderSpec)

/-- ITS FALSE NEIGHBOUR: 'it returns false'. Refute it at one input. -/
def thresholdOrderWrong : ChangeSpec := { name := "thresholdOrder", fn := fun _ => fun
  | [d] => { results := [.lit (.bool false)], args := [d] }
  | _ => none }
def ThresholdOrderWrongFalsely : Prop := thresholdOrderRow.holds Try.pinned (OpenSpec.ofChange thresholdOrderWrong)

/-- 'trustquorumlaw02.ThresholdDual': WHATEVER THE INPUT: true; the input reads as it did. -/
def thresholdDualSpec : ChangeSpec := { name := "thresholdDual", fn := fun _ => fun
  | [d] => { results := [.lit (.bool true)], args := [d] }
  | _ => none }
def thresholdDualRow : OpenClaim := { program := "ytmgiojdipheokaa", sum := "72ff8b0927de7f7008a79b88716486ef58df2421a96852284e7085a75e13cf68", func := "trustquorum/trustquorumlaw02.ThresholdDual", spec := "thresholdDual", unfollowed := true, recurses := true, apart := false }
def ThresholdDualSaid : Prop := thresholdDualRow.holds Try.pinned (OpenSpec.ofChange thresholdDualSpec)

/-- ITS FALSE NEIGHBOUR: 'it returns false'. Refute it at one input. -/
def thresholdDualWrong : ChangeSpec := { name := "thresholdDual", fn := fun _ => fun
  | [d] => { results := [.lit (.bool false)], args := [d] }
  | _ => none }
def ThresholdDualWrongFalsely : Prop := thresholdDualRow.holds Try.pinned (OpenSpec.ofChange thresholdDualWrong)

/-- 'trustquorumlaw21.LeadersWeights': WHATEVER THE INPUT: true; the input reads as it did. -/
def leadersWeightsSpec : ChangeSpec := { name := "leadersWeights", fn := fun _ => fun
  | [d] => { results := [.lit (.bool true)], args := [d] }
  | _ => none }
def leadersWeightsRow : OpenClaim := { program := "ytmgiojdipheokaa", sum := "72ff8b0927de7f7008a79b88716486ef58df2421a96852284e7085a75e13cf68", func := "trustquorum/trustquorumlaw21.LeadersWeights", spec := "leadersWeights", unfollowed := true, recurses := true, apart := false }
def LeadersWeightsSaid : Prop := leadersWeightsRow.holds Try.pinned (OpenSpec.ofChange leadersWeightsSpec)

/-- ITS FALSE NEIGHBOUR: 'it returns false'. Refute it at one input. -/
def leadersWeightsWrong : ChangeSpec := { name := "leadersWeights", fn := fun _ => fun
  | [d] => { results := [.lit (.bool false)], args := [d] }
  | _ => none }
def LeadersWeightsWrongFalsely : Prop := leadersWeightsRow.holds Try.pinned (OpenSpec.ofChange leadersWeightsWrong)

/-- 'trustquorumlaw21.LeadersGrow': WHATEVER THE INPUT: true; the input reads as it did. -/
def leadersGrowSpec : ChangeSpec := { name := "leadersGrow", fn := fun _ => fun
  | [d] => { results := [.lit (.bool true)], args := [d] }
  | _ => none }
def leadersGrowRow : OpenClaim := { program := "ytmgiojdipheokaa", sum := "72ff8b0927de7f7008a79b88716486ef58df2421a96852284e7085a75e13cf68", func := "trustquorum/trustquorumlaw21.LeadersGrow", spec := "leadersGrow", unfollowed := true, recurses := true, apart := false }
def LeadersGrowSaid : Prop := leadersGrowRow.holds Try.pinned (OpenSpec.ofChange leadersGrowSpec)

/-- ITS FALSE NEIGHBOUR: 'it returns false'. Refute it at one input. -/
def leadersGrowWrong : ChangeSpec := { name := "leadersGrow", fn := fun _ => fun
  | [d] => { results := [.lit (.bool false)], args := [d] }
  | _ => none }
def LeadersGrowWrongFalsely : Prop := leadersGrowRow.holds Try.pinned (OpenSpec.ofChange leadersGrowWrong)

/-- 'trustquorumlaw21.LeadersShare': WHATEVER THE INPUT: true; the input reads as it did. -/
def leadersShareSpec : ChangeSpec := { name := "leadersShare", fn := fun _ => fun
  | [d] => { results := [.lit (.bool true)], args := [d] }
  | _ => none }
def leadersShareRow : OpenClaim := { program := "ytmgiojdipheokaa", sum := "72ff8b0927de7f7008a79b88716486ef58df2421a96852284e7085a75e13cf68", func := "trustquorum/trustquorumlaw21.LeadersShare", spec := "leadersShare", unfollowed := true, recurses := true, apart := false }
def LeadersShareSaid : Prop := leadersShareRow.holds Try.pinned (OpenSpec.ofChange leadersShareSpec)

/-- ITS FALSE NEIGHBOUR: 'it returns false'. Refute it at one input. -/
def leadersShareWrong : ChangeSpec := { name := "leadersShare", fn := fun _ => fun
  | [d] => { results := [.lit (.bool false)], args := [d] }
  | _ => none }
def LeadersShareWrongFalsely : Prop := leadersShareRow.holds Try.pinned (OpenSpec.ofChange leadersShareWrong)

/- THE SECOND FORM. 'bulk': how many values and letters a reading holds, each counted each time it is reached (what is shared counts as often as it is met; a slice's spare places count too). A statement '..UptoSaid' is the law's where the arguments, and the package variables that the reading takes, are together of bulk at most 1048576: NARROWER than '..Said'. Prove '..Said' where nothing that the law and all that it calls make is longer than what came in: it says more and counts as full. Else prove '..UptoSaid'. A law counts once. -/
mutual
def uptoBulk {H : Type} : DataW H → Nat
  | .lit (.string bytes) => bytes.length + 1
  | .lit _ => 1
  | .nil => 1
  | .ptr d => uptoBulk d + 1
  | .slice elems spare => uptoBulkAll elems + uptoBulkAll spare + 1
  | .agg parts => uptoBulkAll parts + 1
  | .iface _ d => uptoBulk d + 1
  | .map entries => uptoBulkEntries entries + 1
  | .held _ => 1
def uptoBulkAll {H : Type} : List (DataW H) → Nat
  | [] => 0
  | d :: r => uptoBulk d + uptoBulkAll r
def uptoBulkEntries {H : Type} : List (Lit × DataW H) → Nat
  | [] => 0
  | x :: r => uptoBulkEntry x + uptoBulkEntries r
def uptoBulkEntry {H : Type} : Lit × DataW H → Nat
  | (.string bytes, d) => bytes.length + uptoBulk d + 1
  | (_, d) => uptoBulk d + 1
 end
def uptoSmall : (H : Type) → List (DataW H) → Bool := fun _ ds => decide (uptoBulkAll ds ≤ 1048576)
def OpenSpec.upto (s : _root_.Go.ChangeSpec) : _root_.Go.OpenSpec := { _root_.Go.OpenSpec.ofChange s with cond := some uptoSmall }

/-- 'trustquorumlaw25.PrepareJoins', WHERE WHAT IT READS IS OF BULK AT MOST 1048576: true; the input reads as it did. -/
def prepareJoinsUptoRow : OpenClaim := { program := "ytmgiojdipheokaa", sum := "72ff8b0927de7f7008a79b88716486ef58df2421a96852284e7085a75e13cf68", func := "trustquorum/trustquorumlaw25.PrepareJoins", spec := "prepareJoins", unfollowed := true, recurses := true, apart := false, narrowed := true }
def PrepareJoinsUptoSaid : Prop := prepareJoinsUptoRow.holds Try.pinned (OpenSpec.upto prepareJoinsSpec)

/-- 'trustquorumlaw24.EnvelopesForever', WHERE WHAT IT READS IS OF BULK AT MOST 1048576: true; the input reads as it did. -/
def envelopesForeverUptoRow : OpenClaim := { program := "ytmgiojdipheokaa", sum := "72ff8b0927de7f7008a79b88716486ef58df2421a96852284e7085a75e13cf68", func := "trustquorum/trustquorumlaw24.EnvelopesForever", spec := "envelopesForever", unfollowed := true, recurses := true, apart := false, narrowed := true }
def EnvelopesForeverUptoSaid : Prop := envelopesForeverUptoRow.holds Try.pinned (OpenSpec.upto envelopesForeverSpec)

/-- 'trustquorumlaw24.EnvelopesConsistent', WHERE WHAT IT READS IS OF BULK AT MOST 1048576: true; the input reads as it did. -/
def envelopesConsistentUptoRow : OpenClaim := { program := "ytmgiojdipheokaa", sum := "72ff8b0927de7f7008a79b88716486ef58df2421a96852284e7085a75e13cf68", func := "trustquorum/trustquorumlaw24.EnvelopesConsistent", spec := "envelopesConsistent", unfollowed := true, recurses := true, apart := false, narrowed := true }
def EnvelopesConsistentUptoSaid : Prop := envelopesConsistentUptoRow.holds Try.pinned (OpenSpec.upto envelopesConsistentSpec)

/-- 'trustquorumlaw24.EnvelopesImply', WHERE WHAT IT READS IS OF BULK AT MOST 1048576: true; the input reads as it did. -/
def envelopesImplyUptoRow : OpenClaim := { program := "ytmgiojdipheokaa", sum := "72ff8b0927de7f7008a79b88716486ef58df2421a96852284e7085a75e13cf68", func := "trustquorum/trustquorumlaw24.EnvelopesImply", spec := "envelopesImply", unfollowed := true, recurses := true, apart := false, narrowed := true }
def EnvelopesImplyUptoSaid : Prop := envelopesImplyUptoRow.holds Try.pinned (OpenSpec.upto envelopesImplySpec)

/-- 'trustquorumlaw28.TimersAlone', WHERE WHAT IT READS IS OF BULK AT MOST 1048576: true; the input reads as it did. -/
def timersAloneUptoRow : OpenClaim := { program := "ytmgiojdipheokaa", sum := "72ff8b0927de7f7008a79b88716486ef58df2421a96852284e7085a75e13cf68", func := "trustquorum/trustquorumlaw28.TimersAlone", spec := "timersAlone", unfollowed := true, recurses := true, apart := false, narrowed := true }
def TimersAloneUptoSaid : Prop := timersAloneUptoRow.holds Try.pinned (OpenSpec.upto timersAloneSpec)

/-- 'trustquorumlaw02.ThresholdMeets', WHERE WHAT IT READS IS OF BULK AT MOST 1048576: true; the input reads as it did. -/
def thresholdMeetsUptoRow : OpenClaim := { program := "ytmgiojdipheokaa", sum := "72ff8b0927de7f7008a79b88716486ef58df2421a96852284e7085a75e13cf68", func := "trustquorum/trustquorumlaw02.ThresholdMeets", spec := "thresholdMeets", unfollowed := true, recurses := true, apart := false, narrowed := true }
def ThresholdMeetsUptoSaid : Prop := thresholdMeetsUptoRow.holds Try.pinned (OpenSpec.upto thresholdMeetsSpec)

/-- 'trustquorumlaw02.ThresholdGrows', WHERE WHAT IT READS IS OF BULK AT MOST 1048576: true; the input reads as it did. -/
def thresholdGrowsUptoRow : OpenClaim := { program := "ytmgiojdipheokaa", sum := "72ff8b0927de7f7008a79b88716486ef58df2421a96852284e7085a75e13cf68", func := "trustquorum/trustquorumlaw02.ThresholdGrows", spec := "thresholdGrows", unfollowed := true, recurses := true, apart := false, narrowed := true }
def ThresholdGrowsUptoSaid : Prop := thresholdGrowsUptoRow.holds Try.pinned (OpenSpec.upto thresholdGrowsSpec)

/-- 'trustquorumlaw02.ThresholdOrder', WHERE WHAT IT READS IS OF BULK AT MOST 1048576: true; the input reads as it did. -/
def thresholdOrderUptoRow : OpenClaim := { program := "ytmgiojdipheokaa", sum := "72ff8b0927de7f7008a79b88716486ef58df2421a96852284e7085a75e13cf68", func := "trustquorum/trustquorumlaw02.ThresholdOrder", spec := "thresholdOrder", unfollowed := true, recurses := true, apart := false, narrowed := true }
def ThresholdOrderUptoSaid : Prop := thresholdOrderUptoRow.holds Try.pinned (OpenSpec.upto thresholdOrderSpec)

/-- 'trustquorumlaw02.ThresholdDual', WHERE WHAT IT READS IS OF BULK AT MOST 1048576: true; the input reads as it did. -/
def thresholdDualUptoRow : OpenClaim := { program := "ytmgiojdipheokaa", sum := "72ff8b0927de7f7008a79b88716486ef58df2421a96852284e7085a75e13cf68", func := "trustquorum/trustquorumlaw02.ThresholdDual", spec := "thresholdDual", unfollowed := true, recurses := true, apart := false, narrowed := true }
def ThresholdDualUptoSaid : Prop := thresholdDualUptoRow.holds Try.pinned (OpenSpec.upto thresholdDualSpec)

/-- 'trustquorumlaw21.LeadersWeights', WHERE WHAT IT READS IS OF BULK AT MOST 1048576: true; the input reads as it did. -/
def leadersWeightsUptoRow : OpenClaim := { program := "ytmgiojdipheokaa", sum := "72ff8b0927de7f7008a79b88716486ef58df2421a96852284e7085a75e13cf68", func := "trustquorum/trustquorumlaw21.LeadersWeights", spec := "leadersWeights", unfollowed := true, recurses := true, apart := false, narrowed := true }
def LeadersWeightsUptoSaid : Prop := leadersWeightsUptoRow.holds Try.pinned (OpenSpec.upto leadersWeightsSpec)

/-- 'trustquorumlaw21.LeadersGrow', WHERE WHAT IT READS IS OF BULK AT MOST 1048576: true; the input reads as it did. -/
def leadersGrowUptoRow : OpenClaim := { program := "ytmgiojdipheokaa", sum := "72ff8b0927de7f7008a79b88716486ef58df2421a96852284e7085a75e13cf68", func := "trustquorum/trustquorumlaw21.LeadersGrow", spec := "leadersGrow", unfollowed := true, recurses := true, apart := false, narrowed := true }
def LeadersGrowUptoSaid : Prop := leadersGrowUptoRow.holds Try.pinned (OpenSpec.upto leadersGrowSpec)

/-- 'trustquorumlaw21.LeadersShare', WHERE WHAT IT READS IS OF BULK AT MOST 1048576: true; the input reads as it did. -/
def leadersShareUptoRow : OpenClaim := { program := "ytmgiojdipheokaa", sum := "72ff8b0927de7f7008a79b88716486ef58df2421a96852284e7085a75e13cf68", func := "trustquorum/trustquorumlaw21.LeadersShare", spec := "leadersShare", unfollowed := true, recurses := true, apart := false, narrowed := true }
def LeadersShareUptoSaid : Prop := leadersShareUptoRow.holds Try.pinned (OpenSpec.upto leadersShareSpec)

end Rows
end Go.Proofs.Ytmgiojdipheokaa
