/-
  NARROWER THAN 'FOR EVERY INPUT', by the rows' own cells (each row's printed sentence says how): ThresholdAnswers: loops.
  DERIVED. THE GIVEN ROWS OF THIS SEAT. 3 by the template 'for every input the law returns true; each argument reads behind the call as it read before'; 0 by the template 'total and deterministic' (their statements: YtphfldppbbijoaaTotals.lean).
  GIVEN WITH THE SEED: the statements are not yours to turn. If you find one false, say at which input.
  Laid BY PROGRAM, IN A SANDBOX (cutbox-rows.mjs): the forced cells as the released guide's own fill.sh prints them over the translation 6838bbed6cca5dd9… (all of the seat's roots in one cut). By AI agents, Wed Nov 11 2026. No macro, syntax, notation, axiom, sorry.
-/
import Derived.Test.YtphfldppbbijoaaChecked
import GoSem.Claim
import GoSem.ClaimJoined
import GoSem.ClaimMapViews
import Derived.JoinedTies
import Derived.KernelRfl
namespace Go.Proofs.Ytphfldppbbijoaa
/- THE CELL 'sum', in the pinned program and in every row, IS THE sha256 OF THE DUMP (.gsa) THAT YtphfldppbbijoaaProg.lean LOADS. Nothing in Lean hashes anything: it is a label: what it is worth is what the hold of that sum in a sandbox is worth. -/
noncomputable def Try.pinned : Pinned := { name := "ytphfldppbbijoaa", sum := "6838bbed6cca5dd9e859019a05dcc9fcc63d065e287d1a4bf89df2061b818a59", checked := Try.checked }
namespace Rows
def none {H : Type} : Left H := { results := [], args := [] }

/-- 'trustquorumlaw21.LeadersChosen': WHATEVER THE INPUT: true; the input reads as it did. -/
def leadersChosenSpec : ChangeSpec := { name := "leadersChosen", fn := fun _ => fun
  | [d] => { results := [.lit (.bool true)], args := [d] }
  | _ => none }
def leadersChosenRow : OpenClaim := { program := "ytphfldppbbijoaa", sum := "6838bbed6cca5dd9e859019a05dcc9fcc63d065e287d1a4bf89df2061b818a59", func := "trustquorum/trustquorumlaw21.LeadersChosen", spec := "leadersChosen", unfollowed := true, recurses := true, apart := false }
def LeadersChosenSaid : Prop := leadersChosenRow.holds Try.pinned (OpenSpec.ofChange leadersChosenSpec)

/-- ITS FALSE NEIGHBOUR: 'it returns false'. Refute it at one input. -/
def leadersChosenWrong : ChangeSpec := { name := "leadersChosen", fn := fun _ => fun
  | [d] => { results := [.lit (.bool false)], args := [d] }
  | _ => none }
def LeadersChosenWrongFalsely : Prop := leadersChosenRow.holds Try.pinned (OpenSpec.ofChange leadersChosenWrong)

/-- 'trustquorumlaw31.NetworkParts': WHATEVER THE INPUT: true; the input reads as it did. -/
def networkPartsSpec : ChangeSpec := { name := "networkParts", fn := fun _ => fun
  | [d1, d2, d3] => { results := [.lit (.bool true)], args := [d1, d2, d3] }
  | _ => none }
def networkPartsRow : OpenClaim := { program := "ytphfldppbbijoaa", sum := "6838bbed6cca5dd9e859019a05dcc9fcc63d065e287d1a4bf89df2061b818a59", func := "trustquorum/trustquorumlaw31.NetworkParts", spec := "networkParts", inPlace := ["slices.overlaps[trustquorum/api.Parcel]"], unfollowed := true, recurses := true, apart := false }
def NetworkPartsSaid : Prop := networkPartsRow.holds Try.pinned (OpenSpec.ofChange networkPartsSpec)

/-- ITS FALSE NEIGHBOUR: 'it returns false'. Refute it at one input. -/
def networkPartsWrong : ChangeSpec := { name := "networkParts", fn := fun _ => fun
  | [d1, d2, d3] => { results := [.lit (.bool false)], args := [d1, d2, d3] }
  | _ => none }
def NetworkPartsWrongFalsely : Prop := networkPartsRow.holds Try.pinned (OpenSpec.ofChange networkPartsWrong)

/-- 'trustquorumlaw02.ThresholdAnswers': WHATEVER THE INPUT: true; the input reads as it did. -/
def thresholdAnswersSpec : ChangeSpec := { name := "thresholdAnswers", fn := fun _ => fun
  | [d1, d2, d3, d4] => { results := [.lit (.bool true)], args := [d1, d2, d3, d4] }
  | _ => none }
def thresholdAnswersRow : OpenClaim := { program := "ytphfldppbbijoaa", sum := "6838bbed6cca5dd9e859019a05dcc9fcc63d065e287d1a4bf89df2061b818a59", func := "trustquorum/trustquorumlaw02.ThresholdAnswers", spec := "thresholdAnswers", unfollowed := true, recurses := true, loops := true, apart := false }
def ThresholdAnswersSaid : Prop := thresholdAnswersRow.holds Try.pinned (OpenSpec.ofChange thresholdAnswersSpec)

/-- ITS FALSE NEIGHBOUR: 'it returns false'. Refute it at one input. -/
def thresholdAnswersWrong : ChangeSpec := { name := "thresholdAnswers", fn := fun _ => fun
  | [d1, d2, d3, d4] => { results := [.lit (.bool false)], args := [d1, d2, d3, d4] }
  | _ => none }
def ThresholdAnswersWrongFalsely : Prop := thresholdAnswersRow.holds Try.pinned (OpenSpec.ofChange thresholdAnswersWrong)

/- THE SECOND FORM. 'bulk': how many values and letters a reading holds, each counted each time it is reached (what is shared counts as often as it is met; a slice's spare places count too). A statement '..UptoSaid' is the law's where the arguments, and the package variables that the reading takes, are together of bulk at most 1048576: NARROWER than '..Said'. Prove '..Said' where nothing that the law and all that it calls make is longer than what came in: it says more and counts as full. Else prove '..UptoSaid'. A law counts once. -/
mutual
def uptoBulk {H : Type} : DataW H → Nat
  | .lit (.string bytes) => bytes.length + 1
  | .lit _ => 1
  | .nil => 1
  | .ptr d => uptoBulk d + 1
  | .slice elems spare => uptoBulkAll elems + uptoBulkAll spare + 1
  | .agg parts => uptoBulkAll parts + 1
  | .iface _ d => uptoBulk d + 1
  | .map entries => uptoBulkEntries entries + 1
  | .held _ => 1
def uptoBulkAll {H : Type} : List (DataW H) → Nat
  | [] => 0
  | d :: r => uptoBulk d + uptoBulkAll r
def uptoBulkEntries {H : Type} : List (Lit × DataW H) → Nat
  | [] => 0
  | x :: r => uptoBulkEntry x + uptoBulkEntries r
def uptoBulkEntry {H : Type} : Lit × DataW H → Nat
  | (.string bytes, d) => bytes.length + uptoBulk d + 1
  | (_, d) => uptoBulk d + 1
 end
def uptoSmall : (H : Type) → List (DataW H) → Bool := fun _ ds => decide (uptoBulkAll ds ≤ 1048576)
def OpenSpec.upto (s : _root_.Go.ChangeSpec) : _root_.Go.OpenSpec := { _root_.Go.OpenSpec.ofChange s with cond := some uptoSmall }

/-- 'trustquorumlaw21.LeadersChosen', WHERE WHAT IT READS IS OF BULK AT MOST 1048576: true; the input reads as it did. -/
def leadersChosenUptoRow : OpenClaim := { program := "ytphfldppbbijoaa", sum := "6838bbed6cca5dd9e859019a05dcc9fcc63d065e287d1a4bf89df2061b818a59", func := "trustquorum/trustquorumlaw21.LeadersChosen", spec := "leadersChosen", unfollowed := true, recurses := true, apart := false, narrowed := true }
def LeadersChosenUptoSaid : Prop := leadersChosenUptoRow.holds Try.pinned (OpenSpec.upto leadersChosenSpec)

/-- 'trustquorumlaw31.NetworkParts', WHERE WHAT IT READS IS OF BULK AT MOST 1048576: true; the input reads as it did. -/
def networkPartsUptoRow : OpenClaim := { program := "ytphfldppbbijoaa", sum := "6838bbed6cca5dd9e859019a05dcc9fcc63d065e287d1a4bf89df2061b818a59", func := "trustquorum/trustquorumlaw31.NetworkParts", spec := "networkParts", inPlace := ["slices.overlaps[trustquorum/api.Parcel]"], unfollowed := true, recurses := true, apart := false, narrowed := true }
def NetworkPartsUptoSaid : Prop := networkPartsUptoRow.holds Try.pinned (OpenSpec.upto networkPartsSpec)

/-- 'trustquorumlaw02.ThresholdAnswers', WHERE WHAT IT READS IS OF BULK AT MOST 1048576: true; the input reads as it did. -/
def thresholdAnswersUptoRow : OpenClaim := { program := "ytphfldppbbijoaa", sum := "6838bbed6cca5dd9e859019a05dcc9fcc63d065e287d1a4bf89df2061b818a59", func := "trustquorum/trustquorumlaw02.ThresholdAnswers", spec := "thresholdAnswers", unfollowed := true, recurses := true, loops := true, apart := false, narrowed := true }
def ThresholdAnswersUptoSaid : Prop := thresholdAnswersUptoRow.holds Try.pinned (OpenSpec.upto thresholdAnswersSpec)

end Rows
end Go.Proofs.Ytphfldppbbijoaa
