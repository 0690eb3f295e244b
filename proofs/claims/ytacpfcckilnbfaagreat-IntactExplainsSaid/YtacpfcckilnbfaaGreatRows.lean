/-
  No cell of these rows narrows 'for every input' (looked for: loops, veiled, ifaces, maps, wideKeys, modest, calm, conditions, laid).
  DERIVED. THE GIVEN ROWS OF THIS SEAT. 9 by the template 'for every input the law returns true; each argument reads behind the call as it read before'; 0 by the template 'total and deterministic' (their statements: YtacpfcckilnbfaaGreatTotals.lean).
  GIVEN WITH THE SEED: the statements are not yours to turn. If you find one false, say at which input.
  Laid BY PROGRAM, IN A SANDBOX (cutbox-rows.mjs): the forced cells as the released guide's own fill.sh prints them over the translation d3a6305b3e752908… (all of the seat's roots in one cut). By AI agents, Wed Nov 11 2026. No macro, syntax, notation, axiom, sorry.
-/
import Derived.Test.YtacpfcckilnbfaaGreatChecked
import GoSem.Claim
import GoSem.ClaimJoined
import GoSem.ClaimMapViews
import Derived.JoinedTies
import Derived.KernelRfl
namespace Go.Proofs.YtacpfcckilnbfaaGreat
/- THE CELL 'sum', in the pinned program and in every row, IS THE sha256 OF THE DUMP (.gsa) THAT YtacpfcckilnbfaaGreatProg.lean LOADS. Nothing in Lean hashes anything: it is a label: what it is worth is what the hold of that sum in a sandbox is worth. -/
noncomputable def Tryz.pinned : Pinned := { name := "ytacpfcckilnbfaagreat", sum := "d3a6305b3e7529088e08cf523fb71e869a5eedb63347ba2cf3adcf650e22b6e3", checked := Tryz.checked }
namespace Rows
def none {H : Type} : Left H := { results := [], args := [] }

/-- 'trustquorumlaw14.DispensableMeets': WHATEVER THE INPUT: true; the input reads as it did. -/
def dispensableMeetsSpec : ChangeSpec := { name := "dispensableMeets", fn := fun _ => fun
  | [d] => { results := [.lit (.bool true)], args := [d] }
  | _ => none }
def dispensableMeetsRow : OpenClaim := { program := "ytacpfcckilnbfaagreat", sum := "d3a6305b3e7529088e08cf523fb71e869a5eedb63347ba2cf3adcf650e22b6e3", func := "trustquorum/trustquorumlaw14.DispensableMeets", spec := "dispensableMeets", unfollowed := true, recurses := true, apart := false }
def DispensableMeetsSaid : Prop := dispensableMeetsRow.holds Tryz.pinned (OpenSpec.ofChange dispensableMeetsSpec)

/-- ITS FALSE NEIGHBOUR: 'it returns false'. Refute it at one input. -/
def dispensableMeetsWrong : ChangeSpec := { name := "dispensableMeets", fn := fun _ => fun
  | [d] => { results := [.lit (.bool false)], args := [d] }
  | _ => none }
def DispensableMeetsWrongFalsely : Prop := dispensableMeetsRow.holds Tryz.pinned (OpenSpec.ofChange dispensableMeetsWrong)

/-- 'trustquorumlaw14.DispensableAll': WHATEVER THE INPUT: true; the input reads as it did. -/
def dispensableAllSpec : ChangeSpec := { name := "dispensableAll", fn := fun _ => fun
  | [d] => { results := [.lit (.bool true)], args := [d] }
  | _ => none }
def dispensableAllRow : OpenClaim := { program := "ytacpfcckilnbfaagreat", sum := "d3a6305b3e7529088e08cf523fb71e869a5eedb63347ba2cf3adcf650e22b6e3", func := "trustquorum/trustquorumlaw14.DispensableAll", spec := "dispensableAll", unfollowed := true, recurses := true, apart := false }
def DispensableAllSaid : Prop := dispensableAllRow.holds Tryz.pinned (OpenSpec.ofChange dispensableAllSpec)

/-- ITS FALSE NEIGHBOUR: 'it returns false'. Refute it at one input. -/
def dispensableAllWrong : ChangeSpec := { name := "dispensableAll", fn := fun _ => fun
  | [d] => { results := [.lit (.bool false)], args := [d] }
  | _ => none }
def DispensableAllWrongFalsely : Prop := dispensableAllRow.holds Tryz.pinned (OpenSpec.ofChange dispensableAllWrong)

/-- 'trustquorumlaw14.DispensableRefutes': WHATEVER THE INPUT: true; the input reads as it did. -/
def dispensableRefutesSpec : ChangeSpec := { name := "dispensableRefutes", fn := fun _ => fun
  | [d1, d2] => { results := [.lit (.bool true)], args := [d1, d2] }
  | _ => none }
def dispensableRefutesRow : OpenClaim := { program := "ytacpfcckilnbfaagreat", sum := "d3a6305b3e7529088e08cf523fb71e869a5eedb63347ba2cf3adcf650e22b6e3", func := "trustquorum/trustquorumlaw14.DispensableRefutes", spec := "dispensableRefutes", unfollowed := true, recurses := true, apart := false }
def DispensableRefutesSaid : Prop := dispensableRefutesRow.holds Tryz.pinned (OpenSpec.ofChange dispensableRefutesSpec)

/-- ITS FALSE NEIGHBOUR: 'it returns false'. Refute it at one input. -/
def dispensableRefutesWrong : ChangeSpec := { name := "dispensableRefutes", fn := fun _ => fun
  | [d1, d2] => { results := [.lit (.bool false)], args := [d1, d2] }
  | _ => none }
def DispensableRefutesWrongFalsely : Prop := dispensableRefutesRow.holds Tryz.pinned (OpenSpec.ofChange dispensableRefutesWrong)

/-- 'trustquorumlaw14.DispensableMeans': WHATEVER THE INPUT: true; the input reads as it did. -/
def dispensableMeansSpec : ChangeSpec := { name := "dispensableMeans", fn := fun _ => fun
  | [d] => { results := [.lit (.bool true)], args := [d] }
  | _ => none }
def dispensableMeansRow : OpenClaim := { program := "ytacpfcckilnbfaagreat", sum := "d3a6305b3e7529088e08cf523fb71e869a5eedb63347ba2cf3adcf650e22b6e3", func := "trustquorum/trustquorumlaw14.DispensableMeans", spec := "dispensableMeans", unfollowed := true, recurses := true, apart := false }
def DispensableMeansSaid : Prop := dispensableMeansRow.holds Tryz.pinned (OpenSpec.ofChange dispensableMeansSpec)

/-- ITS FALSE NEIGHBOUR: 'it returns false'. Refute it at one input. -/
def dispensableMeansWrong : ChangeSpec := { name := "dispensableMeans", fn := fun _ => fun
  | [d] => { results := [.lit (.bool false)], args := [d] }
  | _ => none }
def DispensableMeansWrongFalsely : Prop := dispensableMeansRow.holds Tryz.pinned (OpenSpec.ofChange dispensableMeansWrong)

/-- 'trustquorumlaw15.IntactQuorum': WHATEVER THE INPUT: true; the input reads as it did. -/
def intactQuorumSpec : ChangeSpec := { name := "intactQuorum", fn := fun _ => fun
  | [d] => { results := [.lit (.bool true)], args := [d] }
  | _ => none }
def intactQuorumRow : OpenClaim := { program := "ytacpfcckilnbfaagreat", sum := "d3a6305b3e7529088e08cf523fb71e869a5eedb63347ba2cf3adcf650e22b6e3", func := "trustquorum/trustquorumlaw15.IntactQuorum", spec := "intactQuorum", unfollowed := true, recurses := true, apart := false }
def IntactQuorumSaid : Prop := intactQuorumRow.holds Tryz.pinned (OpenSpec.ofChange intactQuorumSpec)

/-- ITS FALSE NEIGHBOUR: 'it returns false'. Refute it at one input. -/
def intactQuorumWrong : ChangeSpec := { name := "intactQuorum", fn := fun _ => fun
  | [d] => { results := [.lit (.bool false)], args := [d] }
  | _ => none }
def IntactQuorumWrongFalsely : Prop := intactQuorumRow.holds Tryz.pinned (OpenSpec.ofChange intactQuorumWrong)

/-- 'trustquorumlaw15.IntactBlocks': WHATEVER THE INPUT: true; the input reads as it did. -/
def intactBlocksSpec : ChangeSpec := { name := "intactBlocks", fn := fun _ => fun
  | [d] => { results := [.lit (.bool true)], args := [d] }
  | _ => none }
def intactBlocksRow : OpenClaim := { program := "ytacpfcckilnbfaagreat", sum := "d3a6305b3e7529088e08cf523fb71e869a5eedb63347ba2cf3adcf650e22b6e3", func := "trustquorum/trustquorumlaw15.IntactBlocks", spec := "intactBlocks", unfollowed := true, recurses := true, apart := false }
def IntactBlocksSaid : Prop := intactBlocksRow.holds Tryz.pinned (OpenSpec.ofChange intactBlocksSpec)

/-- ITS FALSE NEIGHBOUR: 'it returns false'. Refute it at one input. -/
def intactBlocksWrong : ChangeSpec := { name := "intactBlocks", fn := fun _ => fun
  | [d] => { results := [.lit (.bool false)], args := [d] }
  | _ => none }
def IntactBlocksWrongFalsely : Prop := intactBlocksRow.holds Tryz.pinned (OpenSpec.ofChange intactBlocksWrong)

/-- 'trustquorumlaw15.IntactLess': WHATEVER THE INPUT: true; the input reads as it did. -/
def intactLessSpec : ChangeSpec := { name := "intactLess", fn := fun _ => fun
  | [d] => { results := [.lit (.bool true)], args := [d] }
  | _ => none }
def intactLessRow : OpenClaim := { program := "ytacpfcckilnbfaagreat", sum := "d3a6305b3e7529088e08cf523fb71e869a5eedb63347ba2cf3adcf650e22b6e3", func := "trustquorum/trustquorumlaw15.IntactLess", spec := "intactLess", unfollowed := true, recurses := true, apart := false }
def IntactLessSaid : Prop := intactLessRow.holds Tryz.pinned (OpenSpec.ofChange intactLessSpec)

/-- ITS FALSE NEIGHBOUR: 'it returns false'. Refute it at one input. -/
def intactLessWrong : ChangeSpec := { name := "intactLess", fn := fun _ => fun
  | [d] => { results := [.lit (.bool false)], args := [d] }
  | _ => none }
def IntactLessWrongFalsely : Prop := intactLessRow.holds Tryz.pinned (OpenSpec.ofChange intactLessWrong)

/-- 'trustquorumlaw15.IntactFollows': WHATEVER THE INPUT: true; the input reads as it did. -/
def intactFollowsSpec : ChangeSpec := { name := "intactFollows", fn := fun _ => fun
  | [d] => { results := [.lit (.bool true)], args := [d] }
  | _ => none }
def intactFollowsRow : OpenClaim := { program := "ytacpfcckilnbfaagreat", sum := "d3a6305b3e7529088e08cf523fb71e869a5eedb63347ba2cf3adcf650e22b6e3", func := "trustquorum/trustquorumlaw15.IntactFollows", spec := "intactFollows", unfollowed := true, recurses := true, apart := false }
def IntactFollowsSaid : Prop := intactFollowsRow.holds Tryz.pinned (OpenSpec.ofChange intactFollowsSpec)

/-- ITS FALSE NEIGHBOUR: 'it returns false'. Refute it at one input. -/
def intactFollowsWrong : ChangeSpec := { name := "intactFollows", fn := fun _ => fun
  | [d] => { results := [.lit (.bool false)], args := [d] }
  | _ => none }
def IntactFollowsWrongFalsely : Prop := intactFollowsRow.holds Tryz.pinned (OpenSpec.ofChange intactFollowsWrong)

/-- 'trustquorumlaw15.IntactExplains': WHATEVER THE INPUT: true; the input reads as it did. -/
def intactExplainsSpec : ChangeSpec := { name := "intactExplains", fn := fun _ => fun
  | [d1, d2] => { results := [.lit (.bool true)], args := [d1, d2] }
  | _ => none }
def intactExplainsRow : OpenClaim := { program := "ytacpfcckilnbfaagreat", sum := "d3a6305b3e7529088e08cf523fb71e869a5eedb63347ba2cf3adcf650e22b6e3", func := "trustquorum/trustquorumlaw15.IntactExplains", spec := "intactExplains", unfollowed := true, recurses := true, apart := false }
def IntactExplainsSaid : Prop := intactExplainsRow.holds Tryz.pinned (OpenSpec.ofChange intactExplainsSpec)

/-- ITS FALSE NEIGHBOUR: 'it returns false'. Refute it at one input. -/
def intactExplainsWrong : ChangeSpec := { name := "intactExplains", fn := fun _ => fun
  | [d1, d2] => { results := [.lit (.bool false)], args := [d1, d2] }
  | _ => none }
def IntactExplainsWrongFalsely : Prop := intactExplainsRow.holds Tryz.pinned (OpenSpec.ofChange intactExplainsWrong)

/- THE SECOND FORM. 'bulk': how many values and letters a reading holds, each counted each time it is reached (what is shared counts as often as it is met; a slice's spare places count too). A statement '..UptoSaid' is the law's where the arguments, and the package variables that the reading takes, are together of bulk at most 1048576: NARROWER than '..Said'. Prove '..Said' where nothing that the law and all that it calls make is longer than what came in: it says more and counts as full. Else prove '..UptoSaid'. A law counts once. -/
mutual
def uptoBulk {H : Type} : DataW H → Nat
  | .lit (.string bytes) => bytes.length + 1
  | .lit _ => 1
  | .nil => 1
  | .ptr d => uptoBulk d + 1
  | .slice elems spare => uptoBulkAll elems + uptoBulkAll spare + 1
  | .agg parts => uptoBulkAll parts + 1
  | .iface _ d => uptoBulk d + 1
  | .map entries => uptoBulkEntries entries + 1
  | .held _ => 1
def uptoBulkAll {H : Type} : List (DataW H) → Nat
  | [] => 0
  | d :: r => uptoBulk d + uptoBulkAll r
def uptoBulkEntries {H : Type} : List (Lit × DataW H) → Nat
  | [] => 0
  | x :: r => uptoBulkEntry x + uptoBulkEntries r
def uptoBulkEntry {H : Type} : Lit × DataW H → Nat
  | (.string bytes, d) => bytes.length + uptoBulk d + 1
  | (_, d) => uptoBulk d + 1
 end
def uptoSmall : (H : Type) → List (DataW H) → Bool := fun _ ds => decide (uptoBulkAll ds ≤ 1048576)
def OpenSpec.upto (s : _root_.Go.ChangeSpec) : _root_.Go.OpenSpec := { _root_.Go.OpenSpec.ofChange s with cond := some uptoSmall }

/-- 'trustquorumlaw14.DispensableMeets', WHERE WHAT IT READS IS OF BULK AT MOST 1048576: true; the input reads as it did. -/
def dispensableMeetsUptoRow : OpenClaim := { program := "ytacpfcckilnbfaagreat", sum := "d3a6305b3e7529088e08cf523fb71e869a5eedb63347ba2cf3adcf650e22b6e3", func := "trustquorum/trustquorumlaw14.DispensableMeets", spec := "dispensableMeets", unfollowed := true, recurses := true, apart := false, narrowed := true }
def DispensableMeetsUptoSaid : Prop := dispensableMeetsUptoRow.holds Tryz.pinned (OpenSpec.upto dispensableMeetsSpec)

/-- 'trustquorumlaw14.DispensableAll', WHERE WHAT IT READS IS OF BULK AT MOST 1048576: true; the input reads as it did. -/
def dispensableAllUptoRow : OpenClaim := { program := "ytacpfcckilnbfaagreat", sum := "d3a6305b3e7529088e08cf523fb71e869a5eedb63347ba2cf3adcf650e22b6e3", func := "trustquorum/trustquorumlaw14.DispensableAll", spec := "dispensableAll", unfollowed := true, recurses := true, apart := false, narrowed := true }
def DispensableAllUptoSaid : Prop := dispensableAllUptoRow.holds Tryz.pinned (OpenSpec.upto dispensableAllSpec)

/-- 'trustquorumlaw14.DispensableRefutes', WHERE WHAT IT READS IS OF BULK AT MOST 1048576: true; the input reads as it did. -/
def dispensableRefutesUptoRow : OpenClaim := { program := "ytacpfcckilnbfaagreat", sum := "d3a6305b3e7529088e08cf523fb71e869a5eedb63347ba2cf3adcf650e22b6e3", func := "trustquorum/trustquorumlaw14.DispensableRefutes", spec := "dispensableRefutes", unfollowed := true, recurses := true, apart := false, narrowed := true }
def DispensableRefutesUptoSaid : Prop := dispensableRefutesUptoRow.holds Tryz.pinned (OpenSpec.upto dispensableRefutesSpec)

/-- 'trustquorumlaw14.DispensableMeans', WHERE WHAT IT READS IS OF BULK AT MOST 1048576: true; the input reads as it did. -/
def dispensableMeansUptoRow : OpenClaim := { program := "ytacpfcckilnbfaagreat", sum := "d3a6305b3e7529088e08cf523fb71e869a5eedb63347ba2cf3adcf650e22b6e3", func := "trustquorum/trustquorumlaw14.DispensableMeans", spec := "dispensableMeans", unfollowed := true, recurses := true, apart := false, narrowed := true }
def DispensableMeansUptoSaid : Prop := dispensableMeansUptoRow.holds Tryz.pinned (OpenSpec.upto dispensableMeansSpec)

/-- 'trustquorumlaw15.IntactQuorum', WHERE WHAT IT READS IS OF BULK AT MOST 1048576: true; the input reads as it did. -/
def intactQuorumUptoRow : OpenClaim := { program := "ytacpfcckilnbfaagreat", sum := "d3a6305b3e7529088e08cf523fb71e869a5eedb63347ba2cf3adcf650e22b6e3", func := "trustquorum/trustquorumlaw15.IntactQuorum", spec := "intactQuorum", unfollowed := true, recurses := true, apart := false, narrowed := true }
def IntactQuorumUptoSaid : Prop := intactQuorumUptoRow.holds Tryz.pinned (OpenSpec.upto intactQuorumSpec)

/-- 'trustquorumlaw15.IntactBlocks', WHERE WHAT IT READS IS OF BULK AT MOST 1048576: true; the input reads as it did. -/
def intactBlocksUptoRow : OpenClaim := { program := "ytacpfcckilnbfaagreat", sum := "d3a6305b3e7529088e08cf523fb71e869a5eedb63347ba2cf3adcf650e22b6e3", func := "trustquorum/trustquorumlaw15.IntactBlocks", spec := "intactBlocks", unfollowed := true, recurses := true, apart := false, narrowed := true }
def IntactBlocksUptoSaid : Prop := intactBlocksUptoRow.holds Tryz.pinned (OpenSpec.upto intactBlocksSpec)

/-- 'trustquorumlaw15.IntactLess', WHERE WHAT IT READS IS OF BULK AT MOST 1048576: true; the input reads as it did. -/
def intactLessUptoRow : OpenClaim := { program := "ytacpfcckilnbfaagreat", sum := "d3a6305b3e7529088e08cf523fb71e869a5eedb63347ba2cf3adcf650e22b6e3", func := "trustquorum/trustquorumlaw15.IntactLess", spec := "intactLess", unfollowed := true, recurses := true, apart := false, narrowed := true }
def IntactLessUptoSaid : Prop := intactLessUptoRow.holds Tryz.pinned (OpenSpec.upto intactLessSpec)

/-- 'trustquorumlaw15.IntactFollows', WHERE WHAT IT READS IS OF BULK AT MOST 1048576: true; the input reads as it did. -/
def intactFollowsUptoRow : OpenClaim := { program := "ytacpfcckilnbfaagreat", sum := "d3a6305b3e7529088e08cf523fb71e869a5eedb63347ba2cf3adcf650e22b6e3", func := "trustquorum/trustquorumlaw15.IntactFollows", spec := "intactFollows", unfollowed := true, recurses := true, apart := false, narrowed := true }
def IntactFollowsUptoSaid : Prop := intactFollowsUptoRow.holds Tryz.pinned (OpenSpec.upto intactFollowsSpec)

/-- 'trustquorumlaw15.IntactExplains', WHERE WHAT IT READS IS OF BULK AT MOST 1048576: true; the input reads as it did. -/
def intactExplainsUptoRow : OpenClaim := { program := "ytacpfcckilnbfaagreat", sum := "d3a6305b3e7529088e08cf523fb71e869a5eedb63347ba2cf3adcf650e22b6e3", func := "trustquorum/trustquorumlaw15.IntactExplains", spec := "intactExplains", unfollowed := true, recurses := true, apart := false, narrowed := true }
def IntactExplainsUptoSaid : Prop := intactExplainsUptoRow.holds Tryz.pinned (OpenSpec.upto intactExplainsSpec)

end Rows
end Go.Proofs.YtacpfcckilnbfaaGreat
