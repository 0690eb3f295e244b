/-
  NARROWER THAN 'FOR EVERY INPUT', by the rows' own cells (each row's printed sentence says how): IntersectionSound: loops.
  DERIVED. THE GIVEN ROWS OF THIS SEAT. 7 by the template 'for every input the law returns true; each argument reads behind the call as it read before'; 0 by the template 'total and deterministic' (their statements: YtbbdmaakphoofaaTotals.lean).
  GIVEN WITH THE SEED: the statements are not yours to turn. If you find one false, say at which input.
  Laid BY PROGRAM, IN A SANDBOX (cutbox-rows.mjs): the forced cells as the released guide's own fill.sh prints them over the translation 9757cebe5d1552be… (all of the seat's roots in one cut). By AI agents, Wed Nov 11 2026. No macro, syntax, notation, axiom, sorry.
-/
import Derived.Test.YtbbdmaakphoofaaChecked
import GoSem.Claim
import GoSem.ClaimJoined
import GoSem.ClaimMapViews
import Derived.JoinedTies
import Derived.KernelRfl
namespace Go.Proofs.Ytbbdmaakphoofaa
/- THE CELL 'sum', in the pinned program and in every row, IS THE sha256 OF THE DUMP (.gsa) THAT YtbbdmaakphoofaaProg.lean LOADS. Nothing in Lean hashes anything: it is a label: what it is worth is what the hold of that sum in a sandbox is worth. -/
noncomputable def Try.pinned : Pinned := { name := "ytbbdmaakphoofaa", sum := "9757cebe5d1552be575fd628a3df0e4bbb7bd834a08f94d35123d55dee28cbeb", checked := Try.checked }
namespace Rows
def none {H : Type} : Left H := { results := [], args := [] }

/-- 'trustquorumlaw11.BlockingOrders': WHATEVER THE INPUT: true; the input reads as it did. -/
def blockingOrdersSpec : ChangeSpec := { name := "blockingOrders", fn := fun _ => fun
  | [d] => { results := [.lit (.bool true)], args := [d] }
  | _ => none }
def blockingOrdersRow : OpenClaim := { program := "ytbbdmaakphoofaa", sum := "9757cebe5d1552be575fd628a3df0e4bbb7bd834a08f94d35123d55dee28cbeb", func := "trustquorum/trustquorumlaw11.BlockingOrders", spec := "blockingOrders", unfollowed := true, recurses := true, apart := false }
def BlockingOrdersSaid : Prop := blockingOrdersRow.holds Try.pinned (OpenSpec.ofChange blockingOrdersSpec)

/-- ITS FALSE NEIGHBOUR: 'it returns false'. Refute it at one input. -/
def blockingOrdersWrong : ChangeSpec := { name := "blockingOrders", fn := fun _ => fun
  | [d] => { results := [.lit (.bool false)], args := [d] }
  | _ => none }
def BlockingOrdersWrongFalsely : Prop := blockingOrdersRow.holds Try.pinned (OpenSpec.ofChange blockingOrdersWrong)

/-- 'trustquorumlaw18.FederatedSafe': WHATEVER THE INPUT: true; the input reads as it did. -/
def federatedSafeSpec : ChangeSpec := { name := "federatedSafe", fn := fun _ => fun
  | [d] => { results := [.lit (.bool true)], args := [d] }
  | _ => none }
def federatedSafeRow : OpenClaim := { program := "ytbbdmaakphoofaa", sum := "9757cebe5d1552be575fd628a3df0e4bbb7bd834a08f94d35123d55dee28cbeb", func := "trustquorum/trustquorumlaw18.FederatedSafe", spec := "federatedSafe", recurses := true, apart := false }
def FederatedSafeSaid : Prop := federatedSafeRow.holds Try.pinned (OpenSpec.ofChange federatedSafeSpec)

/-- ITS FALSE NEIGHBOUR: 'it returns false'. Refute it at one input. -/
def federatedSafeWrong : ChangeSpec := { name := "federatedSafe", fn := fun _ => fun
  | [d] => { results := [.lit (.bool false)], args := [d] }
  | _ => none }
def FederatedSafeWrongFalsely : Prop := federatedSafeRow.holds Try.pinned (OpenSpec.ofChange federatedSafeWrong)

/-- 'trustquorumlaw12.IntersectionUniform': WHATEVER THE INPUT: true; the input reads as it did. -/
def intersectionUniformSpec : ChangeSpec := { name := "intersectionUniform", fn := fun _ => fun
  | [d1, d2] => { results := [.lit (.bool true)], args := [d1, d2] }
  | _ => none }
def intersectionUniformRow : OpenClaim := { program := "ytbbdmaakphoofaa", sum := "9757cebe5d1552be575fd628a3df0e4bbb7bd834a08f94d35123d55dee28cbeb", func := "trustquorum/trustquorumlaw12.IntersectionUniform", spec := "intersectionUniform", unfollowed := true, recurses := true, apart := false }
def IntersectionUniformSaid : Prop := intersectionUniformRow.holds Try.pinned (OpenSpec.ofChange intersectionUniformSpec)

/-- ITS FALSE NEIGHBOUR: 'it returns false'. Refute it at one input. -/
def intersectionUniformWrong : ChangeSpec := { name := "intersectionUniform", fn := fun _ => fun
  | [d1, d2] => { results := [.lit (.bool false)], args := [d1, d2] }
  | _ => none }
def IntersectionUniformWrongFalsely : Prop := intersectionUniformRow.holds Try.pinned (OpenSpec.ofChange intersectionUniformWrong)

/-- 'trustquorumlaw12.IntersectionDecides': WHATEVER THE INPUT: true; the input reads as it did. -/
def intersectionDecidesSpec : ChangeSpec := { name := "intersectionDecides", fn := fun _ => fun
  | [d] => { results := [.lit (.bool true)], args := [d] }
  | _ => none }
def intersectionDecidesRow : OpenClaim := { program := "ytbbdmaakphoofaa", sum := "9757cebe5d1552be575fd628a3df0e4bbb7bd834a08f94d35123d55dee28cbeb", func := "trustquorum/trustquorumlaw12.IntersectionDecides", spec := "intersectionDecides", unfollowed := true, recurses := true, apart := false }
def IntersectionDecidesSaid : Prop := intersectionDecidesRow.holds Try.pinned (OpenSpec.ofChange intersectionDecidesSpec)

/-- ITS FALSE NEIGHBOUR: 'it returns false'. Refute it at one input. -/
def intersectionDecidesWrong : ChangeSpec := { name := "intersectionDecides", fn := fun _ => fun
  | [d] => { results := [.lit (.bool false)], args := [d] }
  | _ => none }
def IntersectionDecidesWrongFalsely : Prop := intersectionDecidesRow.holds Try.pinned (OpenSpec.ofChange intersectionDecidesWrong)

/-- 'trustquorumlaw12.IntersectionSound': WHATEVER THE INPUT: true; the input reads as it did. -/
def intersectionSoundSpec : ChangeSpec := { name := "intersectionSound", fn := fun _ => fun
  | [d1, d2] => { results := [.lit (.bool true)], args := [d1, d2] }
  | _ => none }
def intersectionSoundRow : OpenClaim := { program := "ytbbdmaakphoofaa", sum := "9757cebe5d1552be575fd628a3df0e4bbb7bd834a08f94d35123d55dee28cbeb", func := "trustquorum/trustquorumlaw12.IntersectionSound", spec := "intersectionSound", unfollowed := true, recurses := true, loops := true, apart := false }
def IntersectionSoundSaid : Prop := intersectionSoundRow.holds Try.pinned (OpenSpec.ofChange intersectionSoundSpec)

/-- ITS FALSE NEIGHBOUR: 'it returns false'. Refute it at one input. -/
def intersectionSoundWrong : ChangeSpec := { name := "intersectionSound", fn := fun _ => fun
  | [d1, d2] => { results := [.lit (.bool false)], args := [d1, d2] }
  | _ => none }
def IntersectionSoundWrongFalsely : Prop := intersectionSoundRow.holds Try.pinned (OpenSpec.ofChange intersectionSoundWrong)

/-- 'trustquorumlaw10.QuorumsSymmetric': WHATEVER THE INPUT: true; the input reads as it did. -/
def quorumsSymmetricSpec : ChangeSpec := { name := "quorumsSymmetric", fn := fun _ => fun
  | [d] => { results := [.lit (.bool true)], args := [d] }
  | _ => none }
def quorumsSymmetricRow : OpenClaim := { program := "ytbbdmaakphoofaa", sum := "9757cebe5d1552be575fd628a3df0e4bbb7bd834a08f94d35123d55dee28cbeb", func := "trustquorum/trustquorumlaw10.QuorumsSymmetric", spec := "quorumsSymmetric", unfollowed := true, recurses := true, apart := false }
def QuorumsSymmetricSaid : Prop := quorumsSymmetricRow.holds Try.pinned (OpenSpec.ofChange quorumsSymmetricSpec)

/-- ITS FALSE NEIGHBOUR: 'it returns false'. Refute it at one input. -/
def quorumsSymmetricWrong : ChangeSpec := { name := "quorumsSymmetric", fn := fun _ => fun
  | [d] => { results := [.lit (.bool false)], args := [d] }
  | _ => none }
def QuorumsSymmetricWrongFalsely : Prop := quorumsSymmetricRow.holds Try.pinned (OpenSpec.ofChange quorumsSymmetricWrong)

/-- 'trustquorumlaw10.QuorumsUniform': WHATEVER THE INPUT: true; the input reads as it did. -/
def quorumsUniformSpec : ChangeSpec := { name := "quorumsUniform", fn := fun _ => fun
  | [d1, d2] => { results := [.lit (.bool true)], args := [d1, d2] }
  | _ => none }
def quorumsUniformRow : OpenClaim := { program := "ytbbdmaakphoofaa", sum := "9757cebe5d1552be575fd628a3df0e4bbb7bd834a08f94d35123d55dee28cbeb", func := "trustquorum/trustquorumlaw10.QuorumsUniform", spec := "quorumsUniform", unfollowed := true, recurses := true, apart := false }
def QuorumsUniformSaid : Prop := quorumsUniformRow.holds Try.pinned (OpenSpec.ofChange quorumsUniformSpec)

/-- ITS FALSE NEIGHBOUR: 'it returns false'. Refute it at one input. -/
def quorumsUniformWrong : ChangeSpec := { name := "quorumsUniform", fn := fun _ => fun
  | [d1, d2] => { results := [.lit (.bool false)], args := [d1, d2] }
  | _ => none }
def QuorumsUniformWrongFalsely : Prop := quorumsUniformRow.holds Try.pinned (OpenSpec.ofChange quorumsUniformWrong)

/- THE SECOND FORM. 'bulk': how many values and letters a reading holds, each counted each time it is reached (what is shared counts as often as it is met; a slice's spare places count too). A statement '..UptoSaid' is the law's where the arguments, and the package variables that the reading takes, are together of bulk at most 1048576: NARROWER than '..Said'. Prove '..Said' where nothing that the law and all that it calls make is longer than what came in: it says more and counts as full. Else prove '..UptoSaid'. A law counts once. -/
mutual
def uptoBulk {H : Type} : DataW H → Nat
  | .lit (.string bytes) => bytes.length + 1
  | .lit _ => 1
  | .nil => 1
  | .ptr d => uptoBulk d + 1
  | .slice elems spare => uptoBulkAll elems + uptoBulkAll spare + 1
  | .agg parts => uptoBulkAll parts + 1
  | .iface _ d => uptoBulk d + 1
  | .map entries => uptoBulkEntries entries + 1
  | .held _ => 1
def uptoBulkAll {H : Type} : List (DataW H) → Nat
  | [] => 0
  | d :: r => uptoBulk d + uptoBulkAll r
def uptoBulkEntries {H : Type} : List (Lit × DataW H) → Nat
  | [] => 0
  | x :: r => uptoBulkEntry x + uptoBulkEntries r
def uptoBulkEntry {H : Type} : Lit × DataW H → Nat
  | (.string bytes, d) => bytes.length + uptoBulk d + 1
  | (_, d) => uptoBulk d + 1
 end
def uptoSmall : (H : Type) → List (DataW H) → Bool := fun _ ds => decide (uptoBulkAll ds ≤ 1048576)
def OpenSpec.upto (s : _root_.Go.ChangeSpec) : _root_.Go.OpenSpec := { _root_.Go.OpenSpec.ofChange s with cond := some uptoSmall }

/-- 'trustquorumlaw11.BlockingOrders', WHERE WHAT IT READS IS OF BULK AT MOST 1048576: true; the input reads as it did. -/
def blockingOrdersUptoRow : OpenClaim := { program := "ytbbdmaakphoofaa", sum := "9757cebe5d1552be575fd628a3df0e4bbb7bd834a08f94d35123d55dee28cbeb", func := "trustquorum/trustquorumlaw11.BlockingOrders", spec := "blockingOrders", unfollowed := true, recurses := true, apart := false, narrowed := true }
def BlockingOrdersUptoSaid : Prop := blockingOrdersUptoRow.holds Try.pinned (OpenSpec.upto blockingOrdersSpec)

/-- 'trustquorumlaw18.FederatedSafe', WHERE WHAT IT READS IS OF BULK AT MOST 1048576: true; the input reads as it did. -/
def federatedSafeUptoRow : OpenClaim := { program := "ytbbdmaakphoofaa", sum := "9757cebe5d1552be575fd628a3df0e4bbb7bd834a08f94d35123d55dee28cbeb", func := "trustquorum/trustquorumlaw18.FederatedSafe", spec := "federatedSafe", recurses := true, apart := false, narrowed := true }
def FederatedSafeUptoSaid : Prop := federatedSafeUptoRow.holds Try.pinned (OpenSpec.upto federatedSafeSpec)

/-- 'trustquorumlaw12.IntersectionUniform', WHERE WHAT IT READS IS OF BULK AT MOST 1048576: true; the input reads as it did. -/
def intersectionUniformUptoRow : OpenClaim := { program := "ytbbdmaakphoofaa", sum := "9757cebe5d1552be575fd628a3df0e4bbb7bd834a08f94d35123d55dee28cbeb", func := "trustquorum/trustquorumlaw12.IntersectionUniform", spec := "intersectionUniform", unfollowed := true, recurses := true, apart := false, narrowed := true }
def IntersectionUniformUptoSaid : Prop := intersectionUniformUptoRow.holds Try.pinned (OpenSpec.upto intersectionUniformSpec)

/-- 'trustquorumlaw12.IntersectionDecides', WHERE WHAT IT READS IS OF BULK AT MOST 1048576: true; the input reads as it did. -/
def intersectionDecidesUptoRow : OpenClaim := { program := "ytbbdmaakphoofaa", sum := "9757cebe5d1552be575fd628a3df0e4bbb7bd834a08f94d35123d55dee28cbeb", func := "trustquorum/trustquorumlaw12.IntersectionDecides", spec := "intersectionDecides", unfollowed := true, recurses := true, apart := false, narrowed := true }
def IntersectionDecidesUptoSaid : Prop := intersectionDecidesUptoRow.holds Try.pinned (OpenSpec.upto intersectionDecidesSpec)

/-- 'trustquorumlaw12.IntersectionSound', WHERE WHAT IT READS IS OF BULK AT MOST 1048576: true; the input reads as it did. -/
def intersectionSoundUptoRow : OpenClaim := { program := "ytbbdmaakphoofaa", sum := "9757cebe5d1552be575fd628a3df0e4bbb7bd834a08f94d35123d55dee28cbeb", func := "trustquorum/trustquorumlaw12.IntersectionSound", spec := "intersectionSound", unfollowed := true, recurses := true, loops := true, apart := false, narrowed := true }
def IntersectionSoundUptoSaid : Prop := intersectionSoundUptoRow.holds Try.pinned (OpenSpec.upto intersectionSoundSpec)

/-- 'trustquorumlaw10.QuorumsSymmetric', WHERE WHAT IT READS IS OF BULK AT MOST 1048576: true; the input reads as it did. -/
def quorumsSymmetricUptoRow : OpenClaim := { program := "ytbbdmaakphoofaa", sum := "9757cebe5d1552be575fd628a3df0e4bbb7bd834a08f94d35123d55dee28cbeb", func := "trustquorum/trustquorumlaw10.QuorumsSymmetric", spec := "quorumsSymmetric", unfollowed := true, recurses := true, apart := false, narrowed := true }
def QuorumsSymmetricUptoSaid : Prop := quorumsSymmetricUptoRow.holds Try.pinned (OpenSpec.upto quorumsSymmetricSpec)

/-- 'trustquorumlaw10.QuorumsUniform', WHERE WHAT IT READS IS OF BULK AT MOST 1048576: true; the input reads as it did. -/
def quorumsUniformUptoRow : OpenClaim := { program := "ytbbdmaakphoofaa", sum := "9757cebe5d1552be575fd628a3df0e4bbb7bd834a08f94d35123d55dee28cbeb", func := "trustquorum/trustquorumlaw10.QuorumsUniform", spec := "quorumsUniform", unfollowed := true, recurses := true, apart := false, narrowed := true }
def QuorumsUniformUptoSaid : Prop := quorumsUniformUptoRow.holds Try.pinned (OpenSpec.upto quorumsUniformSpec)

end Rows
end Go.Proofs.Ytbbdmaakphoofaa
