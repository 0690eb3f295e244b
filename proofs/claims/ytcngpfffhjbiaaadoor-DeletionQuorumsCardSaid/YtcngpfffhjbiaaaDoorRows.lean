/-
  NARROWER THAN 'FOR EVERY INPUT', by the rows' own cells (each row's printed sentence says how): DeletionGrows: laid · DeletionMeans: laid · DeletionTwice: laid · DeletionQuorums: laid.
  DERIVED. THE GIVEN ROWS OF THIS SEAT. 4 by the template 'for every input the law returns true; each argument reads behind the call as it read before'; 0 by the template 'total and deterministic' (their statements: YtcngpfffhjbiaaaDoorTotals.lean).
  GIVEN WITH THE SEED: the statements are not yours to turn. If you find one false, say at which input.
  Laid BY PROGRAM, IN A SANDBOX (cutbox-rows.mjs): the forced cells as the released guide's own fill.sh prints them over the translation 2d53cd4e6c3c2e83… (all of the seat's roots in one cut). By AI agents, Wed Nov 11 2026. No macro, syntax, notation, axiom, sorry.
-/
import Derived.Test.YtcngpfffhjbiaaaDoorChecked
import GoSem.Claim
import GoSem.ClaimJoined
import GoSem.ClaimMapViews
import Derived.JoinedTies
import Derived.KernelRfl
namespace Go.Proofs.YtcngpfffhjbiaaaDoor
/- THE CELL 'sum', in the pinned program and in every row, IS THE sha256 OF THE DUMP (.gsa) THAT YtcngpfffhjbiaaaDoorProg.lean LOADS. Nothing in Lean hashes anything: it is a label: what it is worth is what the hold of that sum in a sandbox is worth. -/
noncomputable def Tryd.pinned : Pinned := { name := "ytcngpfffhjbiaaadoor", sum := "2d53cd4e6c3c2e83b8f9501ce78a1f3c1b0a523ed36fa2f6ab6ede02b94d7414", checked := Tryd.checked }
namespace Rows
def none {H : Type} : Left H := { results := [], args := [] }

/- WHAT THE LISTED PACKAGE-LEVEL VARIABLES READ AS WHEN THE CALL BEGINS. Each datum BY PROGRAM (the guide's laid-datum.mjs) off the statement by which the dump's own 'gosem.cut.vars' lays the variable. In a bare row this is a premise. The card (YtcngpfffhjbiaaaDoorCards.lean) ties it to the program's text. -/
def laid_math_bits_deBruijn32tab {H : Type} : DataW H := .agg [.lit (.int .u8 0), .lit (.int .u8 1), .lit (.int .u8 28), .lit (.int .u8 2), .lit (.int .u8 29), .lit (.int .u8 14), .lit (.int .u8 24), .lit (.int .u8 3), .lit (.int .u8 30), .lit (.int .u8 22), .lit (.int .u8 20), .lit (.int .u8 15), .lit (.int .u8 25), .lit (.int .u8 17), .lit (.int .u8 4), .lit (.int .u8 8), .lit (.int .u8 31), .lit (.int .u8 27), .lit (.int .u8 13), .lit (.int .u8 23), .lit (.int .u8 21), .lit (.int .u8 19), .lit (.int .u8 16), .lit (.int .u8 7), .lit (.int .u8 26), .lit (.int .u8 12), .lit (.int .u8 18), .lit (.int .u8 6), .lit (.int .u8 11), .lit (.int .u8 5), .lit (.int .u8 10), .lit (.int .u8 9)]
def laid_math_bits_deBruijn64tab {H : Type} : DataW H := .agg [.lit (.int .u8 0), .lit (.int .u8 1), .lit (.int .u8 56), .lit (.int .u8 2), .lit (.int .u8 57), .lit (.int .u8 49), .lit (.int .u8 28), .lit (.int .u8 3), .lit (.int .u8 61), .lit (.int .u8 58), .lit (.int .u8 42), .lit (.int .u8 50), .lit (.int .u8 38), .lit (.int .u8 29), .lit (.int .u8 17), .lit (.int .u8 4), .lit (.int .u8 62), .lit (.int .u8 47), .lit (.int .u8 59), .lit (.int .u8 36), .lit (.int .u8 45), .lit (.int .u8 43), .lit (.int .u8 51), .lit (.int .u8 22), .lit (.int .u8 53), .lit (.int .u8 39), .lit (.int .u8 33), .lit (.int .u8 30), .lit (.int .u8 24), .lit (.int .u8 18), .lit (.int .u8 12), .lit (.int .u8 5), .lit (.int .u8 63), .lit (.int .u8 55), .lit (.int .u8 48), .lit (.int .u8 27), .lit (.int .u8 60), .lit (.int .u8 41), .lit (.int .u8 37), .lit (.int .u8 16), .lit (.int .u8 46), .lit (.int .u8 35), .lit (.int .u8 44), .lit (.int .u8 21), .lit (.int .u8 52), .lit (.int .u8 32), .lit (.int .u8 23), .lit (.int .u8 11), .lit (.int .u8 54), .lit (.int .u8 26), .lit (.int .u8 40), .lit (.int .u8 15), .lit (.int .u8 34), .lit (.int .u8 20), .lit (.int .u8 31), .lit (.int .u8 10), .lit (.int .u8 25), .lit (.int .u8 14), .lit (.int .u8 19), .lit (.int .u8 9), .lit (.int .u8 13), .lit (.int .u8 8), .lit (.int .u8 7), .lit (.int .u8 6)]
def laid_internal_strconv_uint64pow10 {H : Type} : DataW H := .agg [.lit (.int .u64 1), .lit (.int .u64 10), .lit (.int .u64 100), .lit (.int .u64 1000), .lit (.int .u64 10000), .lit (.int .u64 100000), .lit (.int .u64 1000000), .lit (.int .u64 10000000), .lit (.int .u64 100000000), .lit (.int .u64 1000000000), .lit (.int .u64 10000000000), .lit (.int .u64 100000000000), .lit (.int .u64 1000000000000), .lit (.int .u64 10000000000000), .lit (.int .u64 100000000000000), .lit (.int .u64 1000000000000000), .lit (.int .u64 10000000000000000), .lit (.int .u64 100000000000000000), .lit (.int .u64 1000000000000000000), .lit (.int .u64 10000000000000000000)]

/-- 'trustquorumlaw13.DeletionGrows': WHATEVER THE INPUT: true; the input reads as it did. -/
def deletionGrowsSpec : ChangeSpec := { name := "deletionGrows", fn := fun _ => fun
  | [d] => { results := [.lit (.bool true)], args := [d] }
  | _ => none }
def deletionGrowsRow : OpenClaim := { program := "ytcngpfffhjbiaaadoor", sum := "2d53cd4e6c3c2e83b8f9501ce78a1f3c1b0a523ed36fa2f6ab6ede02b94d7414", func := "trustquorum/trustquorumlaw13.DeletionGrows", spec := "deletionGrows", unfollowed := true, recurses := true, named := ["internal/strconv.uint64pow10", "math/bits.deBruijn32tab", "math/bits.deBruijn64tab"], apart := false, laid := [("math/bits.deBruijn32tab", laid_math_bits_deBruijn32tab), ("math/bits.deBruijn64tab", laid_math_bits_deBruijn64tab), ("internal/strconv.uint64pow10", laid_internal_strconv_uint64pow10)] }
def DeletionGrowsSaid : Prop := deletionGrowsRow.holds Tryd.pinned (OpenSpec.ofChange deletionGrowsSpec)

/-- ITS FALSE NEIGHBOUR: 'it returns false'. Refute it at one input. -/
def deletionGrowsWrong : ChangeSpec := { name := "deletionGrows", fn := fun _ => fun
  | [d] => { results := [.lit (.bool false)], args := [d] }
  | _ => none }
def DeletionGrowsWrongFalsely : Prop := deletionGrowsRow.holds Tryd.pinned (OpenSpec.ofChange deletionGrowsWrong)

/-- 'trustquorumlaw13.DeletionMeans': WHATEVER THE INPUT: true; the input reads as it did. -/
def deletionMeansSpec : ChangeSpec := { name := "deletionMeans", fn := fun _ => fun
  | [d] => { results := [.lit (.bool true)], args := [d] }
  | _ => none }
def deletionMeansRow : OpenClaim := { program := "ytcngpfffhjbiaaadoor", sum := "2d53cd4e6c3c2e83b8f9501ce78a1f3c1b0a523ed36fa2f6ab6ede02b94d7414", func := "trustquorum/trustquorumlaw13.DeletionMeans", spec := "deletionMeans", unfollowed := true, recurses := true, named := ["internal/strconv.uint64pow10", "math/bits.deBruijn32tab", "math/bits.deBruijn64tab"], apart := false, laid := [("math/bits.deBruijn32tab", laid_math_bits_deBruijn32tab), ("math/bits.deBruijn64tab", laid_math_bits_deBruijn64tab), ("internal/strconv.uint64pow10", laid_internal_strconv_uint64pow10)] }
def DeletionMeansSaid : Prop := deletionMeansRow.holds Tryd.pinned (OpenSpec.ofChange deletionMeansSpec)

/-- ITS FALSE NEIGHBOUR: 'it returns false'. Refute it at one input. -/
def deletionMeansWrong : ChangeSpec := { name := "deletionMeans", fn := fun _ => fun
  | [d] => { results := [.lit (.bool false)], args := [d] }
  | _ => none }
def DeletionMeansWrongFalsely : Prop := deletionMeansRow.holds Tryd.pinned (OpenSpec.ofChange deletionMeansWrong)

/-- 'trustquorumlaw13.DeletionTwice': WHATEVER THE INPUT: true; the input reads as it did. -/
def deletionTwiceSpec : ChangeSpec := { name := "deletionTwice", fn := fun _ => fun
  | [d] => { results := [.lit (.bool true)], args := [d] }
  | _ => none }
def deletionTwiceRow : OpenClaim := { program := "ytcngpfffhjbiaaadoor", sum := "2d53cd4e6c3c2e83b8f9501ce78a1f3c1b0a523ed36fa2f6ab6ede02b94d7414", func := "trustquorum/trustquorumlaw13.DeletionTwice", spec := "deletionTwice", unfollowed := true, recurses := true, named := ["internal/strconv.uint64pow10", "math/bits.deBruijn32tab", "math/bits.deBruijn64tab"], apart := false, laid := [("math/bits.deBruijn32tab", laid_math_bits_deBruijn32tab), ("math/bits.deBruijn64tab", laid_math_bits_deBruijn64tab), ("internal/strconv.uint64pow10", laid_internal_strconv_uint64pow10)] }
def DeletionTwiceSaid : Prop := deletionTwiceRow.holds Tryd.pinned (OpenSpec.ofChange deletionTwiceSpec)

/-- ITS FALSE NEIGHBOUR: 'it returns false'. Refute it at one input. -/
def deletionTwiceWrong : ChangeSpec := { name := "deletionTwice", fn := fun _ => fun
  | [d] => { results := [.lit (.bool false)], args := [d] }
  | _ => none }
def DeletionTwiceWrongFalsely : Prop := deletionTwiceRow.holds Tryd.pinned (OpenSpec.ofChange deletionTwiceWrong)

/-- 'trustquorumlaw13.DeletionQuorums': WHATEVER THE INPUT: true; the input reads as it did. -/
def deletionQuorumsSpec : ChangeSpec := { name := "deletionQuorums", fn := fun _ => fun
  | [d] => { results := [.lit (.bool true)], args := [d] }
  | _ => none }
def deletionQuorumsRow : OpenClaim := { program := "ytcngpfffhjbiaaadoor", sum := "2d53cd4e6c3c2e83b8f9501ce78a1f3c1b0a523ed36fa2f6ab6ede02b94d7414", func := "trustquorum/trustquorumlaw13.DeletionQuorums", spec := "deletionQuorums", unfollowed := true, recurses := true, named := ["internal/strconv.uint64pow10", "math/bits.deBruijn32tab", "math/bits.deBruijn64tab"], apart := false, laid := [("math/bits.deBruijn32tab", laid_math_bits_deBruijn32tab), ("math/bits.deBruijn64tab", laid_math_bits_deBruijn64tab), ("internal/strconv.uint64pow10", laid_internal_strconv_uint64pow10)] }
def DeletionQuorumsSaid : Prop := deletionQuorumsRow.holds Tryd.pinned (OpenSpec.ofChange deletionQuorumsSpec)

/-- ITS FALSE NEIGHBOUR: 'it returns false'. Refute it at one input. -/
def deletionQuorumsWrong : ChangeSpec := { name := "deletionQuorums", fn := fun _ => fun
  | [d] => { results := [.lit (.bool false)], args := [d] }
  | _ => none }
def DeletionQuorumsWrongFalsely : Prop := deletionQuorumsRow.holds Tryd.pinned (OpenSpec.ofChange deletionQuorumsWrong)

/- THE SECOND FORM. 'bulk': how many values and letters a reading holds, each counted each time it is reached (what is shared counts as often as it is met; a slice's spare places count too). A statement '..UptoSaid' is the law's where the arguments, and the package variables that the reading takes, are together of bulk at most 1048576: NARROWER than '..Said'. Prove '..Said' where nothing that the law and all that it calls make is longer than what came in: it says more and counts as full. Else prove '..UptoSaid'. A law counts once. -/
mutual
def uptoBulk {H : Type} : DataW H → Nat
  | .lit (.string bytes) => bytes.length + 1
  | .lit _ => 1
  | .nil => 1
  | .ptr d => uptoBulk d + 1
  | .slice elems spare => uptoBulkAll elems + uptoBulkAll spare + 1
  | .agg parts => uptoBulkAll parts + 1
  | .iface _ d => uptoBulk d + 1
  | .map entries => uptoBulkEntries entries + 1
  | .held _ => 1
def uptoBulkAll {H : Type} : List (DataW H) → Nat
  | [] => 0
  | d :: r => uptoBulk d + uptoBulkAll r
def uptoBulkEntries {H : Type} : List (Lit × DataW H) → Nat
  | [] => 0
  | x :: r => uptoBulkEntry x + uptoBulkEntries r
def uptoBulkEntry {H : Type} : Lit × DataW H → Nat
  | (.string bytes, d) => bytes.length + uptoBulk d + 1
  | (_, d) => uptoBulk d + 1
 end
def uptoSmall : (H : Type) → List (DataW H) → Bool := fun _ ds => decide (uptoBulkAll ds ≤ 1048576)
def OpenSpec.upto (s : _root_.Go.ChangeSpec) : _root_.Go.OpenSpec := { _root_.Go.OpenSpec.ofChange s with cond := some uptoSmall }

/-- 'trustquorumlaw13.DeletionGrows', WHERE WHAT IT READS IS OF BULK AT MOST 1048576: true; the input reads as it did. -/
def deletionGrowsUptoRow : OpenClaim := { program := "ytcngpfffhjbiaaadoor", sum := "2d53cd4e6c3c2e83b8f9501ce78a1f3c1b0a523ed36fa2f6ab6ede02b94d7414", func := "trustquorum/trustquorumlaw13.DeletionGrows", spec := "deletionGrows", unfollowed := true, recurses := true, named := ["internal/strconv.uint64pow10", "math/bits.deBruijn32tab", "math/bits.deBruijn64tab"], apart := false, laid := [("math/bits.deBruijn32tab", laid_math_bits_deBruijn32tab), ("math/bits.deBruijn64tab", laid_math_bits_deBruijn64tab), ("internal/strconv.uint64pow10", laid_internal_strconv_uint64pow10)], narrowed := true }
def DeletionGrowsUptoSaid : Prop := deletionGrowsUptoRow.holds Tryd.pinned (OpenSpec.upto deletionGrowsSpec)

/-- 'trustquorumlaw13.DeletionMeans', WHERE WHAT IT READS IS OF BULK AT MOST 1048576: true; the input reads as it did. -/
def deletionMeansUptoRow : OpenClaim := { program := "ytcngpfffhjbiaaadoor", sum := "2d53cd4e6c3c2e83b8f9501ce78a1f3c1b0a523ed36fa2f6ab6ede02b94d7414", func := "trustquorum/trustquorumlaw13.DeletionMeans", spec := "deletionMeans", unfollowed := true, recurses := true, named := ["internal/strconv.uint64pow10", "math/bits.deBruijn32tab", "math/bits.deBruijn64tab"], apart := false, laid := [("math/bits.deBruijn32tab", laid_math_bits_deBruijn32tab), ("math/bits.deBruijn64tab", laid_math_bits_deBruijn64tab), ("internal/strconv.uint64pow10", laid_internal_strconv_uint64pow10)], narrowed := true }
def DeletionMeansUptoSaid : Prop := deletionMeansUptoRow.holds Tryd.pinned (OpenSpec.upto deletionMeansSpec)

/-- 'trustquorumlaw13.DeletionTwice', WHERE WHAT IT READS IS OF BULK AT MOST 1048576: true; the input reads as it did. -/
def deletionTwiceUptoRow : OpenClaim := { program := "ytcngpfffhjbiaaadoor", sum := "2d53cd4e6c3c2e83b8f9501ce78a1f3c1b0a523ed36fa2f6ab6ede02b94d7414", func := "trustquorum/trustquorumlaw13.DeletionTwice", spec := "deletionTwice", unfollowed := true, recurses := true, named := ["internal/strconv.uint64pow10", "math/bits.deBruijn32tab", "math/bits.deBruijn64tab"], apart := false, laid := [("math/bits.deBruijn32tab", laid_math_bits_deBruijn32tab), ("math/bits.deBruijn64tab", laid_math_bits_deBruijn64tab), ("internal/strconv.uint64pow10", laid_internal_strconv_uint64pow10)], narrowed := true }
def DeletionTwiceUptoSaid : Prop := deletionTwiceUptoRow.holds Tryd.pinned (OpenSpec.upto deletionTwiceSpec)

/-- 'trustquorumlaw13.DeletionQuorums', WHERE WHAT IT READS IS OF BULK AT MOST 1048576: true; the input reads as it did. -/
def deletionQuorumsUptoRow : OpenClaim := { program := "ytcngpfffhjbiaaadoor", sum := "2d53cd4e6c3c2e83b8f9501ce78a1f3c1b0a523ed36fa2f6ab6ede02b94d7414", func := "trustquorum/trustquorumlaw13.DeletionQuorums", spec := "deletionQuorums", unfollowed := true, recurses := true, named := ["internal/strconv.uint64pow10", "math/bits.deBruijn32tab", "math/bits.deBruijn64tab"], apart := false, laid := [("math/bits.deBruijn32tab", laid_math_bits_deBruijn32tab), ("math/bits.deBruijn64tab", laid_math_bits_deBruijn64tab), ("internal/strconv.uint64pow10", laid_internal_strconv_uint64pow10)], narrowed := true }
def DeletionQuorumsUptoSaid : Prop := deletionQuorumsUptoRow.holds Tryd.pinned (OpenSpec.upto deletionQuorumsSpec)

end Rows
end Go.Proofs.YtcngpfffhjbiaaaDoor
