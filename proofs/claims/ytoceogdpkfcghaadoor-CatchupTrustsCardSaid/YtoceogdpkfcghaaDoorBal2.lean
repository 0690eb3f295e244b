/- The contracts of package ballots over the source's ballots. -/
import Derived.Test.YtoceogdpkfcghaaDoorBal
namespace Go.Proofs.YtoceogdpkfcghaaDoor
set_option linter.unusedVariables false
open Go.RowKit

def listOf (i : Nat) : List UInt8 := match i with | 1 => [97] | 2 => [98] | 3 => [99] | 4 => [97, 97] | _ => []

theorem valOf_toList {i : Nat} (h : i ≤ 4) : (valOf i).toList = listOf i := by
  match i, h with
  | 0, _ | 1, _ | 2, _ | 3, _ | 4, _ => simp [valOf, listOf, ByteArray.toList, ByteArray.toList.loop, ByteArray.size, ByteArray.get!]

theorem valOf_empty : (valOf 0).toList = [] := valOf_toList (by omega)

theorem valOf_full {i : Nat} (h0 : 1 ≤ i) (h : i ≤ 4) : ¬ (valOf i).toList = [] := by
  rw [valOf_toList h]
  match i, h0, h with
  | 1, _, _ | 2, _, _ | 3, _, _ | 4, _, _ => decide

theorem valOf_eqL {i j : Nat} (hi : i ≤ 4) (hj : j ≤ 4) : ((valOf i).toList == (valOf j).toList) = decide (i = j) := by
  rw [valOf_toList hi, valOf_toList hj]
  match i, j, hi, hj with
  | 0, 0, _, _ | 0, 1, _, _ | 0, 2, _, _ | 0, 3, _, _ | 0, 4, _, _ | 1, 0, _, _ | 1, 1, _, _ | 1, 2, _, _ | 1, 3, _, _ | 1, 4, _, _
  | 2, 0, _, _ | 2, 1, _, _ | 2, 2, _, _ | 2, 3, _, _ | 2, 4, _, _ | 3, 0, _, _ | 3, 1, _, _ | 3, 2, _, _ | 3, 3, _, _ | 3, 4, _, _
  | 4, 0, _, _ | 4, 1, _, _ | 4, 2, _, _ | 4, 3, _, _ | 4, 4, _, _ => decide

def prepB (c : Int) (i : Nat) (d : Int) (j : Nat) (f : Int) (k : Nat) : Bool := covB c i f k || covB d j f k || (!zeroB d j && lessB f k d j)

end Go.Proofs.YtoceogdpkfcghaaDoor
