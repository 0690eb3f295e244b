/- The contracts of package nodeset that trusts need: Valid, isNode, Has. -/
import Derived.Test.YtfghnkgllmofgaaKit
import Derived.Laws.BitsAllLaws
import Derived.Laws.BitsLemmas
namespace Go.Proofs.Ytfghnkgllmofgaa
set_option linter.unusedVariables false
set_option linter.unusedSimpArgs false
open Go.RowKit

def setB (s : Int) : Bool := decide (0 ≤ s) && decide (s ≤ 1023)

def nodeB (k : Int) : Bool := decide (0 ≤ k) && decide (k < 10)

theorem setB_iff {s : Int} : setB s = true ↔ 0 ≤ s ∧ s ≤ 1023 := by unfold setB; simp

theorem nodeB_iff {s : Int} : nodeB s = true ↔ 0 ≤ s ∧ s < 10 := by unfold nodeB; simp

/-- Is node k in set s? -/
def hasB (s k : Int) : Bool := setB s && (nodeB k && s.toNat.testBit k.toNat)

set_option maxHeartbeats 400000 in
theorem setValid_run (s : Int) (w : World) : Calls Try.prog 66 #[.int .i64 s] w fun e w' => e = .returned (.bool (setB s)) ∧ w = w' := by
  cases hb : setB s
  all_goals
    have hi := setB_iff (s := s)
    rw [hb] at hi
    simp only [reduceCtorEq, false_iff, true_iff] at hi
    clear hb
    by_cases h0 : 0 ≤ s <;> by_cases h1 : s ≤ 1023
  all_goals first | (exfalso; omega) | skip
  all_goals
    clear hi
    go_enter Try.func66, Try.ntmps66
    go_wp2
    go_ret
    exact ⟨rfl, rfl⟩

set_option maxHeartbeats 400000 in
theorem isNode_run (s : Int) (w : World) : Calls Try.prog 67 #[.int .i64 s] w fun e w' => e = .returned (.bool (nodeB s)) ∧ w = w' := by
  cases hb : nodeB s
  all_goals
    have hi := nodeB_iff (s := s)
    rw [hb] at hi
    simp only [reduceCtorEq, false_iff, true_iff] at hi
    clear hb
    by_cases h0 : 0 ≤ s <;> by_cases h1 : s < 10
  all_goals first | (exfalso; omega) | skip
  all_goals
    clear hi
    go_enter Try.func67, Try.ntmps67
    go_wp2
    go_ret
    exact ⟨rfl, rfl⟩

theorem ofInt_i64 (a : Nat) (ha : a < 9223372036854775808) : (BitVec.ofInt 64 (a : Int)).toNat = a := by
  rw [BitVec.ofInt_natCast, BitVec.toNat_ofNat]; exact Nat.mod_eq_of_lt (by omega)

theorem i64_and_nat (a b : Nat) (ha : a < 9223372036854775808) (hb : b < 9223372036854775808) : bits .and .i64 (a : Int) (b : Int) = ((a &&& b : Nat) : Int) := by
  have hx : a &&& b < 2 ^ 63 := Nat.and_lt_two_pow _ (by omega)
  show IntKind.i64.wrap ((BitVec.ofInt 64 (a : Int) &&& BitVec.ofInt 64 (b : Int)).toNat : Int) = _
  rw [BitVec.toNat_and, ofInt_i64 a ha, ofInt_i64 b hb, IntKind.wrap_i64]
  omega

theorem bit_fact (S K : Nat) (h : S ≤ 1023) : (bits .and .i64 ((S : Int) / 2 ^ K) 1 == 1) = S.testBit K := by
  have e : ((S : Int) / 2 ^ K) = ((S / 2 ^ K : Nat) : Int) := by
    rw [Int.natCast_ediv, Int.natCast_pow]; rfl
  have hq := Nat.div_le_self S (2 ^ K)
  have h1 := i64_and_nat (S / 2 ^ K) 1 (by omega) (by omega)
  rw [e, show (1 : Int) = ((1 : Nat) : Int) from rfl, h1, Nat.and_one_is_mod, Nat.testBit_eq_decide_div_mod_eq, Bool.eq_iff_iff]
  simp
  omega

set_option maxHeartbeats 1000000 in
theorem has_run (s k : Int) (w : World) : Calls Try.prog 48 #[.int .i64 s, .int .i64 k] w fun e w' => e = .returned (.bool (hasB s k)) ∧ w = w' := by
  cases h1 : setB s
  · have HH := Lib.hid (show hasB s k = false by unfold hasB; simp [h1])
    go_enter Try.func48, Try.ntmps48
    go_wp2_with (first | (go_at_call 66; refine (setValid_run _ _).mono ?_; rintro e w2 ⟨rfl, rfl⟩) | (go_at_call 67; refine (isNode_run _ _).mono ?_; rintro e w2 ⟨rfl, rfl⟩))
    go_ret
    exact ⟨by rw [HH.out]; rfl, rfl⟩
  · cases h2 : nodeB k
    · have HH := Lib.hid (show hasB s k = false by unfold hasB; simp [h1, h2])
      go_enter Try.func48, Try.ntmps48
      go_wp2_with (first | (go_at_call 66; refine (setValid_run _ _).mono ?_; rintro e w2 ⟨rfl, rfl⟩) | (go_at_call 67; refine (isNode_run _ _).mono ?_; rintro e w2 ⟨rfl, rfl⟩))
      go_ret
      exact ⟨by rw [HH.out]; rfl, rfl⟩
    · obtain ⟨s0, s1⟩ := setB_iff.1 h1
      obtain ⟨k0, k1⟩ := nodeB_iff.1 h2
      obtain ⟨S, rfl⟩ := Int.eq_ofNat_of_zero_le s0
      obtain ⟨K, rfl⟩ := Int.eq_ofNat_of_zero_le k0
      have HH := Lib.hid (show hasB (S : Int) (K : Int) = S.testBit K by unfold hasB; simp [h1, h2])
      go_enter Try.func48, Try.ntmps48
      go_wp2_with (first | (go_at_call 66; refine (setValid_run _ _).mono ?_; rintro e w2 ⟨rfl, rfl⟩) | (go_at_call 67; refine (isNode_run _ _).mono ?_; rintro e w2 ⟨rfl, rfl⟩))
      go_ret
      exact ⟨by rw [HH.out, ← bit_fact S K (by omega)]; rfl, rfl⟩

end Go.Proofs.Ytfghnkgllmofgaa
