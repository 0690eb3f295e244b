/- The contracts of the reference's sets: Valid, Has, Of. -/
import Derived.Test.YtoceogdpkfcghaaDoorUses
namespace Go.Proofs.YtoceogdpkfcghaaDoor
set_option linter.unusedVariables false
open Go.RowKit

set_option maxHeartbeats 400000 in
theorem rsetValid_run (s : Int) (w : World) : Calls Tryd.prog 12 #[.int .i64 s] w fun e w' => e = .returned (.bool (setB s)) ∧ w = w' := by
  cases hb : setB s
  all_goals
    have hi := setB_iff (s := s)
    rw [hb] at hi
    simp only [reduceCtorEq, false_iff, true_iff] at hi
    clear hb
    by_cases h0 : 0 ≤ s <;> by_cases h1 : s ≤ 1023
  all_goals first | (exfalso; omega) | skip
  all_goals
    clear hi
    go_enter Tryd.func12, Tryd.ntmps12
    go_wp2
    go_ret
    exact ⟨rfl, rfl⟩

set_option maxHeartbeats 1000000 in
theorem rhas_run (s k : Int) (w : World) : Calls Tryd.prog 13 #[.int .i64 s, .int .i64 k] w fun e w' => e = .returned (.bool (hasB s k)) ∧ w = w' := by
  cases h1 : setB s
  · have HH := Lib.hid (show hasB s k = false by unfold hasB; simp [h1])
    go_enter Tryd.func13, Tryd.ntmps13
    go_wp2_with (first | (go_at_call 12; refine (rsetValid_run _ _).mono ?_; rintro e w2 ⟨rfl, rfl⟩))
    go_ret
    exact ⟨by rw [HH.out]; rfl, rfl⟩
  · by_cases k0 : 0 ≤ k
    · by_cases k1 : k < 10
      · obtain ⟨s0, s1⟩ := setB_iff.1 h1
        obtain ⟨S, rfl⟩ := Int.eq_ofNat_of_zero_le s0
        obtain ⟨K, rfl⟩ := Int.eq_ofNat_of_zero_le k0
        have h2 : nodeB (K : Int) = true := nodeB_iff.2 ⟨k0, k1⟩
        have HH := Lib.hid (show hasB (S : Int) (K : Int) = S.testBit K by unfold hasB; simp [h1, h2])
        clear h2
        go_enter Tryd.func13, Tryd.ntmps13
        go_wp2_with (first | (go_at_call 12; refine (rsetValid_run _ _).mono ?_; rintro e w2 ⟨rfl, rfl⟩))
        go_ret
        exact ⟨by rw [HH.out, ← bit_fact S K (by omega)]; rfl, rfl⟩
      · have HH := Lib.hid (show hasB s k = false by unfold hasB nodeB; simp [k1])
        go_enter Tryd.func13, Tryd.ntmps13
        go_wp2_with (first | (go_at_call 12; refine (rsetValid_run _ _).mono ?_; rintro e w2 ⟨rfl, rfl⟩))
        go_ret
        exact ⟨by rw [HH.out]; rfl, rfl⟩
    · have HH := Lib.hid (show hasB s k = false by unfold hasB nodeB; simp [k0])
      go_enter Tryd.func13, Tryd.ntmps13
      go_wp2_with (first | (go_at_call 12; refine (rsetValid_run _ _).mono ?_; rintro e w2 ⟨rfl, rfl⟩))
      go_ret
      exact ⟨by rw [HH.out]; rfl, rfl⟩

/-- Nodes in range. -/
def InR (ns : List Int) : Prop := ∀ x ∈ ns, 0 ≤ x ∧ x < 10

theorem foldBit_bit : ∀ (ns : List Int) (s K : Nat), InR ns → (ns.foldl bitS s).testBit K = (s.testBit K || decide ((K : Int) ∈ ns))
  | [], s, K, _ => by simp
  | x :: ns, s, K, h => by
    rw [List.foldl_cons, foldBit_bit ns _ K (fun y hy => h y (List.mem_cons_of_mem _ hy))]
    have hx := h x List.mem_cons_self
    unfold bitS
    rw [if_pos hx, Nat.testBit_or, Nat.testBit_two_pow, Bool.or_assoc]
    congr 1
    rw [Bool.eq_iff_iff]
    simp
    constructor
    · rintro (h | h)
      · left; omega
      · exact .inr h
    · rintro (h | h)
      · left; omega
      · exact .inr h

theorem nodesS_bit {ns : List Int} (K : Nat) (h : InR ns) : (nodesS ns).testBit K = decide ((K : Int) ∈ ns) := by
  unfold nodesS; rw [foldBit_bit ns 0 K h]; simp

end Go.Proofs.YtoceogdpkfcghaaDoor
