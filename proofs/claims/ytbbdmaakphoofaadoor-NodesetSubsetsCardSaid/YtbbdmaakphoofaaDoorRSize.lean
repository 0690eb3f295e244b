/- The contract of the reference's Size. -/
import Derived.Test.YtbbdmaakphoofaaDoorNext
import Derived.Test.YtbbdmaakphoofaaDoorRef01
namespace Go.Proofs.YtbbdmaakphoofaaDoor
set_option linter.unusedVariables false
set_option linter.unusedSimpArgs false
open Go.RowKit

def popk (s k : Nat) : Nat := (List.range k).countP (fun i => s.testBit i)
theorem popk_succ (s k : Nat) : popk s (k + 1) = popk s k + (s / 2 ^ k) % 2 := by
  unfold popk
  rw [List.range_succ, List.countP_append, List.countP_singleton, Nat.testBit_eq_decide_div_mod_eq]
  congr 1
  rcases Nat.mod_two_eq_zero_or_one (s / 2 ^ k) with h | h <;> simp [h]
theorem popk_le (s k : Nat) : popk s k ≤ k := by unfold popk; exact Nat.le_trans List.countP_le_length (by simp)
theorem add_bit (s r k : Nat) (hs : s < 1024) (hr : r ≤ 10) : wrap64 ((r : Int) + bits .and .i64 ((s : Int) / 2 ^ k) 1) = ((r + (s / 2 ^ k) % 2 : Nat) : Int) := by
  have e : ((s : Int) / 2 ^ k) = ((s / 2 ^ k : Nat) : Int) := by
    rw [Int.natCast_ediv, Int.natCast_pow]; rfl
  have hq := Nat.div_le_self s (2 ^ k)
  have h1 := i64_and_nat (s / 2 ^ k) 1 (by omega) (by omega)
  rw [e, show (1 : Int) = ((1 : Nat) : Int) from rfl, h1, Nat.and_one_is_mod]
  unfold wrap64
  omega

set_option maxHeartbeats 2000000 in
theorem rsetSize_run (s : Nat) (hs : s < 1024) (w : World) : Calls Tryd.prog 24 #[.int .i64 (s : Int)] w fun e w' => e = .returned (.int .i64 (popc s : Nat)) ∧ w = w' := by
  have hsv := Lib.hid (show setB (s : Int) = true from setB_iff.2 ⟨by omega, by omega⟩)
  go_enter Tryd.func24, Tryd.ntmps24
  go_wp2_with fail
  go_loop [3, 4] (fun v t => ∃ k : Nat, k ≤ 10 ∧ v = .int .i64 (popk s k : Nat) ∧ t = .int .i64 k) (fun _ t => 10 - (intOf t).toNat)
  case atStart => exact ⟨0, by omega, rfl, rfl⟩
  case round =>
    obtain ⟨k, hk, rfl, rfl⟩ := hrel
    by_cases hlt : k < 10
    · have HA := Lib.hid (add_bit s (popk s k) k hs (Nat.le_trans (popk_le s k) hk))
      rw [← popk_succ] at HA
      go_wp2_with fail
      refine (rsetValid_run _ _).mono ?_
      rintro e w2 ⟨rfl, rfl⟩
      rw [hsv.out]
      go_wp2_with fail
      rw [HA.out]
      go_round
      case rel => exact ⟨k + 1, by omega, rfl, by go_num⟩
      case measure => simp [intOf]; omega
    · obtain rfl : k = 10 := by omega
      go_wp2_with fail
      go_ret
      exact ⟨rfl, rfl⟩
end Go.Proofs.YtbbdmaakphoofaaDoor
