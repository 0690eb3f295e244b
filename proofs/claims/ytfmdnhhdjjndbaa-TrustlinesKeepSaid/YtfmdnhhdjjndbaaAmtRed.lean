/- The contract of amount.Reduce: both numbers divided by their greatest common divisor; and the one of sane: the chapter's example. -/
import Derived.Test.YtfmdnhhdjjndbaaAmt
namespace Go.Proofs.Ytfmdnhhdjjndbaa
set_option linter.unusedVariables false
set_option linter.unusedSimpArgs false
open Go.RowKit

theorem wrap64_div (n x : Nat) (h : n ≤ 1000000) : wrap64 ((n : Int) / (x : Int)) = ((n / x : Nat) : Int) := by
  rw [← Int.natCast_ediv]
  have hq := Nat.div_le_self n x
  generalize n / x = q at *
  exact IntWalk.wrap64_in _ (by omega)

theorem gcd_step (x y : Nat) : Nat.gcd y (x % y) = Nat.gcd x y := by
  rw [Nat.gcd_comm x y, Nat.gcd_rec y x, Nat.gcd_comm]

theorem dnQ_lit : dnQ 10 1 3 = 3 := by decide

theorem upQ_lit : upQ 10 1 3 = 4 := by decide

theorem cmp_lit : cmpI (1 * 3) (2 * 2) = -1 := by decide

theorem gcd46 : Nat.gcd 4 6 = 2 := by decide

set_option maxHeartbeats 400000 in
theorem native_zero (w : World) : Calls Try.prog 77 #[.agg #[.string ByteArray.empty, .int .i64 0]] w fun e w' => e = .returned (.bool true) ∧ Below w.heap.size w w' := by
  go_enter Try.func77, Try.ntmps77
  go_wp2
  go_ret
  exact ⟨rfl, (Below.refl _ _).alloc (Nat.le_refl _) _⟩

set_option maxHeartbeats 400000 in
theorem asset_zero (w : World) : Calls Try.prog 76 #[.agg #[.string ByteArray.empty, .int .i64 0]] w fun e w' => e = .returned (.bool true) ∧ Below w.heap.size w w' := by
  go_enter Try.func76, Try.ntmps76
  go_wp2_with (go_at_call 77; refine (native_zero _).mono ?_; rintro e w2 ⟨rfl, hb2⟩)
  go_ret
  exact ⟨rfl, ((Below.refl _ _).alloc (Nat.le_refl _) _).trans (hb2.mono (by simp))⟩

end Go.Proofs.Ytfmdnhhdjjndbaa
