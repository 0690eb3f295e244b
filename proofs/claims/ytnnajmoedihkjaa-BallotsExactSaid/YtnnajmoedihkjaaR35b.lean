/- Contracts of the reference for amounts: sums, products. -/
import Derived.Test.YtnnajmoedihkjaaR35
namespace Go.Proofs.Ytnnajmoedihkjaa
set_option linter.unusedVariables false
set_option linter.unusedSimpArgs false
open Go.RowKit

/-- A sum or a difference of two numbers, if all three are amounts. -/
def sumV (x a b : Int) : Value := if okI a && okI b && okI x then .tuple #[.int .i64 x, .int .i64 0] else .tuple #[.int .i64 0, .int .i64 65]

theorem sumV_res (x a b : Int) : resV x [a, b] = sumV x a b := by
  unfold resV sumV
  simp [Bool.and_assoc]

set_option maxHeartbeats 1000000 in
theorem radd_any (a b : Int) (w : World) :
    Calls Try.prog 34 #[.int .i64 a, .int .i64 b] w fun e w' => e = .returned (sumV (wrap64 (a + b)) a b) ∧ w = w' := by
  cases ha : okI a <;> cases hb : okI b <;> cases hc : okI (wrap64 (a + b))
  all_goals
    have HV := Lib.hid (show sumV (wrap64 (a + b)) a b = (if okI a && okI b && okI (wrap64 (a + b)) then .tuple #[.int .i64 (wrap64 (a + b)), .int .i64 0] else .tuple #[.int .i64 0, .int .i64 65]) from rfl)
    rw [ha, hb, hc] at HV
    go_enter Try.func34, Try.ntmps34
    go_wp2_with (go_at_call 36; refine (rvalid_any _ _).mono ?_; rintro e w2 ⟨rfl, rfl⟩)
    go_ret2
    exact ⟨by rw [HV.out]; rfl, rfl⟩

set_option maxHeartbeats 1000000 in
theorem rsub_any (a b : Int) (w : World) :
    Calls Try.prog 40 #[.int .i64 a, .int .i64 b] w fun e w' => e = .returned (sumV (wrap64 (a - b)) a b) ∧ w = w' := by
  cases ha : okI a <;> cases hb : okI b <;> cases hc : okI (wrap64 (a - b))
  all_goals
    have HV := Lib.hid (show sumV (wrap64 (a - b)) a b = (if okI a && okI b && okI (wrap64 (a - b)) then .tuple #[.int .i64 (wrap64 (a - b)), .int .i64 0] else .tuple #[.int .i64 0, .int .i64 65]) from rfl)
    rw [ha, hb, hc] at HV
    go_enter Try.func40, Try.ntmps40
    go_wp2_with (go_at_call 36; refine (rvalid_any _ _).mono ?_; rintro e w2 ⟨rfl, rfl⟩)
    go_ret2
    exact ⟨by rw [HV.out]; rfl, rfl⟩

set_option maxHeartbeats 1000000 in
theorem add_any (a b : Int) (w : World) :
    Calls Try.prog 33 #[.int .i64 a, .int .i64 b] w fun e w' => e = .returned (sumV (wrap64 (a + b)) a b) ∧ Below w.heap.size w w' := by
  obtain ⟨x, y, hxy⟩ := resV_form (wrap64 (a + b)) [a, b]
  have HX := Lib.hid hxy
  have HS := Lib.hid (sumV_res (wrap64 (a + b)) a b)
  clear hxy
  go_enter Try.func33, Try.ntmps33
  go_wp2_with fail
  refine (result_run _ [a, b] 2 _ w.heap.size rfl (by omega) (by omega) (by simp) ?_).mono ?_
  · intro j u hu
    rw [show (0 + j) = j by omega, cell_of_row _ _ j _ _ (0, 0) (heap_alloc_new _ _)]
    simpa using hu
  rintro e w2 ⟨rfl, hb2⟩
  rw [HX.out]
  go_wp2
  go_ret2
  exact ⟨by rw [← HS.out, HX.out]; rfl, ((Below.refl _ _).alloc (Nat.le_refl _) _).trans (hb2.mono (by simp))⟩

set_option maxHeartbeats 1000000 in
theorem sub_any (a b : Int) (w : World) :
    Calls Try.prog 39 #[.int .i64 a, .int .i64 b] w fun e w' => e = .returned (sumV (wrap64 (a - b)) a b) ∧ Below w.heap.size w w' := by
  obtain ⟨x, y, hxy⟩ := resV_form (wrap64 (a - b)) [a, b]
  have HX := Lib.hid hxy
  have HS := Lib.hid (sumV_res (wrap64 (a - b)) a b)
  clear hxy
  go_enter Try.func39, Try.ntmps39
  go_wp2_with fail
  refine (result_run _ [a, b] 2 _ w.heap.size rfl (by omega) (by omega) (by simp) ?_).mono ?_
  · intro j u hu
    rw [show (0 + j) = j by omega, cell_of_row _ _ j _ _ (0, 0) (heap_alloc_new _ _)]
    simpa using hu
  rintro e w2 ⟨rfl, hb2⟩
  rw [HX.out]
  go_wp2
  go_ret2
  exact ⟨by rw [← HS.out, HX.out]; rfl, ((Below.refl _ _).alloc (Nat.le_refl _) _).trans (hb2.mono (by simp))⟩

end Go.Proofs.Ytnnajmoedihkjaa
