/- The walk of IntersectionUniform: n nodes which all trust in k of them have intersection exactly if k is more than half of n. -/
import Derived.Test.YtbbdmaakphoofaaAwake12
import Derived.OpenShut
namespace Go.Proofs.Ytbbdmaakphoofaa
set_option linter.unusedVariables false
set_option linter.unusedSimpArgs false
open Go.RowKit

set_option maxRecDepth 100000 in
set_option maxHeartbeats 4000000 in
theorem walkIntersectionUniform (a0 : Int) (a1 : Int) (w0 : (Lit.int .u8 a0).wf = true) (w1 : (Lit.int .u8 a1).wf = true) (w : World) :
    Calls Try.prog 5 #[.int .u8 a0, .int .u8 a1] w fun e w' => e = .returned (.bool true) ∧ Below w.heap.size w w' := by
  obtain ⟨x0, x1⟩ := bounds_u8 w0
  obtain ⟨y0, y1⟩ := bounds_u8 w1
  clear w0 w1
  obtain ⟨n, hn⟩ : ∃ n : Nat, 1 + a0 % 9 = (n : Int) := ⟨(1 + a0 % 9).toNat, by omega⟩
  have hn1 : 1 ≤ n ∧ n ≤ 9 := by omega
  have m1 := Int.emod_nonneg a1 (show (n : Int) ≠ 0 by omega)
  have m2 := Int.emod_lt_of_pos a1 (show (0 : Int) < (n : Int) by omega)
  obtain ⟨k, hk⟩ : ∃ k : Nat, 1 + a1 % (n : Int) = (k : Int) := ⟨(1 + a1 % (n : Int)).toNat, by omega⟩
  have hk1 : 1 ≤ k ∧ k ≤ n := by omega
  have hkw : wrap64 (1 + a1 % (n : Int)) = (k : Int) := by rw [hk]; unfold wrap64; omega
  clear m1 m2
  have HOK := Lib.hid (uni_ok (n := n) (k := k) (by omega) hk1.1 hk1.2)
  have HAP := Lib.hid (uni_apart (d := 1) (n := n) (k := k) (by omega) hk1.1 hk1.2)
  have hn0 : ((n : Int) == 0) = false := by rw [beq_eq_false_iff_ne]; omega
  have c1 : IntKind.i64.wrap a0 = a0 := IntWalk.i64_in _ (by omega)
  have c2 : IntKind.i64.wrap a1 = a1 := IntWalk.i64_in _ (by omega)
  have c3 : IntKind.i64.wrap (2 * (k : Int)) = 2 * (k : Int) := IntWalk.i64_in _ (by omega)
  go_enter Try.func5, Try.ntmps5
  go_wp2_with fail
  refine (same12_run n k (by omega) (by omega) _).mono ?_
  rintro e w1 ⟨v1, rfl, hm1, hb1⟩
  go_wp2_with fail
  refine (holds12_run _ _ _ _ (by rw [uniM_len]; omega) hm1.up HOK.out).mono ?_
  rintro e w2 ⟨hho, hb2⟩
  have HB2 := Lib.hid (bstep hb1 hb2)
  rw [HoldsOk, uniM_len] at hho
  by_cases h2 : 2 * k ≤ n
  · have he : e = .returned (.tuple #[.bool false, .int .i64 0]) := by
      rcases hho with ⟨_, h1⟩ | ⟨h1, _⟩
      · obtain ⟨t, ht, hA⟩ := HAP.out.2 h2
        exact (h1 t ht hA).elim
      · exact h1
    subst he
    have hd : ¬ (n : Int) < 2 * (k : Int) := by omega
    have HD := Lib.hid (show decide ((n : Int) < 2 * (k : Int)) = false from decide_eq_false hd)
    clear hho hm1 hb1 hb2 h2
    go_wp2_with fail
    refine (awake12 _).mono ?_
    rintro e Z ⟨rfl, hbz⟩
    have HZ := Lib.hid (bstep HB2.out hbz)
    clear hbz
    go_wp2_with fail
    go_ret
    exact ⟨by show Ending.returned (.bool (!decide ((n : Int) < 2 * (k : Int)))) = _; rw [HD.out]; rfl, HZ.out⟩
  · have he : e = .returned (.tuple #[.bool true, .int .i64 0]) := by
      rcases hho with ⟨h1, _⟩ | ⟨_, h1⟩
      · exact h1
      · exact (h2 (HAP.out.1 h1)).elim
    subst he
    have hd : (n : Int) < 2 * (k : Int) := by omega
    clear hho hm1 hb1 hb2 h2
    go_wp2_with fail
    refine (awake12 _).mono ?_
    rintro e Z ⟨rfl, hbz⟩
    have HZ := Lib.hid (bstep HB2.out hbz)
    clear hbz
    go_wp2_with fail
    go_ret
    exact ⟨rfl, HZ.out⟩
end Go.Proofs.Ytbbdmaakphoofaa
