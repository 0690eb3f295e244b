/- The walk of AmountRounds: rounding down and up differ by at most 1, agree where the division is exact, and what is changed forth and back is never more. -/
import Derived.Test.YtolodegbilagbaaAmtMath
namespace Go.Proofs.Ytolodegbilagbaa
set_option linter.unusedVariables false
open Go.RowKit

/-- The laws of rounding. -/
theorem rounds_math (x n d : Int) (hd : 1 ≤ d) (hx : 0 ≤ x) (hn : 1 ≤ n) :
    dnQ x n d ≤ upQ x n d ∧ upQ x n d ≤ dnQ x n d + 1 ∧ (dnQ x n d = upQ x n d ↔ x * n % d = 0) ∧ dnQ x n d * d ≤ x * n ∧ x * n ≤ upQ x n d * d := by
  have a1 := upQ_spec (a := x) (n := n) hd
  have a2 := dnQ_spec (a := x) (n := n) hd
  refine ⟨le_of_mul hd ?_, le_of_mul hd ?_, ?_, by omega, by omega⟩
  · simp only [Int.add_mul, Int.one_mul]; omega
  · simp only [Int.add_mul, Int.one_mul]; omega
  · constructor
    · intro h
      rw [h] at a2
      have : x * n = upQ x n d * d := by omega
      rw [this]
      exact Int.mul_emod_left _ _
    · intro h
      have hk := Int.emod_add_mul_ediv (x * n) d
      rw [h] at hk
      generalize x * n / d = k at hk
      rw [Int.mul_comm d k] at hk
      have e1 : dnQ x n d = k := by
        have h1 : dnQ x n d ≤ k := le_of_mul hd (by simp only [Int.add_mul, Int.one_mul]; omega)
        have h2 : k ≤ dnQ x n d := le_of_mul hd (by simp only [Int.add_mul, Int.one_mul]; omega)
        omega
      have e2 : upQ x n d = k := by
        have h1 : upQ x n d ≤ k := le_of_mul hd (by simp only [Int.add_mul, Int.one_mul]; omega)
        have h2 : k ≤ upQ x n d := le_of_mul hd (by simp only [Int.add_mul, Int.one_mul]; omega)
        omega
      rw [e1, e2]
theorem back_math (u x n d : Int) (hn : 1 ≤ n) (hd : 1 ≤ d) (h : u * d ≤ x * n) : dnQ u d n ≤ x := by
  have := dnQ_spec (a := u) (n := d) hn
  exact le_of_mul hn (by simp only [Int.add_mul, Int.one_mul]; omega)
theorem over_math (v x n d : Int) (hn : 1 ≤ n) (hd : 1 ≤ d) (h : x * n ≤ v * d) : x ≤ upQ v d n := by
  have := upQ_spec (a := v) (n := d) hn
  exact le_of_mul hn (by simp only [Int.add_mul, Int.one_mul]; omega)
theorem over_small (v x n d : Int) (hn : 1 ≤ n) (hd : 1 ≤ d) (hd1 : d ≤ 1000) (h : v * d ≤ x * n + (d - 1)) : upQ v d n ≤ x + 1000 := by
  refine upQ_le hn ?_
  have h2 : (1000 : Int) * 1 ≤ 1000 * n := Int.mul_le_mul_of_nonneg_left hn (by omega)
  rw [show (x + 1000 + 1) * n = x * n + 1000 * n + n from by simp only [Int.add_mul, Int.one_mul]]
  omega

/-- All that the walk asks of the numbers. -/
theorem rounds_facts (x n d : Int) (hd : 1 ≤ d) (hd1 : d ≤ 1000) (hx : 0 ≤ x) (hx1 : x ≤ 1000000) (hn : 1 ≤ n) (hn1 : n ≤ 1000) :
    (dnQ x n d ≤ upQ x n d ∧ upQ x n d ≤ dnQ x n d + 1 ∧ dnQ x n d * d ≤ x * n ∧ x * n ≤ upQ x n d * d) ∧
    (0 ≤ dnQ x n d ∧ dnQ x n d ≤ 1000000000 ∧ 0 ≤ upQ x n d ∧ upQ x n d ≤ 1000000000) ∧
    (0 ≤ x * n ∧ x * n ≤ 1000000000 ∧ 0 ≤ dnQ x n d * d ∧ 0 ≤ upQ x n d * d ∧ dnQ x n d * d ≤ 1000000000000 ∧ upQ x n d * d ≤ 1000000000000) ∧
    (0 ≤ dnQ (dnQ x n d) d n ∧ dnQ (dnQ x n d) d n ≤ x ∧ x ≤ upQ (upQ x n d) d n ∧ 0 ≤ upQ (upQ x n d) d n ∧ upQ (upQ x n d) d n ≤ 2000000) := by
  obtain ⟨h1, h2, _, h4, h5⟩ := rounds_math x n d hd hx hn
  have a1 := upQ_spec (a := x) (n := n) hd
  have s1 := dnQ_nonneg (a := x) (n := n) (d := d) hx hn hd
  have s2 := upQ_nonneg (a := x) (n := n) (d := d) hx hn hd
  have s3 := dn_small (x := x) (n := n) (d := d) hd hx hx1 hn hn1
  have s4 := up_small (x := x) (n := n) (d := d) hd hx hx1 hn hn1
  have p1 : 0 ≤ x * n := Int.mul_nonneg hx (by omega)
  have p2 : x * n ≤ 1000000 * 1000 := Int.mul_le_mul hx1 hn1 (by omega) (by omega)
  have p3 : 0 ≤ dnQ x n d * d := Int.mul_nonneg s1 (by omega)
  have p4 : 0 ≤ upQ x n d * d := Int.mul_nonneg s2 (by omega)
  refine ⟨⟨h1, h2, h4, h5⟩, ⟨s1, s3, s2, s4⟩, ⟨p1, by omega, p3, p4, by omega, by omega⟩, dnQ_nonneg s1 hd hn, back_math _ x n d hn hd h4, over_math _ x n d hn hd h5, upQ_nonneg s2 hd hn, ?_⟩
  have := over_small (upQ x n d) x n d hn hd hd1 a1.2
  omega

set_option maxHeartbeats 800000 in
theorem walkAmountRounds (a0 : Int) (a1 : Int) (a2 : Int) (w0 : (Lit.int .u16 a0).wf = true) (w1 : (Lit.int .u16 a1).wf = true) (w2 : (Lit.int .u16 a2).wf = true) (w : World) :
    Calls Try.prog 4 #[.int .u16 a0, .int .u16 a1, .int .u16 a2] w fun e w' => e = .returned (.bool true) ∧ Below w.heap.size w w' := by
  obtain ⟨x0, x1⟩ := bounds_u16 w0
  obtain ⟨n0, n1⟩ := bounds_u16 w1
  obtain ⟨d0, d1⟩ := bounds_u16 w2
  clear w0 w1 w2
  have n2 : 1 ≤ 1 + a1 % 1000 := by omega
  have n3 : 1 + a1 % 1000 ≤ 1000 := by omega
  have d2 : 1 ≤ 1 + a2 % 1000 := by omega
  have d3 : 1 + a2 % 1000 ≤ 1000 := by omega
  obtain ⟨⟨f1, f2, f3, f4⟩, ⟨g1, g2, g3, g4⟩, ⟨k1, k2, k3, k4, k5, k6⟩, m1, m2, m3, m4, m5⟩ := rounds_facts (a0 * 15) (1 + a1 % 1000) (1 + a2 % 1000) d2 d3 (by omega) (by omega) n2 n3
  have heq := (rounds_math (a0 * 15) (1 + a1 % 1000) (1 + a2 % 1000) d2 (by omega) n2).2.2.1
  obtain ⟨b, hb⟩ : ∃ b : Bool, (dnQ (a0 * 15) (1 + a1 % 1000) (1 + a2 % 1000) == upQ (a0 * 15) (1 + a1 % 1000) (1 + a2 % 1000)) = b := ⟨_, rfl⟩
  have hb2 : (a0 * 15 * (1 + a1 % 1000) % (1 + a2 % 1000) == 0) = b := by
    rw [← hb, Bool.eq_iff_iff, beq_iff_eq, beq_iff_eq]; exact heq.symm
  clear heq
  cases b
  all_goals
    go_enter Try.func4, Try.ntmps4
    go_wp2_with fail
    refine (down_ok _ _ _ _ (by omega) (by omega) (by omega) (by omega) (by omega) (by omega) (by omega)).mono ?_
    rintro e z1 ⟨rfl, hb1⟩
    go_wp2_with fail
    refine (up_ok _ _ _ _ (by omega) (by omega) (by omega) (by omega) (by omega) (by omega) (by omega)).mono ?_
    rintro e z2 ⟨rfl, hb2⟩
    go_wp2_with fail
    refine (down_ok _ _ _ _ (by omega) (by omega) (by omega) (by omega) (by omega) (by omega) (by omega)).mono ?_
    rintro e z3 ⟨rfl, hb3⟩
    go_wp2_with fail
    refine (up_ok _ _ _ _ (by omega) (by omega) (by omega) (by omega) (by omega) (by omega) (by omega)).mono ?_
    rintro e z4 ⟨rfl, hb4⟩
    go_wp2_with fail
    refine (sane_ok _).mono ?_
    rintro e z6 ⟨rfl, hb6⟩
    go_wp2_with fail
    go_ret
    exact ⟨rfl, bstep (bstep (bstep (bstep hb1 hb2) hb3) hb4) hb6⟩
end Go.Proofs.Ytolodegbilagbaa
