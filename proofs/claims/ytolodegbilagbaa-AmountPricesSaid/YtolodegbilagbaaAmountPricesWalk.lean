/- The walk of AmountPrices: reduced prices are equal prices, prices are in an order, and adding and taking away lead back. -/
import Derived.Test.YtolodegbilagbaaAmtMath
namespace Go.Proofs.Ytolodegbilagbaa
set_option linter.unusedVariables false
open Go.RowKit

def redN (n d : Int) : Int := n / ((Int.gcd n d : Nat) : Int)
def redD (n d : Int) : Int := d / ((Int.gcd n d : Nat) : Int)
theorem gcd_pos {n d : Int} (hn : 1 ≤ n) : 1 ≤ ((Int.gcd n d : Nat) : Int) := by
  have := Int.gcd_pos_of_ne_zero_left d (show n ≠ 0 by omega)
  omega
theorem red_facts {n d : Int} (hn : 1 ≤ n) (hd : 1 ≤ d) :
    1 ≤ redN n d ∧ redN n d ≤ n ∧ 1 ≤ redD n d ∧ redD n d ≤ d ∧ redN n d * d = redD n d * n := by
  have hg := gcd_pos (d := d) hn
  obtain ⟨x, hx⟩ := Int.gcd_dvd_left n d
  obtain ⟨y, hy⟩ := Int.gcd_dvd_right n d
  have e1 : redN n d = x := by
    unfold redN
    exact Int.ediv_eq_of_eq_mul_right (by omega) hx
  have e2 : redD n d = y := by
    unfold redD
    exact Int.ediv_eq_of_eq_mul_right (by omega) hy
  generalize ((Int.gcd n d : Nat) : Int) = g at *
  have hx1 : 1 ≤ x := by
    rcases Int.lt_or_le x 1 with h | h
    · have := Int.mul_le_mul_of_nonneg_left (show x ≤ 0 by omega) (show 0 ≤ g by omega)
      omega
    · exact h
  have hy1 : 1 ≤ y := by
    rcases Int.lt_or_le y 1 with h | h
    · have := Int.mul_le_mul_of_nonneg_left (show y ≤ 0 by omega) (show 0 ≤ g by omega)
      omega
    · exact h
  rw [e1, e2]
  refine ⟨hx1, ?_, hy1, ?_, ?_⟩
  · have := Int.mul_le_mul_of_nonneg_right hg (show 0 ≤ x by omega)
    omega
  · have := Int.mul_le_mul_of_nonneg_right hg (show 0 ≤ y by omega)
    omega
  · rw [hx, hy]
    rw [Int.mul_comm g y, ← Int.mul_assoc, Int.mul_comm g x, ← Int.mul_assoc, Int.mul_comm x y]
theorem red_times {n d f : Int} (hn : 1 ≤ n) (hf : 1 ≤ f) : redN (n * f) (d * f) = redN n d ∧ redD (n * f) (d * f) = redD n d := by
  have e : ((Int.gcd (n * f) (d * f) : Nat) : Int) = ((Int.gcd n d : Nat) : Int) * f := by
    rw [Int.gcd_mul_right, Int.natCast_mul]
    congr 1
    omega
  unfold redN redD
  rw [e]
  exact ⟨Int.mul_ediv_mul_of_pos_left _ _ (by omega), Int.mul_ediv_mul_of_pos_left _ _ (by omega)⟩

theorem reduce_int (n d : Int) (w : World) (h0 : 1 ≤ n) (h1 : n ≤ 1000000) (h2 : 1 ≤ d) (h3 : d ≤ 1000000) :
    Calls Try.prog 17 #[.int .i64 n, .int .i64 d] w fun e w' => e = .returned (.tuple #[.int .i64 (redN n d), .int .i64 (redD n d)]) ∧ Below w.heap.size w w' := by
  obtain ⟨N, rfl⟩ := Int.eq_ofNat_of_zero_le (show 0 ≤ n by omega)
  obtain ⟨D, rfl⟩ := Int.eq_ofNat_of_zero_le (show 0 ≤ d by omega)
  refine (reduce_ok N D w (by omega) (by omega) (by omega) (by omega)).mono fun e w' ⟨he, hw⟩ => ⟨?_, hw⟩
  rw [he]
  unfold redN redD
  rw [Int.gcd_natCast_natCast]
  rfl

theorem resV_two {x a b : Int} (hx : okI x = true) (ha : okI a = true) (hb : okI b = true) : resV x [a, b] = .tuple #[.int .i64 x, .int .i64 0] := by
  unfold resV
  rw [if_pos]
  simp [ha, hb, hx]

theorem two_new (w : World) (x y : Value) (t : TypeId) : ∀ j u, [x, y][j]? = some u → (w.alloc (.cells #[x, y] t)).cell? ⟨w.heap.size, 0 + j, none⟩ = some u := by
  intro j u hu
  rcases j with _ | _ | j
  · simp at hu; subst hu; simp [go_sem]
  · simp at hu; subst hu; simp [go_sem]
  · simp at hu

set_option maxHeartbeats 400000 in
theorem add_ok (a b : Int) (w : World) (ha0 : 0 ≤ a) (ha1 : a ≤ 1000000) (hb0 : 0 ≤ b) (hb1 : b ≤ 1000000) :
    Calls Try.prog 19 #[.int .i64 a, .int .i64 b] w fun e w' => e = .returned (.tuple #[.int .i64 (a + b), .int .i64 0]) ∧ Below w.heap.size w w' := by
  have HX := Lib.hid (resV_two (okI_yes (x := a + b) (by omega) (by omega)) (okI_yes ha0 (by omega)) (okI_yes hb0 (by omega)))
  go_enter Try.func19, Try.ntmps19
  go_wp2_with fail
  refine (result_run (a + b) [a, b] 2 _ w.heap.size rfl (by omega) (by omega) (by simp) (two_new _ _ _ _)).mono ?_
  rintro e w2 ⟨rfl, hb2⟩
  rw [HX.out]
  go_wp2
  go_ret2
  exact ⟨rfl, bstep (balloc (bref _) _) hb2⟩
set_option maxHeartbeats 400000 in
theorem sub_ok (a b : Int) (w : World) (ha0 : 0 ≤ a) (ha1 : a ≤ 10000000) (hb0 : 0 ≤ b) (hb1 : b ≤ a) :
    Calls Try.prog 20 #[.int .i64 a, .int .i64 b] w fun e w' => e = .returned (.tuple #[.int .i64 (a - b), .int .i64 0]) ∧ Below w.heap.size w w' := by
  have HX := Lib.hid (resV_two (okI_yes (x := a - b) (by omega) (by omega)) (okI_yes ha0 (by omega)) (okI_yes hb0 (by omega)))
  go_enter Try.func20, Try.ntmps20
  go_wp2_with fail
  refine (result_run (a - b) [a, b] 2 _ w.heap.size rfl (by omega) (by omega) (by simp) (two_new _ _ _ _)).mono ?_
  rintro e w2 ⟨rfl, hb2⟩
  rw [HX.out]
  go_wp2
  go_ret2
  exact ⟨rfl, bstep (balloc (bref _) _) hb2⟩

set_option maxHeartbeats 800000 in
theorem walkAmountPrices (a0 : Int) (a1 : Int) (a2 : Int) (a3 : Int) (a4 : Int) (w0 : (Lit.int .u16 a0).wf = true) (w1 : (Lit.int .u16 a1).wf = true) (w2 : (Lit.int .u16 a2).wf = true) (w3 : (Lit.int .u16 a3).wf = true) (w4 : (Lit.int .u8 a4).wf = true) (w : World) :
    Calls Try.prog 5 #[.int .u16 a0, .int .u16 a1, .int .u16 a2, .int .u16 a3, .int .u8 a4] w fun e w' => e = .returned (.bool true) ∧ Below w.heap.size w w' := by
  obtain ⟨x0, x1⟩ := bounds_u16 w0
  obtain ⟨y0, y1⟩ := bounds_u16 w1
  obtain ⟨z0, z1⟩ := bounds_u16 w2
  obtain ⟨u0, u1⟩ := bounds_u16 w3
  obtain ⟨k0, k1⟩ := bounds_u8 w4
  clear w0 w1 w2 w3 w4
  have A0 : 1 ≤ 1 + a0 := by omega
  have B0 : 1 ≤ 1 + a1 := by omega
  have C0 : 1 ≤ 1 + a2 := by omega
  have D0 : 1 ≤ 1 + a3 := by omega
  have F0 : 1 ≤ 1 + a4 % 10 := by omega
  have F1 : 1 + a4 % 10 ≤ 10 := by omega
  obtain ⟨r1, r2, r3, r4, hr⟩ := red_facts A0 B0
  have hR := Lib.hid (red_times (n := 1 + a0) (d := 1 + a1) (f := 1 + a4 % 10) A0 F0)
  have C1 : cmpI ((1 + a0) * redD (1 + a0) (1 + a1)) (redN (1 + a0) (1 + a1) * (1 + a1)) = 0 := by
    rw [hr, Int.mul_comm (1 + a0)]
    unfold cmpI
    simp
  have HC1 := Lib.hid C1
  have e1 : (redN (1 + a0) (1 + a1) * (1 + a1) == redD (1 + a0) (1 + a1) * (1 + a0)) = true := by rw [beq_iff_eq]; exact hr
  have e2 : (redN (1 + a0) (1 + a1) * (1 + a1) != redD (1 + a0) (1 + a1) * (1 + a0)) = false := by rw [bne_eq_false_iff_eq]; exact hr
  have q1 : 0 ≤ redN (1 + a0) (1 + a1) * (1 + a1) := Int.mul_nonneg (by omega) (by omega)
  have q2 : redN (1 + a0) (1 + a1) * (1 + a1) ≤ 65536 * 65536 := Int.mul_le_mul (by omega) (by omega) (by omega) (by omega)
  have q3 : 0 ≤ redD (1 + a0) (1 + a1) * (1 + a0) := Int.mul_nonneg (by omega) (by omega)
  have q4 : redD (1 + a0) (1 + a1) * (1 + a0) ≤ 65536 * 65536 := Int.mul_le_mul (by omega) (by omega) (by omega) (by omega)
  have q5 : 1 * 1 ≤ (1 + a0) * (1 + a4 % 10) := Int.mul_le_mul (by omega) (by omega) (by omega) (by omega)
  have q6 : (1 + a0) * (1 + a4 % 10) ≤ 65536 * 10 := Int.mul_le_mul (by omega) (by omega) (by omega) (by omega)
  have q7 : 1 * 1 ≤ (1 + a1) * (1 + a4 % 10) := Int.mul_le_mul (by omega) (by omega) (by omega) (by omega)
  have q8 : (1 + a1) * (1 + a4 % 10) ≤ 65536 * 10 := Int.mul_le_mul (by omega) (by omega) (by omega) (by omega)
  have q9 : 0 ≤ (1 + a0) * (1 + a3) := Int.mul_nonneg (by omega) (by omega)
  have q10 : (1 + a0) * (1 + a3) ≤ 65536 * 65536 := Int.mul_le_mul (by omega) (by omega) (by omega) (by omega)
  have q11 : 0 ≤ (1 + a2) * (1 + a1) := Int.mul_nonneg (by omega) (by omega)
  have q12 : (1 + a2) * (1 + a1) ≤ 65536 * 65536 := Int.mul_le_mul (by omega) (by omega) (by omega) (by omega)
  clear hr C1
  have three : (cmpI ((1 + a0) * (1 + a3)) ((1 + a2) * (1 + a1)) = -1 ∧ cmpI ((1 + a2) * (1 + a1)) ((1 + a0) * (1 + a3)) = 1 ∧ (1 + a0) * (1 + a3) < (1 + a2) * (1 + a1)) ∨
      (cmpI ((1 + a0) * (1 + a3)) ((1 + a2) * (1 + a1)) = 0 ∧ cmpI ((1 + a2) * (1 + a1)) ((1 + a0) * (1 + a3)) = 0 ∧ ¬ (1 + a0) * (1 + a3) < (1 + a2) * (1 + a1)) ∨
      (cmpI ((1 + a0) * (1 + a3)) ((1 + a2) * (1 + a1)) = 1 ∧ cmpI ((1 + a2) * (1 + a1)) ((1 + a0) * (1 + a3)) = -1 ∧ ¬ (1 + a0) * (1 + a3) < (1 + a2) * (1 + a1)) := by
    unfold cmpI
    generalize (1 + a0) * (1 + a3) = x
    generalize (1 + a2) * (1 + a1) = y
    by_cases h1 : x < y <;> by_cases h2 : y < x <;> simp [h1, h2] <;> omega
  rcases three with ⟨c1, c2, c3⟩ | ⟨c1, c2, c3⟩ | ⟨c1, c2, c3⟩
  all_goals
    have HC2 := Lib.hid c1
    have HC3 := Lib.hid c2
    clear c1 c2
    go_enter Try.func5, Try.ntmps5
    go_wp2_with fail
    refine (reduce_int _ _ _ (by omega) (by omega) (by omega) (by omega)).mono ?_
    rintro e v1 ⟨rfl, hb1⟩
    go_wp2_with fail
    refine (compare_ok _ _ _ _ _ (by omega) (by omega) (by omega) (by omega) (by omega) (by omega) (by omega) (by omega)).mono ?_
    rintro e v2 ⟨rfl, rfl⟩
    rw [HC1.out]
    go_wp2_with fail
    refine (compare_ok _ _ _ _ _ (by omega) (by omega) (by omega) (by omega) (by omega) (by omega) (by omega) (by omega)).mono ?_
    rintro e v2 ⟨rfl, rfl⟩
    rw [HC2.out]
    go_wp2_with fail
    refine (compare_ok _ _ _ _ _ (by omega) (by omega) (by omega) (by omega) (by omega) (by omega) (by omega) (by omega)).mono ?_
    rintro e v2 ⟨rfl, rfl⟩
    rw [HC3.out]
    go_wp2_with fail
    refine (reduce_int _ _ _ (by omega) (by omega) (by omega) (by omega)).mono ?_
    rintro e v3 ⟨rfl, hb3⟩
    rw [hR.out.1, hR.out.2]
    go_wp2_with fail
    refine (add_ok _ _ _ (by omega) (by omega) (by omega) (by omega)).mono ?_
    rintro e v4 ⟨rfl, hb4⟩
    go_wp2_with fail
    refine (sub_ok _ _ _ (by omega) (by omega) (by omega) (by omega)).mono ?_
    rintro e v5 ⟨rfl, hb5⟩
    go_wp2_with fail
    refine (compare_ok _ _ _ _ _ (by omega) (by omega) (by omega) (by omega) (by omega) (by omega) (by omega) (by omega)).mono ?_
    rintro e v2 ⟨rfl, rfl⟩
    rw [HC2.out]
    go_wp2_with fail
    refine (sane_ok _).mono ?_
    rintro e v6 ⟨rfl, hb6⟩
    go_wp2_with fail
    go_ret
    refine ⟨?_, bstep (bstep (bstep (bstep hb1 hb3) hb4) hb5) hb6⟩
    first
      | rfl
      | exact congrArg (fun b : Bool => Ending.returned (Value.bool (!b))) (decide_eq_false (show ¬ (1 + a0) * (1 + a3) < (1 + a2) * (1 + a1) by omega))
end Go.Proofs.Ytolodegbilagbaa
