/- The walk of AmountParts: paying in two parts never costs less than at once, and at most one unit more. -/
import Derived.Test.YtolodegbilagbaaAmtRed
namespace Go.Proofs.Ytolodegbilagbaa
set_option linter.unusedVariables false
open Go.RowKit

theorem upQ_le {a n d B : Int} (hd : 1 ≤ d) (h : a * n + (d - 1) < (B + 1) * d) : upQ a n d ≤ B := by
  have := (Int.ediv_lt_iff_lt_mul (show 0 < d by omega) (a := a * n + (d - 1)) (b := B + 1)).2 h
  unfold upQ; omega
theorem upQ_spec {a n d : Int} (hd : 1 ≤ d) : a * n ≤ upQ a n d * d ∧ upQ a n d * d ≤ a * n + (d - 1) := by
  unfold upQ
  have h1 := Int.mul_ediv_self_le (x := a * n + (d - 1)) (k := d) (by omega)
  have h2 := Int.lt_mul_ediv_self_add (x := a * n + (d - 1)) (k := d) (by omega)
  rw [Int.mul_comm d] at h1 h2
  generalize (a * n + (d - 1)) / d * d = q at *
  omega
theorem dnQ_spec {a n d : Int} (hd : 1 ≤ d) : dnQ a n d * d ≤ a * n ∧ a * n ≤ dnQ a n d * d + (d - 1) := by
  unfold dnQ
  have h1 := Int.mul_ediv_self_le (x := a * n + 0) (k := d) (by omega)
  have h2 := Int.lt_mul_ediv_self_add (x := a * n + 0) (k := d) (by omega)
  rw [Int.mul_comm d] at h1 h2
  generalize (a * n + 0) / d * d = q at *
  omega
theorem le_of_mul {p q d : Int} (hd : 1 ≤ d) (h : p * d < (q + 1) * d) : p ≤ q := by
  have := Int.lt_of_mul_lt_mul_right h (by omega)
  omega
/-- What the two parts cost. -/
theorem parts_math (x y n d : Int) (hd : 1 ≤ d) (hx : 0 ≤ x) (hy : 0 ≤ y) (hn : 1 ≤ n) :
    upQ (x + y) n d ≤ upQ x n d + upQ y n d ∧ upQ x n d + upQ y n d ≤ upQ (x + y) n d + 1 ∧ upQ x n d ≤ upQ (x + y) n d ∧ dnQ x n d ≤ dnQ (x + y) n d := by
  have a1 := upQ_spec (a := x) (n := n) hd
  have a2 := upQ_spec (a := y) (n := n) hd
  have a3 := upQ_spec (a := x + y) (n := n) hd
  have a4 := dnQ_spec (a := x) (n := n) hd
  have a5 := dnQ_spec (a := x + y) (n := n) hd
  have e : (x + y) * n = x * n + y * n := Int.add_mul _ _ _
  have hyn : 0 ≤ y * n := Int.mul_nonneg hy (by omega)
  rw [e] at a3 a5
  refine ⟨le_of_mul hd ?_, le_of_mul hd ?_, le_of_mul hd ?_, le_of_mul hd ?_⟩ <;> simp only [Int.add_mul, Int.one_mul] <;> omega
theorem up_small {x n d : Int} (hd : 1 ≤ d) (hx : 0 ≤ x) (hx1 : x ≤ 1000000) (hn : 1 ≤ n) (hn1 : n ≤ 1000) : upQ x n d ≤ 1000000000 := by
  refine upQ_le hd ?_
  have h1 : x * n ≤ 1000000 * 1000 := Int.mul_le_mul hx1 hn1 (by omega) (by omega)
  have h2 : (1000000000 : Int) * 1 ≤ 1000000000 * d := Int.mul_le_mul_of_nonneg_left hd (by omega)
  rw [Int.add_mul]
  omega
theorem dn_small {x n d : Int} (hd : 1 ≤ d) (hx : 0 ≤ x) (hx1 : x ≤ 1000000) (hn : 1 ≤ n) (hn1 : n ≤ 1000) : dnQ x n d ≤ 1000000000 := by
  have h1 : x * n ≤ 1000000 * 1000 := Int.mul_le_mul hx1 hn1 (by omega) (by omega)
  have h2 : (1000000000 : Int) * 1 ≤ 1000000000 * d := Int.mul_le_mul_of_nonneg_left hd (by omega)
  have := dnQ_spec (a := x) (n := n) hd
  refine le_of_mul hd ?_
  rw [Int.add_mul]
  omega

set_option maxHeartbeats 400000 in
theorem walkAmountParts (a0 : Int) (a1 : Int) (a2 : Int) (a3 : Int) (w0 : (Lit.int .u16 a0).wf = true) (w1 : (Lit.int .u16 a1).wf = true) (w2 : (Lit.int .u16 a2).wf = true) (w3 : (Lit.int .u16 a3).wf = true) (w : World) :
    Calls Try.prog 3 #[.int .u16 a0, .int .u16 a1, .int .u16 a2, .int .u16 a3] w fun e w' => e = .returned (.bool true) ∧ Below w.heap.size w w' := by
  obtain ⟨x0, x1⟩ := bounds_u16 w0
  obtain ⟨y0, y1⟩ := bounds_u16 w1
  obtain ⟨n0, n1⟩ := bounds_u16 w2
  obtain ⟨d0, d1⟩ := bounds_u16 w3
  clear w0 w1 w2 w3
  obtain ⟨p1, p2, p3, p4⟩ := parts_math a0 a1 (1 + a2 % 500) (1 + a3 % 500) (by omega) x0 y0 (by omega)
  have u1 := up_small (x := a0) (n := 1 + a2 % 500) (d := 1 + a3 % 500) (by omega) (by omega) (by omega) (by omega) (by omega)
  have u2 := up_small (x := a1) (n := 1 + a2 % 500) (d := 1 + a3 % 500) (by omega) (by omega) (by omega) (by omega) (by omega)
  have u3 := up_small (x := a0 + a1) (n := 1 + a2 % 500) (d := 1 + a3 % 500) (by omega) (by omega) (by omega) (by omega) (by omega)
  have u4 := dn_small (x := a0) (n := 1 + a2 % 500) (d := 1 + a3 % 500) (by omega) (by omega) (by omega) (by omega) (by omega)
  have u5 := dn_small (x := a0 + a1) (n := 1 + a2 % 500) (d := 1 + a3 % 500) (by omega) (by omega) (by omega) (by omega) (by omega)
  have v1 := upQ_nonneg (a := a0) (n := 1 + a2 % 500) (d := 1 + a3 % 500) (by omega) (by omega) (by omega)
  have v2 := upQ_nonneg (a := a1) (n := 1 + a2 % 500) (d := 1 + a3 % 500) (by omega) (by omega) (by omega)
  have v3 := upQ_nonneg (a := a0 + a1) (n := 1 + a2 % 500) (d := 1 + a3 % 500) (by omega) (by omega) (by omega)
  have v4 := dnQ_nonneg (a := a0) (n := 1 + a2 % 500) (d := 1 + a3 % 500) (by omega) (by omega) (by omega)
  have v5 := dnQ_nonneg (a := a0 + a1) (n := 1 + a2 % 500) (d := 1 + a3 % 500) (by omega) (by omega) (by omega)
  go_enter Try.func3, Try.ntmps3
  go_wp2_with fail
  refine (up_ok _ _ _ _ (by omega) (by omega) (by omega) (by omega) (by omega) (by omega) (by omega)).mono ?_
  rintro e z1 ⟨rfl, hb1⟩
  go_wp2_with fail
  refine (up_ok _ _ _ _ (by omega) (by omega) (by omega) (by omega) (by omega) (by omega) (by omega)).mono ?_
  rintro e z2 ⟨rfl, hb2⟩
  go_wp2_with fail
  refine (up_ok _ _ _ _ (by omega) (by omega) (by omega) (by omega) (by omega) (by omega) (by omega)).mono ?_
  rintro e z3 ⟨rfl, hb3⟩
  go_wp2_with fail
  refine (down_ok _ _ _ _ (by omega) (by omega) (by omega) (by omega) (by omega) (by omega) (by omega)).mono ?_
  rintro e z4 ⟨rfl, hb4⟩
  go_wp2_with fail
  refine (down_ok _ _ _ _ (by omega) (by omega) (by omega) (by omega) (by omega) (by omega) (by omega)).mono ?_
  rintro e z5 ⟨rfl, hb5⟩
  go_wp2_with fail
  refine (sane_ok _).mono ?_
  rintro e z6 ⟨rfl, hb6⟩
  go_wp2_with fail
  go_ret
  exact ⟨rfl, bstep (bstep (bstep (bstep (bstep hb1 hb2) hb3) hb4) hb5) hb6⟩
end Go.Proofs.Ytolodegbilagbaa
