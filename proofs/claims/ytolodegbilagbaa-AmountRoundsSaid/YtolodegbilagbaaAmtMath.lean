/- Plain facts on rounded quotients. -/
import Derived.Test.YtolodegbilagbaaAmtRed
namespace Go.Proofs.Ytolodegbilagbaa
set_option linter.unusedVariables false
open Go.RowKit

theorem upQ_le {a n d B : Int} (hd : 1 ≤ d) (h : a * n + (d - 1) < (B + 1) * d) : upQ a n d ≤ B := by
  have := (Int.ediv_lt_iff_lt_mul (show 0 < d by omega) (a := a * n + (d - 1)) (b := B + 1)).2 h
  unfold upQ; omega
theorem upQ_spec {a n d : Int} (hd : 1 ≤ d) : a * n ≤ upQ a n d * d ∧ upQ a n d * d ≤ a * n + (d - 1) := by
  unfold upQ
  have h1 := Int.mul_ediv_self_le (x := a * n + (d - 1)) (k := d) (by omega)
  have h2 := Int.lt_mul_ediv_self_add (x := a * n + (d - 1)) (k := d) (by omega)
  rw [Int.mul_comm d] at h1 h2
  generalize (a * n + (d - 1)) / d * d = q at *
  omega
theorem dnQ_spec {a n d : Int} (hd : 1 ≤ d) : dnQ a n d * d ≤ a * n ∧ a * n ≤ dnQ a n d * d + (d - 1) := by
  unfold dnQ
  have h1 := Int.mul_ediv_self_le (x := a * n + 0) (k := d) (by omega)
  have h2 := Int.lt_mul_ediv_self_add (x := a * n + 0) (k := d) (by omega)
  rw [Int.mul_comm d] at h1 h2
  generalize (a * n + 0) / d * d = q at *
  omega
theorem le_of_mul {p q d : Int} (hd : 1 ≤ d) (h : p * d < (q + 1) * d) : p ≤ q := by
  have := Int.lt_of_mul_lt_mul_right h (by omega)
  omega
theorem up_small {x n d : Int} (hd : 1 ≤ d) (hx : 0 ≤ x) (hx1 : x ≤ 1000000) (hn : 1 ≤ n) (hn1 : n ≤ 1000) : upQ x n d ≤ 1000000000 := by
  refine upQ_le hd ?_
  have h1 : x * n ≤ 1000000 * 1000 := Int.mul_le_mul hx1 hn1 (by omega) (by omega)
  have h2 : (1000000000 : Int) * 1 ≤ 1000000000 * d := Int.mul_le_mul_of_nonneg_left hd (by omega)
  rw [Int.add_mul]
  omega
theorem dn_small {x n d : Int} (hd : 1 ≤ d) (hx : 0 ≤ x) (hx1 : x ≤ 1000000) (hn : 1 ≤ n) (hn1 : n ≤ 1000) : dnQ x n d ≤ 1000000000 := by
  have h1 : x * n ≤ 1000000 * 1000 := Int.mul_le_mul hx1 hn1 (by omega) (by omega)
  have h2 : (1000000000 : Int) * 1 ≤ 1000000000 * d := Int.mul_le_mul_of_nonneg_left hd (by omega)
  have := dnQ_spec (a := x) (n := n) hd
  refine le_of_mul hd ?_
  rw [Int.add_mul]
  omega


end Go.Proofs.Ytolodegbilagbaa
