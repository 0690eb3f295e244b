/- Contracts of the reference for amounts: products and comparisons, at any numbers. -/
import Derived.Test.YtnnajmoedihkjaaR35b
namespace Go.Proofs.Ytnnajmoedihkjaa
set_option linter.unusedVariables false
set_option linter.unusedSimpArgs false
open Go.RowKit

def cmpV (a b c d : Int) : Int := if okP a b && okP c d then cmpI (a * d) (c * b) else 0

theorem prod_bd {a d : Int} (ha0 : 1 ≤ a) (ha1 : a ≤ 1000000) (hd0 : 1 ≤ d) (hd1 : d ≤ 1000000) : 0 ≤ a * d ∧ a * d ≤ 1000000000000 :=
  ⟨Int.mul_nonneg (by omega) (by omega), by have : a * d ≤ 1000000 * 1000000 := Int.mul_le_mul ha1 hd1 (by omega) (by omega); omega⟩

set_option maxHeartbeats 1000000 in
theorem compare_any (a b c d : Int) (w : World) :
    Calls Try.prog 43 #[.int .i64 a, .int .i64 b, .int .i64 c, .int .i64 d] w fun e w' => e = .returned (.int .i64 (cmpV a b c d)) ∧ w = w' := by
  cases h1 : okP a b
  · have HV := Lib.hid (show cmpV a b c d = 0 by unfold cmpV; rw [h1]; rfl)
    go_enter Try.func43, Try.ntmps43
    go_wp2_with (go_at_call 37; refine (price_any _ _ _).mono ?_; rintro e w2 ⟨rfl, rfl⟩)
    go_ret
    exact ⟨by rw [HV.out]; rfl, rfl⟩
  · cases h2 : okP c d
    · have HV := Lib.hid (show cmpV a b c d = 0 by unfold cmpV; rw [h1, h2]; rfl)
      go_enter Try.func43, Try.ntmps43
      go_wp2_with (go_at_call 37; refine (price_any _ _ _).mono ?_; rintro e w2 ⟨rfl, rfl⟩)
      go_ret
      exact ⟨by rw [HV.out]; rfl, rfl⟩
    · obtain ⟨a0, a1, b0, b1⟩ := okP_of h1
      obtain ⟨c0, c1, d0, d1⟩ := okP_of h2
      refine (compare_ok a b c d w a0 a1 b0 b1 c0 c1 d0 d1).mono fun e w' ⟨he, hw⟩ => ⟨?_, hw⟩
      rw [he]; unfold cmpV; rw [h1, h2]; rfl

set_option maxHeartbeats 1000000 in
theorem rcompare_any (a b c d : Int) (w : World) :
    Calls Try.prog 44 #[.int .i64 a, .int .i64 b, .int .i64 c, .int .i64 d] w fun e w' => e = .returned (.int .i64 (cmpV a b c d)) ∧ w = w' := by
  cases h1 : okP a b
  · have HV := Lib.hid (show cmpV a b c d = 0 by unfold cmpV; rw [h1]; rfl)
    go_enter Try.func44, Try.ntmps44
    go_wp2_with (go_at_call 38; refine (rprice_any _ _ _).mono ?_; rintro e w2 ⟨rfl, rfl⟩)
    go_ret
    exact ⟨by rw [HV.out]; rfl, rfl⟩
  · cases h2 : okP c d
    · have HV := Lib.hid (show cmpV a b c d = 0 by unfold cmpV; rw [h1, h2]; rfl)
      go_enter Try.func44, Try.ntmps44
      go_wp2_with (go_at_call 38; refine (rprice_any _ _ _).mono ?_; rintro e w2 ⟨rfl, rfl⟩)
      go_ret
      exact ⟨by rw [HV.out]; rfl, rfl⟩
    · obtain ⟨a0, a1, b0, b1⟩ := okP_of h1
      obtain ⟨c0, c1, d0, d1⟩ := okP_of h2
      obtain ⟨p0, p1⟩ := prod_bd a0 a1 d0 d1
      obtain ⟨q0, q1⟩ := prod_bd c0 c1 b0 b1
      have HV0 := Lib.hid (show cmpV a b c d = cmpI (a * d) (c * b) by unfold cmpV; rw [h1, h2]; rfl)
      rcases Int.lt_trichotomy (a * d) (c * b) with h | h | h
      · have HV := Lib.hid (HV0.out.trans (show cmpI (a * d) (c * b) = -1 by unfold cmpI; rw [if_pos h]))
        go_enter Try.func44, Try.ntmps44
        go_wp2_with (go_at_call 38; refine (rprice_any _ _ _).mono ?_; rintro e w2 ⟨rfl, rfl⟩)
        go_ret
        exact ⟨by rw [HV.out]; rfl, rfl⟩
      · have HV := Lib.hid (HV0.out.trans (show cmpI (a * d) (c * b) = 0 by unfold cmpI; rw [if_neg (by omega), if_neg (by omega)]))
        have hn1 : ¬ a * d < c * b := by omega
        have hn2 : ¬ c * b < a * d := by omega
        clear h
        go_enter Try.func44, Try.ntmps44
        go_wp2_with (go_at_call 38; refine (rprice_any _ _ _).mono ?_; rintro e w2 ⟨rfl, rfl⟩)
        go_ret
        exact ⟨by rw [HV.out]; rfl, rfl⟩
      · have HV := Lib.hid (HV0.out.trans (show cmpI (a * d) (c * b) = 1 by unfold cmpI; rw [if_neg (by omega), if_pos h]))
        have hn1 : ¬ a * d < c * b := by omega
        go_enter Try.func44, Try.ntmps44
        go_wp2_with (go_at_call 38; refine (rprice_any _ _ _).mono ?_; rintro e w2 ⟨rfl, rfl⟩)
        go_ret
        exact ⟨by rw [HV.out]; rfl, rfl⟩

theorem timesV_all {a n d m : Int} (h1 : okI a = true) (h2 : okP n d = true) : timesV a n d m = if okI ((a * n + m) / d) then .tuple #[.int .i64 ((a * n + m) / d), .int .i64 0] else .tuple #[.int .i64 0, .int .i64 65] := by
  unfold timesV resV
  rw [h1, h2]
  simp [h1]

set_option maxHeartbeats 1000000 in
theorem rup_any (a n d : Int) (w : World) :
    Calls Try.prog 48 #[.int .i64 a, .int .i64 n, .int .i64 d] w fun e w' => e = .returned (timesV a n d (d - 1)) ∧ Below w.heap.size w w' := by
  cases h1 : okI a
  · have HV := Lib.hid (show timesV a n d (d - 1) = .tuple #[.int .i64 0, .int .i64 65] by unfold timesV; simp [h1])
    go_enter Try.func48, Try.ntmps48
    go_wp2_with (go_at_call 36; refine (rvalid_any _ _).mono ?_; rintro e w2 ⟨rfl, rfl⟩)
    go_ret2
    exact ⟨by rw [HV.out]; rfl, Below.refl _ _⟩
  · cases h2 : okP n d
    · have HV := Lib.hid (show timesV a n d (d - 1) = .tuple #[.int .i64 0, .int .i64 65] by unfold timesV; simp [h2])
      go_enter Try.func48, Try.ntmps48
      go_wp2_with (first | (go_at_call 36; refine (rvalid_any _ _).mono ?_; rintro e w2 ⟨rfl, rfl⟩) | (go_at_call 38; refine (rprice_any _ _ _).mono ?_; rintro e w2 ⟨rfl, rfl⟩))
      go_ret2
      exact ⟨by rw [HV.out]; rfl, Below.refl _ _⟩
    · have HV := Lib.hid (timesV_all (m := d - 1) h1 h2)
      obtain ⟨a0, a1⟩ := okI_of h1
      obtain ⟨n0, n1, d0, d1⟩ := okP_of h2
      have p0 : 0 ≤ a * n := Int.mul_nonneg a0 (by omega)
      have p1 : a * n ≤ 1000000000000000000 := by
        have := Int.mul_le_mul a1 n1 (by omega) (by omega)
        omega
      have hs : a * n + d - 1 = a * n + (d - 1) := by omega
      have HE := Lib.hid (show (a * n + d - 1) / d = (a * n + (d - 1)) / d by rw [hs])
      clear hs
      cases h3 : okI ((a * n + d - 1) / d)
      all_goals
        rw [← HE.out, h3] at HV
        go_enter Try.func48, Try.ntmps48
        go_wp2_with (first | (go_at_call 36; refine (rvalid_any _ _).mono ?_; rintro e w2 ⟨rfl, rfl⟩) | (go_at_call 38; refine (rprice_any _ _ _).mono ?_; rintro e w2 ⟨rfl, rfl⟩) | go_quiet (fail))
        go_ret2
        exact ⟨by rw [HV.out]; rfl, by repeat (first | exact bref _ | refine bdrew ?_ | refine bdrewN ?_ _)⟩

set_option maxHeartbeats 1000000 in
theorem rdown_any (a n d : Int) (w : World) :
    Calls Try.prog 46 #[.int .i64 a, .int .i64 n, .int .i64 d] w fun e w' => e = .returned (timesV a n d 0) ∧ Below w.heap.size w w' := by
  cases h1 : okI a
  · have HV := Lib.hid (show timesV a n d 0 = .tuple #[.int .i64 0, .int .i64 65] by unfold timesV; simp [h1])
    go_enter Try.func46, Try.ntmps46
    go_wp2_with (go_at_call 36; refine (rvalid_any _ _).mono ?_; rintro e w2 ⟨rfl, rfl⟩)
    go_ret2
    exact ⟨by rw [HV.out]; rfl, Below.refl _ _⟩
  · cases h2 : okP n d
    · have HV := Lib.hid (show timesV a n d 0 = .tuple #[.int .i64 0, .int .i64 65] by unfold timesV; simp [h2])
      go_enter Try.func46, Try.ntmps46
      go_wp2_with (first | (go_at_call 36; refine (rvalid_any _ _).mono ?_; rintro e w2 ⟨rfl, rfl⟩) | (go_at_call 38; refine (rprice_any _ _ _).mono ?_; rintro e w2 ⟨rfl, rfl⟩))
      go_ret2
      exact ⟨by rw [HV.out]; rfl, Below.refl _ _⟩
    · have HV := Lib.hid (timesV_all (m := 0) h1 h2)
      obtain ⟨a0, a1⟩ := okI_of h1
      obtain ⟨n0, n1, d0, d1⟩ := okP_of h2
      have p0 : 0 ≤ a * n := Int.mul_nonneg a0 (by omega)
      have p1 : a * n ≤ 1000000000000000000 := by
        have := Int.mul_le_mul a1 n1 (by omega) (by omega)
        omega
      have HE := Lib.hid (show a * n / d = (a * n + 0) / d by rw [Int.add_zero])
      cases h3 : okI (a * n / d)
      all_goals
        rw [← HE.out, h3] at HV
        go_enter Try.func46, Try.ntmps46
        go_wp2_with (first | (go_at_call 36; refine (rvalid_any _ _).mono ?_; rintro e w2 ⟨rfl, rfl⟩) | (go_at_call 38; refine (rprice_any _ _ _).mono ?_; rintro e w2 ⟨rfl, rfl⟩) | go_quiet (fail))
        go_ret2
        exact ⟨by rw [HV.out]; rfl, by repeat (first | exact bref _ | refine bdrew ?_ | refine bdrewN ?_ _)⟩

end Go.Proofs.Ytnnajmoedihkjaa
