/- amount.Less and the reference's at any codes; prices that are none; the source's odd numbers and assets. -/
import Derived.Test.YtnnajmoedihkjaaAssetAny
import Derived.Test.YtnnajmoedihkjaaR35c
namespace Go.Proofs.Ytnnajmoedihkjaa
set_option linter.unusedVariables false
set_option linter.unusedSimpArgs false
open Go.RowKit Go.PlainAid

def cmpSV (B C : ByteArray) : Int := if Op.bytesLess B.toList C.toList = true then -1 else if (B.toList == C.toList) = true then 0 else 1
def lessV (B : ByteArray) (i : Int) (C : ByteArray) (j : Int) : Bool := Op.bytesLess B.toList C.toList || ((B.toList == C.toList) && decide (i < j))
theorem lessV_or (B : ByteArray) (i : Int) (C : ByteArray) (j : Int) : decide (orI (cmpSV B C) (cmpI i j) < 0) = lessV B i C j := by
  unfold lessV cmpSV orI cmpI
  cases h1 : Op.bytesLess B.toList C.toList <;> cases h2 : (B.toList == C.toList)
  · simp
  · by_cases h3 : i < j
    · simp [h3]
    · by_cases h4 : j < i
      · simp [h3, h4]
      · simp [h3, h4]
  · simp
  · simp

set_option maxHeartbeats 1000000 in
theorem cmpStr_any (B C : ByteArray) (w : World) : Calls Try.prog 66 #[.string B, .string C] w fun e w' => e = .returned (.int .i64 (cmpSV B C)) ∧ w = w' := by
  cases h1 : Op.bytesLess B.toList C.toList
  · cases h2 : (B.toList == C.toList)
    · have HR := Lib.hid (show cmpSV B C = 1 by unfold cmpSV; rw [h1, h2]; rfl)
      have q2 : (!(B.toList == C.toList)) = true := by rw [h2]; rfl
      clear h2
      go_enter Try.func66, Try.ntmps66
      go_wp2
      all_goals (first | (exfalso; simp_all; done) | skip)
      all_goals
        go_ret
        exact ⟨by rw [HR.out]; rfl, rfl⟩
    · have HR := Lib.hid (show cmpSV B C = 0 by unfold cmpSV; rw [h1, h2]; rfl)
      have q2 : (!(B.toList == C.toList)) = false := by rw [h2]; rfl
      clear h2
      go_enter Try.func66, Try.ntmps66
      go_wp2
      all_goals (first | (exfalso; simp_all; done) | skip)
      all_goals
        go_ret
        exact ⟨by rw [HR.out]; rfl, rfl⟩
  · have HR := Lib.hid (show cmpSV B C = -1 by unfold cmpSV; rw [h1]; rfl)
    go_enter Try.func66, Try.ntmps66
    go_wp2
    all_goals
      go_ret
      exact ⟨by rw [HR.out]; rfl, rfl⟩

set_option maxHeartbeats 1000000 in
theorem less_any (B C : ByteArray) (i j : Int) (w : World) :
    Calls Try.prog 55 #[.agg #[.string B, .int .i64 i], .agg #[.string C, .int .i64 j]] w fun e w' => e = .returned (.bool (lessV B i C j)) ∧ Below w.heap.size w w' := by
  have HV := Lib.hid (lessV_or B i C j)
  have HC := Lib.hid (fun W => cmpStr_any B C W)
  generalize cmpSV B C = x at *
  generalize lessV B i C j = r at *
  go_enter Try.func55, Try.ntmps55
  go_wp2_with fail
  go_region_held3 (fun W => W.cell? ⟨w.heap.size, 0, none⟩ = some (.string B) ∧ W.cell? ⟨w.heap.size, 1, none⟩ = some (.int .i64 i) ∧ W.cell? ⟨w.heap.size + 1, 0, none⟩ = some (.string C) ∧ W.cell? ⟨w.heap.size + 1, 1, none⟩ = some (.int .i64 j)) (first | go_keep | exact keepA (by assumption) (balloc (bref _) _))
    (first
      | (go_at_call 66; refine (HC.out _).mono ?_; rintro e WK ⟨rfl, rfl⟩)
      | (go_at_call 61; refine (cmp_any _ _ _).mono ?_; rintro e WK ⟨rfl, rfl⟩)
      | (go_at_call 65; refine (or_run x (cmpI i j) _ _ ?_ ?_).mono ?_; (exact row_at _ _ _ 0 _ (by simp)); (exact row_at _ _ _ 1 _ (by simp)); rintro e WK ⟨rfl, rfl⟩))
  all_goals
    go_wp2_with fail
    go_ret
    exact ⟨by rw [← HV.out]; rfl, by first | exact balloc (bdrew (balloc (balloc (bref _) _) _)) _ | exact bdrew (balloc (balloc (balloc (bref _) _) _) _) | (repeat (first | exact bref _ | refine bdrew ?_ | refine bdrewN ?_ _ | refine balloc ?_ _))⟩

set_option maxHeartbeats 1000000 in
theorem rless_any (B C : ByteArray) (i j : Int) (w : World) :
    Calls Try.prog 56 #[.agg #[.string B, .int .i64 i], .agg #[.string C, .int .i64 j]] w fun e w' => e = .returned (.bool (lessV B i C j)) ∧ Below w.heap.size w w' := by
  go_enter Try.func56, Try.ntmps56
  go_wp2
  all_goals
    go_ret
    exact ⟨by unfold lessV; simp_all, balloc (balloc (bref _) _) _⟩

set_option maxHeartbeats 1000000 in
theorem reduce_bad (n d : Int) (w : World) (h : okP n d = false) :
    Calls Try.prog 41 #[.int .i64 n, .int .i64 d] w fun e w' => e = .returned (.tuple #[.int .i64 0, .int .i64 0]) ∧ Below w.heap.size w w' := by
  go_enter Try.func41, Try.ntmps41
  go_wp2_with (go_at_call 37; refine (price_any _ _ _).mono ?_; rintro e w2 ⟨rfl, rfl⟩)
  go_ret2
  exact ⟨rfl, bref _⟩
set_option maxHeartbeats 1000000 in
theorem rreduce_bad (n d : Int) (w : World) (h : okP n d = false) :
    Calls Try.prog 42 #[.int .i64 n, .int .i64 d] w fun e w' => e = .returned (.tuple #[.int .i64 0, .int .i64 0]) ∧ Below w.heap.size w w' := by
  go_enter Try.func42, Try.ntmps42
  go_wp2_with (go_at_call 38; refine (rprice_any _ _ _).mono ?_; rintro e w2 ⟨rfl, rfl⟩)
  go_ret2
  exact ⟨rfl, bref _⟩
/-- A price in lowest terms, or zeros. -/
def redA (n d : Int) : Int := if okP n d = true then ((n.toNat / Nat.gcd n.toNat d.toNat : Nat) : Int) else 0
def redB (n d : Int) : Int := if okP n d = true then ((d.toNat / Nat.gcd n.toNat d.toNat : Nat) : Int) else 0
theorem reduce_any (n d : Int) (w : World) : Calls Try.prog 41 #[.int .i64 n, .int .i64 d] w fun e w' => e = .returned (.tuple #[.int .i64 (redA n d), .int .i64 (redB n d)]) ∧ Below w.heap.size w w' := by
  unfold redA redB
  cases h : okP n d
  · exact reduce_bad n d w h
  · obtain ⟨h0, h1, h2, h3⟩ := okP_of h
    have := reduce_ok n.toNat d.toNat w (by omega) (by omega) (by omega) (by omega)
    rw [Int.toNat_of_nonneg (by omega), Int.toNat_of_nonneg (by omega)] at this
    exact this
theorem rreduce_any (n d : Int) (w : World) : Calls Try.prog 42 #[.int .i64 n, .int .i64 d] w fun e w' => e = .returned (.tuple #[.int .i64 (redA n d), .int .i64 (redB n d)]) ∧ Below w.heap.size w w' := by
  unfold redA redB
  cases h : okP n d
  · exact rreduce_bad n d w h
  · obtain ⟨h0, h1, h2, h3⟩ := okP_of h
    have := rreduce_ok n.toNat d.toNat w (by omega) (by omega) (by omega) (by omega)
    rw [Int.toNat_of_nonneg (by omega), Int.toNat_of_nonneg (by omega)] at this
    exact this

theorem up_all (a n d : Int) (w : World) : Calls Try.prog 47 #[.int .i64 a, .int .i64 n, .int .i64 d] w fun e w' => e = .returned (timesV a n d (d - 1)) ∧ Below w.heap.size w w' := by
  cases h : okP n d
  · have hv : ∀ m, timesV a n d m = .tuple #[.int .i64 0, .int .i64 65] := fun m => by
      unfold timesV
      rw [h, Bool.and_false]
      rfl
    have HT := Lib.hid (fun m W => times_run a n d m W (fun h2 => by rw [h] at h2; cases h2))
    have HV := Lib.hid (hv (d - 1))
    go_enter Try.func47, Try.ntmps47
    go_wp2_with fail
    refine (HT.out _ _).mono ?_
    rintro e w2 ⟨rfl, hb2⟩
    rw [hv]
    go_wp2
    go_ret2
    exact ⟨by rw [HV.out]; rfl, hb2⟩
  · obtain ⟨h0, h1, h2, h3⟩ := okP_of h
    exact up_run a n d w (by omega) (by omega)

def oddOf (j : Nat) : Int := ([-1, 0, 1, 2, 9223372036854775807, -9223372036854775808, 1000000000000, 1000000000001, 1000000, 1000001, 1000000, 1000, 1001, 1000, 1001] : List Int).getD j 0
set_option maxHeartbeats 1000000 in
theorem Odd_run (w : World) (sb : Nat) (hs : SrcOk w sb) :
    Calls Try.prog 11 #[.pointer (some ⟨sb, 0, none⟩)] w fun e w' => ∃ o : Int, e = .returned (.int .i64 o) ∧ SrcOk w' sb ∧ w.grownBy w' (some sb) := by
  have HS := Lib.hid hs
  have hl := hs.lt
  clear hs
  go_enter Try.func11, Try.ntmps11
  go_wp2_with fail
  refine (Pick_run _ sb w.heap.size [-1, 0, 1, 2, 9223372036854775807, -9223372036854775808, 1000000000000, 1000000000001, 1000000, 1000001, 1000000, 1000, 1001, 1000, 1001] 15 rfl (by omega) (by omega) ?_ (by omega) (HS.out.alloc _)).mono ?_
  · intro j hj
    rw [row_at _ _ _ _ _ rfl]
    match j, hj with
    | 0, _ | 1, _ | 2, _ | 3, _ | 4, _ | 5, _ | 6, _ | 7, _ | 8, _ | 9, _ | 10, _ | 11, _ | 12, _ | 13, _ | 14, _ => rfl
  · rintro e w1 ⟨j, hj, rfl, hs1, hg1⟩
    have HS1 := Lib.hid hs1
    have HG1 := Lib.hid (grown_trans (grown_below (balloc (bref w) _)) hg1)
    generalize ([-1, 0, 1, 2, 9223372036854775807, -9223372036854775808, 1000000000000, 1000000000001, 1000000, 1000001, 1000000, 1000, 1001, 1000, 1001] : List Int).getD j 0 = o at *
    clear hs1 hg1
    go_wp2_with fail
    go_ret
    exact ⟨o, rfl, HS1.out, HG1.out⟩

set_option maxHeartbeats 2000000 in
theorem OddAsset_run (w : World) (sb : Nat) (hs : SrcOk w sb) :
    Calls Try.prog 50 #[.pointer (some ⟨sb, 0, none⟩)] w fun e w' => ∃ (B : ByteArray) (i : Int), B.size ≤ 60 ∧ e = .returned (.agg #[.string B, .int .i64 i]) ∧ SrcOk w' sb ∧ w.grownBy w' (some sb) := by
  have HS := Lib.hid hs
  have hl := hs.lt
  clear hs
  have HB2 := Lib.hid (balloc (bref w) (.cells #[.string ⟨#[]⟩, .int .i64 0] 43))
  go_enter Try.func50, Try.ntmps50
  go_wp2_with fail
  refine (N_run _ sb _ (by omega) (by omega) ((HS.out.alloc _).alloc _)).mono ?_
  rintro e w3 ⟨r, hr0, hr1, rfl, hs3, hg3⟩
  have hrow : w3.heap[w.heap.size + 1]? = some (.cells #[.string ⟨#[117, 115, 100]⟩, .int .i64 1, .string ⟨#[76, 79, 78, 71, 69, 82]⟩, .int .i64 1, .string ⟨#[85, 83, 68]⟩, .int .i64 0, .string ⟨#[]⟩, .int .i64 3, .string ⟨#[85, 83, 68]⟩, .int .i64 1001, .string ⟨#[88, 65, 85]⟩, .int .i64 9] 43 (0, 0)) := by
    rw [hg3.block (w.heap.size + 1) (by simp) (by simp; omega)]
    have := heap_alloc_new (w.alloc (.cells #[.string ⟨#[]⟩, .int .i64 0] 43)) (.cells #[.string ⟨#[117, 115, 100]⟩, .int .i64 1, .string ⟨#[76, 79, 78, 71, 69, 82]⟩, .int .i64 1, .string ⟨#[85, 83, 68]⟩, .int .i64 0, .string ⟨#[]⟩, .int .i64 3, .string ⟨#[85, 83, 68]⟩, .int .i64 1001, .string ⟨#[88, 65, 85]⟩, .int .i64 9] 43)
    simpa using this
  have hres : w3.heap[w.heap.size]? = some (.cells #[.string ⟨#[]⟩, .int .i64 0] 43 (0, 0)) := by
    rw [hg3.block w.heap.size (by simp; omega) (by simp; omega), Below.heap_alloc _ _ _ (by simp)]
    exact heap_alloc_new _ _
  have q0 : w3.cell? ⟨w.heap.size, 0, none⟩ = some (.string ⟨#[]⟩) := cell_of_row _ _ 0 _ _ (0, 0) hres
  have q1 : w3.cell? ⟨w.heap.size, 1, none⟩ = some (.int .i64 0) := cell_of_row _ _ 1 _ _ (0, 0) hres
  have f0 : w3.frozen? ⟨w.heap.size, 0, none⟩ = false := by simp [World.frozen?, hres]
  have f1 : w3.frozen? ⟨w.heap.size, 1, none⟩ = false := by simp [World.frozen?, hres]
  have c0 : w3.cell? ⟨w.heap.size + 1, 0, none⟩ = some (.string ⟨#[117, 115, 100]⟩) := cell_of_row _ _ 0 _ _ (0, 0) hrow
  have c1 : w3.cell? ⟨w.heap.size + 1, 1, none⟩ = some (.int .i64 1) := cell_of_row _ _ 1 _ _ (0, 0) hrow
  have c2 : w3.cell? ⟨w.heap.size + 1, 2, none⟩ = some (.string ⟨#[76, 79, 78, 71, 69, 82]⟩) := cell_of_row _ _ 2 _ _ (0, 0) hrow
  have c3 : w3.cell? ⟨w.heap.size + 1, 3, none⟩ = some (.int .i64 1) := cell_of_row _ _ 3 _ _ (0, 0) hrow
  have c4 : w3.cell? ⟨w.heap.size + 1, 4, none⟩ = some (.string ⟨#[85, 83, 68]⟩) := cell_of_row _ _ 4 _ _ (0, 0) hrow
  have c5 : w3.cell? ⟨w.heap.size + 1, 5, none⟩ = some (.int .i64 0) := cell_of_row _ _ 5 _ _ (0, 0) hrow
  have c6 : w3.cell? ⟨w.heap.size + 1, 6, none⟩ = some (.string ⟨#[]⟩) := cell_of_row _ _ 6 _ _ (0, 0) hrow
  have c7 : w3.cell? ⟨w.heap.size + 1, 7, none⟩ = some (.int .i64 3) := cell_of_row _ _ 7 _ _ (0, 0) hrow
  have c8 : w3.cell? ⟨w.heap.size + 1, 8, none⟩ = some (.string ⟨#[85, 83, 68]⟩) := cell_of_row _ _ 8 _ _ (0, 0) hrow
  have c9 : w3.cell? ⟨w.heap.size + 1, 9, none⟩ = some (.int .i64 1001) := cell_of_row _ _ 9 _ _ (0, 0) hrow
  have c10 : w3.cell? ⟨w.heap.size + 1, 10, none⟩ = some (.string ⟨#[88, 65, 85]⟩) := cell_of_row _ _ 10 _ _ (0, 0) hrow
  have c11 : w3.cell? ⟨w.heap.size + 1, 11, none⟩ = some (.int .i64 9) := cell_of_row _ _ 11 _ _ (0, 0) hrow
  have HG := Lib.hid (grown_trans (grown_below (balloc HB2.out (.cells #[.string ⟨#[117, 115, 100]⟩, .int .i64 1, .string ⟨#[76, 79, 78, 71, 69, 82]⟩, .int .i64 1, .string ⟨#[85, 83, 68]⟩, .int .i64 0, .string ⟨#[]⟩, .int .i64 3, .string ⟨#[85, 83, 68]⟩, .int .i64 1001, .string ⟨#[88, 65, 85]⟩, .int .i64 9] 43))) hg3)
  have HS3 := Lib.hid hs3
  have HR := Lib.hid hres
  clear hg3 hs3 hrow hres
  obtain ⟨q, rfl⟩ := Int.eq_ofNat_of_zero_le hr0
  have hq : q < 6 := by omega
  match q, hq with
  | 0, _ =>
    go_wp2_with fail
    refine bodyPost_ret (v := .agg #[.string ⟨#[117, 115, 100]⟩, .int .i64 1]) ?_ rfl ⟨_, _, by decide, rfl, (HS3.out.setCell (by omega) _).setCell (by omega) _, grown_set (grown_set HG.out (Nat.le_refl _) _) (Nat.le_refl _) _⟩
    simp [results, Try.results50, go_sem, HR.out, q0, q1]
  | 1, _ =>
    go_wp2_with fail
    refine bodyPost_ret (v := .agg #[.string ⟨#[76, 79, 78, 71, 69, 82]⟩, .int .i64 1]) ?_ rfl ⟨_, _, by decide, rfl, (HS3.out.setCell (by omega) _).setCell (by omega) _, grown_set (grown_set HG.out (Nat.le_refl _) _) (Nat.le_refl _) _⟩
    simp [results, Try.results50, go_sem, HR.out, q0, q1]
  | 2, _ =>
    go_wp2_with fail
    refine bodyPost_ret (v := .agg #[.string ⟨#[85, 83, 68]⟩, .int .i64 0]) ?_ rfl ⟨_, _, by decide, rfl, (HS3.out.setCell (by omega) _).setCell (by omega) _, grown_set (grown_set HG.out (Nat.le_refl _) _) (Nat.le_refl _) _⟩
    simp [results, Try.results50, go_sem, HR.out, q0, q1]
  | 3, _ =>
    go_wp2_with fail
    refine bodyPost_ret (v := .agg #[.string ⟨#[]⟩, .int .i64 3]) ?_ rfl ⟨_, _, by decide, rfl, (HS3.out.setCell (by omega) _).setCell (by omega) _, grown_set (grown_set HG.out (Nat.le_refl _) _) (Nat.le_refl _) _⟩
    simp [results, Try.results50, go_sem, HR.out, q0, q1]
  | 4, _ =>
    go_wp2_with fail
    refine bodyPost_ret (v := .agg #[.string ⟨#[85, 83, 68]⟩, .int .i64 1001]) ?_ rfl ⟨_, _, by decide, rfl, (HS3.out.setCell (by omega) _).setCell (by omega) _, grown_set (grown_set HG.out (Nat.le_refl _) _) (Nat.le_refl _) _⟩
    simp [results, Try.results50, go_sem, HR.out, q0, q1]
  | 5, _ =>
    go_wp2_with fail
    refine bodyPost_ret (v := .agg #[.string ⟨#[88, 65, 85]⟩, .int .i64 9]) ?_ rfl ⟨_, _, by decide, rfl, (HS3.out.setCell (by omega) _).setCell (by omega) _, grown_set (grown_set HG.out (Nat.le_refl _) _) (Nat.le_refl _) _⟩
    simp [results, Try.results50, go_sem, HR.out, q0, q1]
end Go.Proofs.Ytnnajmoedihkjaa
