/- The contracts of package ballots over the source's ballots. -/
import Derived.Test.YtnnajmoedihkjaaBal
namespace Go.Proofs.Ytnnajmoedihkjaa
set_option linter.unusedVariables false
set_option linter.unusedSimpArgs false
open Go.RowKit

def listOf (i : Nat) : List UInt8 := match i with | 1 => [97] | 2 => [98] | 3 => [99] | 4 => [97, 97] | _ => []

theorem valOf_toList {i : Nat} (h : i ≤ 4) : (valOf i).toList = listOf i := by
  match i, h with
  | 0, _ | 1, _ | 2, _ | 3, _ | 4, _ => simp [valOf, listOf, ByteArray.toList, ByteArray.toList.loop, ByteArray.size, ByteArray.get!]

theorem valOf_empty : (valOf 0).toList = [] := valOf_toList (by omega)

theorem valOf_full {i : Nat} (h0 : 1 ≤ i) (h : i ≤ 4) : ¬ (valOf i).toList = [] := by
  rw [valOf_toList h]
  match i, h0, h with
  | 1, _, _ | 2, _, _ | 3, _, _ | 4, _, _ => decide

theorem valOf_eqL {i j : Nat} (hi : i ≤ 4) (hj : j ≤ 4) : ((valOf i).toList == (valOf j).toList) = decide (i = j) := by
  rw [valOf_toList hi, valOf_toList hj]
  match i, j, hi, hj with
  | 0, 0, _, _ | 0, 1, _, _ | 0, 2, _, _ | 0, 3, _, _ | 0, 4, _, _ | 1, 0, _, _ | 1, 1, _, _ | 1, 2, _, _ | 1, 3, _, _ | 1, 4, _, _
  | 2, 0, _, _ | 2, 1, _, _ | 2, 2, _, _ | 2, 3, _, _ | 2, 4, _, _ | 3, 0, _, _ | 3, 1, _, _ | 3, 2, _, _ | 3, 3, _, _ | 3, 4, _, _
  | 4, 0, _, _ | 4, 1, _, _ | 4, 2, _, _ | 4, 3, _, _ | 4, 4, _, _ => decide

set_option maxHeartbeats 400000 in
theorem zero_run (c : Int) (i : Nat) (w : World) (hi : i ≤ 4) :
    Calls Try.prog 12 #[.agg #[.int .i64 c, .string (valOf i)]] w fun e w' => e = .returned (.bool (zeroB c i)) ∧ Below w.heap.size w w' := by
  by_cases hc : c = 0
  · subst hc
    by_cases h0 : i = 0
    · subst h0
      have h1 := valOf_empty
      go_enter Try.func12, Try.ntmps12
      go_wp2
      go_ret
      exact ⟨rfl, balloc (bref _) _⟩
    · have h1 := valOf_full (i := i) (by omega) hi
      have HZ := Lib.hid (show zeroB 0 i = false by unfold zeroB; simp [h0])
      go_enter Try.func12, Try.ntmps12
      go_wp2
      go_ret
      exact ⟨by rw [HZ.out]; rfl, balloc (bref _) _⟩
  · have hd : (c == 0) = false := by simp [hc]
    have HZ := Lib.hid (show zeroB c i = false by unfold zeroB; simp [hc])
    go_enter Try.func12, Try.ntmps12
    go_wp2
    go_ret
    exact ⟨by rw [HZ.out]; rfl, balloc (bref _) _⟩

set_option maxHeartbeats 400000 in
theorem less_run (c d : Int) (i j : Nat) (w : World) (hi : i ≤ 4) (hj : j ≤ 4) :
    Calls Try.prog 16 #[.agg #[.int .i64 c, .string (valOf i)], .agg #[.int .i64 d, .string (valOf j)]] w fun e w' => e = .returned (.bool (lessB c i d j)) ∧ Below w.heap.size w w' := by
  by_cases hc : c = d
  · subst hc
    have HL := Lib.hid (show lessB c i c j = decide (i < j) by unfold lessB; simp)
    go_enter Try.func16, Try.ntmps16
    go_wp2_with (go_at_call 18; refine (lessValue_run _ _ _ hi hj).mono ?_; rintro e w2 ⟨rfl, rfl⟩)
    go_ret
    exact ⟨by rw [HL.out]; rfl, balloc (balloc (bref _) _) _⟩
  · have hd : (c != d) = true := by simp [hc]
    have HL := Lib.hid (show lessB c i d j = decide (c < d) by unfold lessB; simp [hc])
    go_enter Try.func16, Try.ntmps16
    go_wp2
    go_ret
    exact ⟨by rw [HL.out]; rfl, balloc (balloc (bref _) _) _⟩

set_option maxHeartbeats 400000 in
theorem compat_run (c d : Int) (i j : Nat) (w : World) (hi : i ≤ 4) (hj : j ≤ 4) :
    Calls Try.prog 20 #[.agg #[.int .i64 c, .string (valOf i)], .agg #[.int .i64 d, .string (valOf j)]] w fun e w' => e = .returned (.bool (decide (i = j))) ∧ Below w.heap.size w w' := by
  have he := valOf_eqL hi hj
  have HE := Lib.hid he
  clear he
  go_enter Try.func20, Try.ntmps20
  go_wp2
  go_ret
  exact ⟨by rw [← HE.out]; rfl, balloc (balloc (bref _) _) _⟩

set_option maxHeartbeats 1000000 in
theorem covers_run (c d : Int) (i j : Nat) (w : World) (hi : i ≤ 4) (hj : j ≤ 4) :
    Calls Try.prog 22 #[.agg #[.int .i64 c, .string (valOf i)], .agg #[.int .i64 d, .string (valOf j)]] w fun e w' => e = .returned (.bool (covB c i d j)) ∧ Below w.heap.size w w' := by
  cases hz : zeroB c i
  · cases he : decide (i = j)
    · have HL := Lib.hid (show covB c i d j = false by unfold covB; simp [hz, he])
      go_enter Try.func22, Try.ntmps22
      go_wp2_with fail
      refine (zero_run _ _ _ hi).mono ?_
      rintro e w2 ⟨rfl, hbw2⟩
      obtain ⟨hccw2, hcfw2⟩ := bcell hbw2
      have hzw2 : w.heap.size + 1 < w2.heap.size := by
        have := hbw2.size
        simp at this
        omega
      have hyw20 : w.heap.size < w2.heap.size := by omega
      go_wp2_with fail
      refine (compat_run _ _ _ _ _ hi hj).mono ?_
      rintro e w3 ⟨rfl, hbw3⟩
      obtain ⟨hccw3, hcfw3⟩ := bcell hbw3
      have hzw3 : w.heap.size + 1 < w3.heap.size := by
        have := hbw3.size
        omega
      have hyw30 : w.heap.size < w3.heap.size := by omega
      go_wp2_with fail
      go_ret
      exact ⟨by rw [HL.out]; rfl, bstep (bstep (balloc (balloc (bref _) _) _) hbw2) hbw3⟩
    · have HL := Lib.hid (show covB c i d j = decide (d ≤ c) by unfold covB; simp [hz, he])
      go_enter Try.func22, Try.ntmps22
      go_wp2_with fail
      refine (zero_run _ _ _ hi).mono ?_
      rintro e w2 ⟨rfl, hbw2⟩
      obtain ⟨hccw2, hcfw2⟩ := bcell hbw2
      have hzw2 : w.heap.size + 1 < w2.heap.size := by
        have := hbw2.size
        simp at this
        omega
      have hyw20 : w.heap.size < w2.heap.size := by omega
      go_wp2_with fail
      refine (compat_run _ _ _ _ _ hi hj).mono ?_
      rintro e w3 ⟨rfl, hbw3⟩
      obtain ⟨hccw3, hcfw3⟩ := bcell hbw3
      have hzw3 : w.heap.size + 1 < w3.heap.size := by
        have := hbw3.size
        omega
      have hyw30 : w.heap.size < w3.heap.size := by omega
      go_wp2_with fail
      go_ret
      exact ⟨by rw [HL.out]; rfl, bstep (bstep (balloc (balloc (bref _) _) _) hbw2) hbw3⟩
  · have HL := Lib.hid (show covB c i d j = false by unfold covB; simp [hz])
    go_enter Try.func22, Try.ntmps22
    go_wp2_with fail
    refine (zero_run _ _ _ hi).mono ?_
    rintro e w2 ⟨rfl, hbw2⟩
    go_wp2_with fail
    go_ret
    exact ⟨by rw [HL.out]; rfl, bstep (balloc (balloc (bref _) _) _) hbw2⟩

set_option maxHeartbeats 1000000 in
theorem aborts_run (c d : Int) (i j : Nat) (w : World) (hi : i ≤ 4) (hj : j ≤ 4) :
    Calls Try.prog 24 #[.agg #[.int .i64 c, .string (valOf i)], .agg #[.int .i64 d, .string (valOf j)]] w fun e w' => e = .returned (.bool (abB c i d j)) ∧ Below w.heap.size w w' := by
  cases hz : zeroB c i
  · cases he : decide (i = j)
    · have HL := Lib.hid (show abB c i d j = lessB d j c i by unfold abB; simp [hz, he])
      go_enter Try.func24, Try.ntmps24
      go_wp2_with fail
      refine (zero_run _ _ _ hi).mono ?_
      rintro e w2 ⟨rfl, hbw2⟩
      obtain ⟨hccw2, hcfw2⟩ := bcell hbw2
      have hzw2 : w.heap.size + 1 < w2.heap.size := by
        have := hbw2.size
        simp at this
        omega
      have hyw20 : w.heap.size < w2.heap.size := by omega
      go_wp2_with fail
      refine (compat_run _ _ _ _ _ hi hj).mono ?_
      rintro e w3 ⟨rfl, hbw3⟩
      obtain ⟨hccw3, hcfw3⟩ := bcell hbw3
      have hzw3 : w.heap.size + 1 < w3.heap.size := by
        have := hbw3.size
        omega
      have hyw30 : w.heap.size < w3.heap.size := by omega
      go_wp2_with fail
      refine (less_run _ _ _ _ _ hj hi).mono ?_
      rintro e w4 ⟨rfl, hbw4⟩
      go_wp2_with fail
      go_ret
      exact ⟨by rw [HL.out]; rfl, bstep (bstep (bstep (balloc (balloc (bref _) _) _) hbw2) hbw3) hbw4⟩
    · have HL := Lib.hid (show abB c i d j = false by unfold abB; simp [hz, he])
      go_enter Try.func24, Try.ntmps24
      go_wp2_with fail
      refine (zero_run _ _ _ hi).mono ?_
      rintro e w2 ⟨rfl, hbw2⟩
      obtain ⟨hccw2, hcfw2⟩ := bcell hbw2
      have hzw2 : w.heap.size + 1 < w2.heap.size := by
        have := hbw2.size
        simp at this
        omega
      have hyw20 : w.heap.size < w2.heap.size := by omega
      go_wp2_with fail
      refine (compat_run _ _ _ _ _ hi hj).mono ?_
      rintro e w3 ⟨rfl, hbw3⟩
      obtain ⟨hccw3, hcfw3⟩ := bcell hbw3
      have hzw3 : w.heap.size + 1 < w3.heap.size := by
        have := hbw3.size
        omega
      have hyw30 : w.heap.size < w3.heap.size := by omega
      go_wp2_with fail
      go_ret
      exact ⟨by rw [HL.out]; rfl, bstep (bstep (balloc (balloc (bref _) _) _) hbw2) hbw3⟩
  · have HL := Lib.hid (show abB c i d j = false by unfold abB; simp [hz])
    go_enter Try.func24, Try.ntmps24
    go_wp2_with fail
    refine (zero_run _ _ _ hi).mono ?_
    rintro e w2 ⟨rfl, hbw2⟩
    go_wp2_with fail
    go_ret
    exact ⟨by rw [HL.out]; rfl, bstep (balloc (balloc (bref _) _) _) hbw2⟩

def prepB (c : Int) (i : Nat) (d : Int) (j : Nat) (f : Int) (k : Nat) : Bool := covB c i f k || covB d j f k || (!zeroB d j && lessB f k d j)

set_option maxHeartbeats 2000000 in
theorem prepares_run (c d f : Int) (i j k : Nat) (w : World) (hi : i ≤ 4) (hj : j ≤ 4) (hk : k ≤ 4) :
    Calls Try.prog 26 #[.agg #[.int .i64 c, .string (valOf i)], .agg #[.int .i64 d, .string (valOf j)], .agg #[.int .i64 f, .string (valOf k)]] w fun e w' => e = .returned (.bool (prepB c i d j f k)) ∧ Below w.heap.size w w' := by
  cases h1 : covB c i f k
  · cases h2 : covB d j f k
    · cases h3 : zeroB d j
      · have HL := Lib.hid (show prepB c i d j f k = lessB f k d j by unfold prepB; simp [h1, h2, h3])
        go_enter Try.func26, Try.ntmps26
        go_wp2_with fail
        refine (covers_run _ _ _ _ _ hi hk).mono ?_
        rintro e w2 ⟨rfl, hbw2⟩
        obtain ⟨hccw2, hcfw2⟩ := bcell hbw2
        have hzw2 : w.heap.size + 1 + 1 < w2.heap.size := by
          have := hbw2.size
          simp at this
          omega
        have hyw20 : w.heap.size < w2.heap.size := by omega
        have hyw21 : w.heap.size + 1 < w2.heap.size := by omega
        go_wp2_with fail
        refine (covers_run _ _ _ _ _ hj hk).mono ?_
        rintro e w3 ⟨rfl, hbw3⟩
        obtain ⟨hccw3, hcfw3⟩ := bcell hbw3
        have hzw3 : w.heap.size + 1 + 1 < w3.heap.size := by
          have := hbw3.size
          omega
        have hyw30 : w.heap.size < w3.heap.size := by omega
        have hyw31 : w.heap.size + 1 < w3.heap.size := by omega
        go_wp2_with fail
        refine (zero_run _ _ _ hj).mono ?_
        rintro e w4 ⟨rfl, hbw4⟩
        obtain ⟨hccw4, hcfw4⟩ := bcell hbw4
        have hzw4 : w.heap.size + 1 + 1 < w4.heap.size := by
          have := hbw4.size
          omega
        have hyw40 : w.heap.size < w4.heap.size := by omega
        have hyw41 : w.heap.size + 1 < w4.heap.size := by omega
        go_wp2_with fail
        refine (less_run _ _ _ _ _ hk hj).mono ?_
        rintro e w5 ⟨rfl, hbw5⟩
        go_wp2_with fail
        go_ret
        exact ⟨by rw [HL.out]; rfl, bstep (bstep (bstep (bstep (balloc (balloc (balloc (bref _) _) _) _) hbw2) hbw3) hbw4) hbw5⟩
      · have HL := Lib.hid (show prepB c i d j f k = false by unfold prepB; simp [h1, h2, h3])
        go_enter Try.func26, Try.ntmps26
        go_wp2_with fail
        refine (covers_run _ _ _ _ _ hi hk).mono ?_
        rintro e w2 ⟨rfl, hbw2⟩
        obtain ⟨hccw2, hcfw2⟩ := bcell hbw2
        have hzw2 : w.heap.size + 1 + 1 < w2.heap.size := by
          have := hbw2.size
          simp at this
          omega
        have hyw20 : w.heap.size < w2.heap.size := by omega
        have hyw21 : w.heap.size + 1 < w2.heap.size := by omega
        go_wp2_with fail
        refine (covers_run _ _ _ _ _ hj hk).mono ?_
        rintro e w3 ⟨rfl, hbw3⟩
        obtain ⟨hccw3, hcfw3⟩ := bcell hbw3
        have hzw3 : w.heap.size + 1 + 1 < w3.heap.size := by
          have := hbw3.size
          omega
        have hyw30 : w.heap.size < w3.heap.size := by omega
        have hyw31 : w.heap.size + 1 < w3.heap.size := by omega
        go_wp2_with fail
        refine (zero_run _ _ _ hj).mono ?_
        rintro e w4 ⟨rfl, hbw4⟩
        obtain ⟨hccw4, hcfw4⟩ := bcell hbw4
        have hzw4 : w.heap.size + 1 + 1 < w4.heap.size := by
          have := hbw4.size
          omega
        have hyw40 : w.heap.size < w4.heap.size := by omega
        have hyw41 : w.heap.size + 1 < w4.heap.size := by omega
        go_wp2_with fail
        go_ret
        exact ⟨by rw [HL.out]; rfl, bstep (bstep (bstep (balloc (balloc (balloc (bref _) _) _) _) hbw2) hbw3) hbw4⟩
    · have HL := Lib.hid (show prepB c i d j f k = true by unfold prepB; simp [h1, h2])
      go_enter Try.func26, Try.ntmps26
      go_wp2_with fail
      refine (covers_run _ _ _ _ _ hi hk).mono ?_
      rintro e w2 ⟨rfl, hbw2⟩
      obtain ⟨hccw2, hcfw2⟩ := bcell hbw2
      have hzw2 : w.heap.size + 1 + 1 < w2.heap.size := by
        have := hbw2.size
        simp at this
        omega
      have hyw20 : w.heap.size < w2.heap.size := by omega
      have hyw21 : w.heap.size + 1 < w2.heap.size := by omega
      go_wp2_with fail
      refine (covers_run _ _ _ _ _ hj hk).mono ?_
      rintro e w3 ⟨rfl, hbw3⟩
      obtain ⟨hccw3, hcfw3⟩ := bcell hbw3
      have hzw3 : w.heap.size + 1 + 1 < w3.heap.size := by
        have := hbw3.size
        omega
      have hyw30 : w.heap.size < w3.heap.size := by omega
      have hyw31 : w.heap.size + 1 < w3.heap.size := by omega
      go_wp2_with fail
      go_ret
      exact ⟨by rw [HL.out]; rfl, bstep (bstep (balloc (balloc (balloc (bref _) _) _) _) hbw2) hbw3⟩
  · have HL := Lib.hid (show prepB c i d j f k = true by unfold prepB; simp [h1])
    go_enter Try.func26, Try.ntmps26
    go_wp2_with fail
    refine (covers_run _ _ _ _ _ hi hk).mono ?_
    rintro e w2 ⟨rfl, hbw2⟩
    go_wp2_with fail
    go_ret
    exact ⟨by rw [HL.out]; rfl, bstep (balloc (balloc (balloc (bref _) _) _) _) hbw2⟩

end Go.Proofs.Ytnnajmoedihkjaa
