/- The contracts of ballots.Valid and ballots.Lowest, and of the chapter's example. -/
import Derived.Test.YtnnajmoedihkjaaBal2
namespace Go.Proofs.Ytnnajmoedihkjaa
set_option linter.unusedVariables false
set_option linter.unusedSimpArgs false
open Go.RowKit

def validB (c : Int) (i : Nat) : Bool := (decide (1 ≤ c ∧ c ≤ 1000) || decide (c = 1000000)) && decide (1 ≤ i)

theorem valOf_size {i : Nat} (h0 : 1 ≤ i) (h : i ≤ 4) : 1 ≤ (valOf i).size ∧ (valOf i).size ≤ 200 := by
  match i, h0, h with
  | 1, _, _ | 2, _, _ | 3, _, _ | 4, _, _ => decide

set_option maxHeartbeats 2000000 in
theorem valid_run (c : Int) (i : Nat) (w : World) (hi : i ≤ 4) :
    Calls Try.prog 14 #[.agg #[.int .i64 c, .string (valOf i)]] w fun e w' => e = .returned (.bool (validB c i)) ∧ Below w.heap.size w w' := by
  by_cases h0 : i = 0
  · subst h0
    have HL := Lib.hid (show validB c 0 = false by unfold validB; simp)
    have hs : (valOf 0).size = 0 := rfl
    by_cases h1 : 1 ≤ c <;> by_cases h2 : c ≤ 1000 <;> by_cases h3 : c = 1000000
    all_goals first | (exfalso; omega) | skip
    all_goals first | (have h4 : (c == 1000000) = true := by simpa using h3) | (have h4 : (c == 1000000) = false := by simpa using h3)
    all_goals
      clear h3
      go_enter Try.func14, Try.ntmps14
      go_wp2
      go_ret
      exact ⟨by rw [HL.out]; rfl, balloc (bref _) _⟩
  · obtain ⟨s0, s1⟩ := valOf_size (i := i) (by omega) hi
    have t0 : (1 : Int) ≤ ((valOf i).size : Int) := by omega
    have t1 : ((valOf i).size : Int) ≤ 200 := by omega
    clear s0 s1
    cases hval : validB c i
    all_goals
      have hv : validB c i = true ↔ (1 ≤ c ∧ c ≤ 1000) ∨ c = 1000000 := by unfold validB; simp; omega
      rw [hval] at hv
      have HL := Lib.hid hval
      clear hval
      by_cases h1 : 1 ≤ c <;> by_cases h2 : c ≤ 1000 <;> by_cases h3 : c = 1000000
    all_goals simp only [reduceCtorEq, false_iff, true_iff] at hv
    all_goals first | (exfalso; omega) | skip
    all_goals first | (have h4 : (c == 1000000) = true := by simpa using h3) | (have h4 : (c == 1000000) = false := by simpa using h3)
    all_goals
      clear h3 hv
      go_enter Try.func14, Try.ntmps14
      go_wp2
      go_ret
      exact ⟨rfl, balloc (bref _) _⟩

/-- One step of Lowest: past what ballot (c, i) aborts of value v. -/
def stepB (v : Nat) (c : Int) (i : Nat) (n : Int) : Int :=
  if validB c i && !decide (i = v) then (if abB c i (max n c) v then max n c + 1 else max n c) else n

def lowB (v : Nat) (n c : Int) (i : Nat) (d : Int) (j : Nat) : Int := stepB v d j (stepB v c i n)

def lowAt (v : Nat) (n c : Int) (i : Nat) (d : Int) (j : Nat) (k : Nat) : Int := match k with | 0 => n | 1 => stepB v c i n | _ => lowB v n c i d j

theorem validB_of {c : Int} {i : Nat} (h : validB c i = true) : 1 ≤ c ∧ c ≤ 1000000 ∧ 1 ≤ i := by
  unfold validB at h
  simp at h
  omega

theorem stepB_bd (v : Nat) (c : Int) (i : Nat) (n : Int) (h0 : 1 ≤ n) (h1 : n ≤ 10000000) : 1 ≤ stepB v c i n ∧ stepB v c i n ≤ max n 1000000 + 1 := by
  unfold stepB
  split
  · rename_i h
    have hv := validB_of (c := c) (i := i) (by simp at h; exact h.1)
    split <;> omega
  · omega

set_option maxHeartbeats 4000000 in
theorem lowest_run (v : Nat) (n c d : Int) (i j : Nat) (w : World) (hv : v ≤ 4) (hi : i ≤ 4) (hj : j ≤ 4) (hn0 : 1 ≤ n) (hn1 : n ≤ 1000000) :
    Calls Try.prog 29 #[.string (valOf v), .int .i64 n, .agg #[.int .i64 c, .string (valOf i)], .agg #[.int .i64 d, .string (valOf j)]] w fun e w' => e = .returned (.int .i64 (lowB v n c i d j)) ∧ Below w.heap.size w w' := by
  have i0 : ∀ W : World, (Instr.index 62 (.agg #[.int .i64 c, .string (valOf i), .int .i64 d, .string (valOf j)]) (.int .i64 0)).run Try.prog W = .ok (.agg #[.int .i64 c, .string (valOf i)]) W := fun _ => by kernel_rfl
  have i1 : ∀ W : World, (Instr.index 62 (.agg #[.int .i64 c, .string (valOf i), .int .i64 d, .string (valOf j)]) (.int .i64 1)).run Try.prog W = .ok (.agg #[.int .i64 d, .string (valOf j)]) W := fun _ => by kernel_rfl
  go_enter Try.func29, Try.ntmps29
  go_wp2_with fail
  go_loopw [9, 17] (fun u t wr => ∃ (k : Nat) (m : Int), k ≤ 2 ∧ t = .int .i64 k ∧ u = .int .i64 m ∧ 1 ≤ m ∧ m ≤ 1000000 + (k : Int) ∧ Hid (lowAt v n c i d j k = m) ∧ Below w.heap.size w wr) (fun _ t _ => 2 - (intOf t).toNat)
  case atStart => exact ⟨0, n, by omega, rfl, rfl, by omega, by omega, Lib.hid rfl, balloc (balloc (bref _) _) _⟩
  case round =>
    obtain ⟨k, m, hk, rfl, rfl, hm0, hm1, hm, hbel⟩ := hrel
    match k, hk with
    | 2, _ =>
      go_wp2_with fail
      go_ret
      exact ⟨by rw [← hm.out]; rfl, hbel⟩
    | 0, _ =>
      have hsb := stepB_bd v c i m (by omega) (by omega)
      have hE := valOf_eqL hi hv
      cases hva : validB c i
      · have HS := Lib.hid (show stepB v c i m = m by unfold stepB; simp [hva])
        clear hE
        go_wp2_with fail
        refine (valid_run _ _ _ hi).mono ?_
        rintro e w2 ⟨rfl, hb2⟩
        obtain ⟨hcc2, hcf2⟩ := bcell hb2
        have hz2 : wr.heap.size < w2.heap.size := by
          have := hb2.size
          simp at this
          omega
        go_wp2_with fail
        exact ⟨⟨1, m, by omega, rfl, rfl, by omega, by omega, Lib.hid (show stepB v c i n = m by rw [show n = m from hm.out]; exact HS.out), bstep (balloc hbel _) hb2⟩, by decide⟩
      · have hvb := validB_of hva
        cases he : decide (i = v)
        · rw [he] at hE
          by_cases hmc : m < c
          · have hmx : max m c = c := by omega
            cases hab : abB c i c v
            · have HS := Lib.hid (show stepB v c i m = c by unfold stepB; simp [hva, he, hmx, hab])
              clear hmx
              go_wp2_with fail
              refine (valid_run _ _ _ hi).mono ?_
              rintro e w2 ⟨rfl, hb2⟩
              obtain ⟨hcc2, hcf2⟩ := bcell hb2
              have hz2 : wr.heap.size < w2.heap.size := by
                have := hb2.size
                simp at this
                omega
              go_wp2_with fail
              refine (aborts_run _ _ _ _ _ hi hv).mono ?_
              rintro e w3 ⟨rfl, hb3⟩
              obtain ⟨hcc3, hcf3⟩ := bcell hb3
              go_wp2_with fail
              exact ⟨⟨1, c, by omega, rfl, rfl, by omega, by omega, Lib.hid (show stepB v c i n = c by rw [show n = m from hm.out]; exact HS.out), bstep (bstep (balloc hbel _) hb2) hb3⟩, by decide⟩
            · have HS := Lib.hid (show stepB v c i m = (c + 1) by unfold stepB; simp [hva, he, hmx, hab])
              clear hmx
              go_wp2_with fail
              refine (valid_run _ _ _ hi).mono ?_
              rintro e w2 ⟨rfl, hb2⟩
              obtain ⟨hcc2, hcf2⟩ := bcell hb2
              have hz2 : wr.heap.size < w2.heap.size := by
                have := hb2.size
                simp at this
                omega
              go_wp2_with fail
              refine (aborts_run _ _ _ _ _ hi hv).mono ?_
              rintro e w3 ⟨rfl, hb3⟩
              obtain ⟨hcc3, hcf3⟩ := bcell hb3
              go_wp2_with fail
              exact ⟨⟨1, (c + 1), by omega, rfl, rfl, by omega, by omega, Lib.hid (show stepB v c i n = (c + 1) by rw [show n = m from hm.out]; exact HS.out), bstep (bstep (balloc hbel _) hb2) hb3⟩, by decide⟩
          · have hmx : max m c = m := by omega
            cases hab : abB c i m v
            · have HS := Lib.hid (show stepB v c i m = m by unfold stepB; simp [hva, he, hmx, hab])
              clear hmx
              go_wp2_with fail
              refine (valid_run _ _ _ hi).mono ?_
              rintro e w2 ⟨rfl, hb2⟩
              obtain ⟨hcc2, hcf2⟩ := bcell hb2
              have hz2 : wr.heap.size < w2.heap.size := by
                have := hb2.size
                simp at this
                omega
              go_wp2_with fail
              refine (aborts_run _ _ _ _ _ hi hv).mono ?_
              rintro e w3 ⟨rfl, hb3⟩
              obtain ⟨hcc3, hcf3⟩ := bcell hb3
              go_wp2_with fail
              exact ⟨⟨1, m, by omega, rfl, rfl, by omega, by omega, Lib.hid (show stepB v c i n = m by rw [show n = m from hm.out]; exact HS.out), bstep (bstep (balloc hbel _) hb2) hb3⟩, by decide⟩
            · have HS := Lib.hid (show stepB v c i m = (m + 1) by unfold stepB; simp [hva, he, hmx, hab])
              clear hmx
              go_wp2_with fail
              refine (valid_run _ _ _ hi).mono ?_
              rintro e w2 ⟨rfl, hb2⟩
              obtain ⟨hcc2, hcf2⟩ := bcell hb2
              have hz2 : wr.heap.size < w2.heap.size := by
                have := hb2.size
                simp at this
                omega
              go_wp2_with fail
              refine (aborts_run _ _ _ _ _ hi hv).mono ?_
              rintro e w3 ⟨rfl, hb3⟩
              obtain ⟨hcc3, hcf3⟩ := bcell hb3
              go_wp2_with fail
              exact ⟨⟨1, (m + 1), by omega, rfl, rfl, by omega, by omega, Lib.hid (show stepB v c i n = (m + 1) by rw [show n = m from hm.out]; exact HS.out), bstep (bstep (balloc hbel _) hb2) hb3⟩, by decide⟩
        · rw [he] at hE
          have HS := Lib.hid (show stepB v c i m = m by unfold stepB; simp [hva, he])
          go_wp2_with fail
          refine (valid_run _ _ _ hi).mono ?_
          rintro e w2 ⟨rfl, hb2⟩
          obtain ⟨hcc2, hcf2⟩ := bcell hb2
          have hz2 : wr.heap.size < w2.heap.size := by
            have := hb2.size
            simp at this
            omega
          go_wp2_with fail
          exact ⟨⟨1, m, by omega, rfl, rfl, by omega, by omega, Lib.hid (show stepB v c i n = m by rw [show n = m from hm.out]; exact HS.out), bstep (balloc hbel _) hb2⟩, by decide⟩
    | 1, _ =>
      have hsb := stepB_bd v d j m (by omega) (by omega)
      have hE := valOf_eqL hj hv
      cases hva : validB d j
      · have HS := Lib.hid (show stepB v d j m = m by unfold stepB; simp [hva])
        clear hE
        go_wp2_with fail
        refine (valid_run _ _ _ hj).mono ?_
        rintro e w2 ⟨rfl, hb2⟩
        obtain ⟨hcc2, hcf2⟩ := bcell hb2
        have hz2 : wr.heap.size < w2.heap.size := by
          have := hb2.size
          simp at this
          omega
        go_wp2_with fail
        exact ⟨⟨2, m, by omega, rfl, rfl, by omega, by omega, Lib.hid (show stepB v d j (stepB v c i n) = m by rw [show stepB v c i n = m from hm.out]; exact HS.out), bstep (balloc hbel _) hb2⟩, by decide⟩
      · have hvb := validB_of hva
        cases he : decide (j = v)
        · rw [he] at hE
          by_cases hmc : m < d
          · have hmx : max m d = d := by omega
            cases hab : abB d j d v
            · have HS := Lib.hid (show stepB v d j m = d by unfold stepB; simp [hva, he, hmx, hab])
              clear hmx
              go_wp2_with fail
              refine (valid_run _ _ _ hj).mono ?_
              rintro e w2 ⟨rfl, hb2⟩
              obtain ⟨hcc2, hcf2⟩ := bcell hb2
              have hz2 : wr.heap.size < w2.heap.size := by
                have := hb2.size
                simp at this
                omega
              go_wp2_with fail
              refine (aborts_run _ _ _ _ _ hj hv).mono ?_
              rintro e w3 ⟨rfl, hb3⟩
              obtain ⟨hcc3, hcf3⟩ := bcell hb3
              go_wp2_with fail
              exact ⟨⟨2, d, by omega, rfl, rfl, by omega, by omega, Lib.hid (show stepB v d j (stepB v c i n) = d by rw [show stepB v c i n = m from hm.out]; exact HS.out), bstep (bstep (balloc hbel _) hb2) hb3⟩, by decide⟩
            · have HS := Lib.hid (show stepB v d j m = (d + 1) by unfold stepB; simp [hva, he, hmx, hab])
              clear hmx
              go_wp2_with fail
              refine (valid_run _ _ _ hj).mono ?_
              rintro e w2 ⟨rfl, hb2⟩
              obtain ⟨hcc2, hcf2⟩ := bcell hb2
              have hz2 : wr.heap.size < w2.heap.size := by
                have := hb2.size
                simp at this
                omega
              go_wp2_with fail
              refine (aborts_run _ _ _ _ _ hj hv).mono ?_
              rintro e w3 ⟨rfl, hb3⟩
              obtain ⟨hcc3, hcf3⟩ := bcell hb3
              go_wp2_with fail
              exact ⟨⟨2, (d + 1), by omega, rfl, rfl, by omega, by omega, Lib.hid (show stepB v d j (stepB v c i n) = (d + 1) by rw [show stepB v c i n = m from hm.out]; exact HS.out), bstep (bstep (balloc hbel _) hb2) hb3⟩, by decide⟩
          · have hmx : max m d = m := by omega
            cases hab : abB d j m v
            · have HS := Lib.hid (show stepB v d j m = m by unfold stepB; simp [hva, he, hmx, hab])
              clear hmx
              go_wp2_with fail
              refine (valid_run _ _ _ hj).mono ?_
              rintro e w2 ⟨rfl, hb2⟩
              obtain ⟨hcc2, hcf2⟩ := bcell hb2
              have hz2 : wr.heap.size < w2.heap.size := by
                have := hb2.size
                simp at this
                omega
              go_wp2_with fail
              refine (aborts_run _ _ _ _ _ hj hv).mono ?_
              rintro e w3 ⟨rfl, hb3⟩
              obtain ⟨hcc3, hcf3⟩ := bcell hb3
              go_wp2_with fail
              exact ⟨⟨2, m, by omega, rfl, rfl, by omega, by omega, Lib.hid (show stepB v d j (stepB v c i n) = m by rw [show stepB v c i n = m from hm.out]; exact HS.out), bstep (bstep (balloc hbel _) hb2) hb3⟩, by decide⟩
            · have HS := Lib.hid (show stepB v d j m = (m + 1) by unfold stepB; simp [hva, he, hmx, hab])
              clear hmx
              go_wp2_with fail
              refine (valid_run _ _ _ hj).mono ?_
              rintro e w2 ⟨rfl, hb2⟩
              obtain ⟨hcc2, hcf2⟩ := bcell hb2
              have hz2 : wr.heap.size < w2.heap.size := by
                have := hb2.size
                simp at this
                omega
              go_wp2_with fail
              refine (aborts_run _ _ _ _ _ hj hv).mono ?_
              rintro e w3 ⟨rfl, hb3⟩
              obtain ⟨hcc3, hcf3⟩ := bcell hb3
              go_wp2_with fail
              exact ⟨⟨2, (m + 1), by omega, rfl, rfl, by omega, by omega, Lib.hid (show stepB v d j (stepB v c i n) = (m + 1) by rw [show stepB v c i n = m from hm.out]; exact HS.out), bstep (bstep (balloc hbel _) hb2) hb3⟩, by decide⟩
        · rw [he] at hE
          have HS := Lib.hid (show stepB v d j m = m by unfold stepB; simp [hva, he])
          go_wp2_with fail
          refine (valid_run _ _ _ hj).mono ?_
          rintro e w2 ⟨rfl, hb2⟩
          obtain ⟨hcc2, hcf2⟩ := bcell hb2
          have hz2 : wr.heap.size < w2.heap.size := by
            have := hb2.size
            simp at this
            omega
          go_wp2_with fail
          exact ⟨⟨2, m, by omega, rfl, rfl, by omega, by omega, Lib.hid (show stepB v d j (stepB v c i n) = m by rw [show stepB v c i n = m from hm.out]; exact HS.out), bstep (balloc hbel _) hb2⟩, by decide⟩

theorem lits : abB 3 2 3 1 = true ∧ abB 3 2 2 3 = true ∧ abB 3 2 3 3 = false ∧ lowB 1 2 4 2 0 0 = 5 := by decide

set_option maxHeartbeats 1000000 in
theorem sane23 (w : World) : Calls Try.prog 6 #[] w fun e w' => e = .returned (.bool true) ∧ Below w.heap.size w w' := by
  have H := Lib.hid lits
  go_enter Try.func6, Try.ntmps6
  go_wp2_with fail
  refine (aborts_run 3 3 2 1 _ (by omega) (by omega)).mono ?_
  rintro e w1 ⟨rfl, hb1⟩
  obtain ⟨hcc1, hcf1⟩ := bcell hb1
  have hz1 : w.heap.size < w1.heap.size := by
    have := hb1.size
    simp at this
    omega
  rw [H.out.1]
  go_wp2_with fail
  refine (aborts_run 3 2 2 3 _ (by omega) (by omega)).mono ?_
  rintro e w2 ⟨rfl, hb2⟩
  obtain ⟨hcc2, hcf2⟩ := bcell hb2
  have hz2 : w.heap.size < w2.heap.size := by
    have := hb2.size
    omega
  rw [H.out.2.1]
  go_wp2_with fail
  refine (aborts_run 3 3 2 3 _ (by omega) (by omega)).mono ?_
  rintro e w3 ⟨rfl, hb3⟩
  rw [H.out.2.2.1]
  go_wp2_with fail
  refine (lowest_run 1 2 4 0 2 0 _ (by omega) (by omega) (by omega) (by omega) (by omega)).mono ?_
  rintro e w4 ⟨rfl, hb4⟩
  rw [H.out.2.2.2]
  go_wp2_with fail
  go_ret
  exact ⟨rfl, bstep (bstep (bstep (bstep (balloc (bref _) _) hb1) hb2) hb3) hb4⟩

end Go.Proofs.Ytnnajmoedihkjaa
