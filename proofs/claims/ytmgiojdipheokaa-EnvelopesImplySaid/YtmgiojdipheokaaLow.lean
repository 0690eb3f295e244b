/- The contracts of ballots.Valid and ballots.Lowest, and of the chapter's example. -/
import Derived.Test.YtmgiojdipheokaaBal2
namespace Go.Proofs.Ytmgiojdipheokaa
set_option linter.unusedVariables false
open Go.RowKit

def validB (c : Int) (i : Nat) : Bool := (decide (1 ≤ c ∧ c ≤ 1000) || decide (c = 1000000)) && decide (1 ≤ i)
theorem valOf_size {i : Nat} (h0 : 1 ≤ i) (h : i ≤ 4) : 1 ≤ (valOf i).size ∧ (valOf i).size ≤ 200 := by
  match i, h0, h with
  | 1, _, _ | 2, _, _ | 3, _, _ | 4, _, _ => decide

set_option maxHeartbeats 2000000 in
theorem valid_run (c : Int) (i : Nat) (w : World) (hi : i ≤ 4) :
    Calls Try.prog 101 #[.agg #[.int .i64 c, .string (valOf i)]] w fun e w' => e = .returned (.bool (validB c i)) ∧ Below w.heap.size w w' := by
  by_cases h0 : i = 0
  · subst h0
    have HL := Lib.hid (show validB c 0 = false by unfold validB; simp)
    have hs : (valOf 0).size = 0 := rfl
    by_cases h1 : 1 ≤ c <;> by_cases h2 : c ≤ 1000 <;> by_cases h3 : c = 1000000
    all_goals first | (exfalso; omega) | skip
    all_goals first | (have h4 : (c == 1000000) = true := by simpa using h3) | (have h4 : (c == 1000000) = false := by simpa using h3)
    all_goals
      clear h3
      go_enter Try.func101, Try.ntmps101
      go_wp2
      go_ret
      exact ⟨by rw [HL.out]; rfl, balloc (bref _) _⟩
  · obtain ⟨s0, s1⟩ := valOf_size (i := i) (by omega) hi
    have t0 : (1 : Int) ≤ ((valOf i).size : Int) := by omega
    have t1 : ((valOf i).size : Int) ≤ 200 := by omega
    clear s0 s1
    cases hval : validB c i
    all_goals
      have hv : validB c i = true ↔ (1 ≤ c ∧ c ≤ 1000) ∨ c = 1000000 := by unfold validB; simp; omega
      rw [hval] at hv
      have HL := Lib.hid hval
      clear hval
      by_cases h1 : 1 ≤ c <;> by_cases h2 : c ≤ 1000 <;> by_cases h3 : c = 1000000
    all_goals simp only [reduceCtorEq, false_iff, true_iff] at hv
    all_goals first | (exfalso; omega) | skip
    all_goals first | (have h4 : (c == 1000000) = true := by simpa using h3) | (have h4 : (c == 1000000) = false := by simpa using h3)
    all_goals
      clear h3 hv
      go_enter Try.func101, Try.ntmps101
      go_wp2
      go_ret
      exact ⟨rfl, balloc (bref _) _⟩

/-- One step of Lowest: past what ballot (c, i) aborts of value v. -/
def stepB (v : Nat) (c : Int) (i : Nat) (n : Int) : Int :=
  if validB c i && !decide (i = v) then (if abB c i (max n c) v then max n c + 1 else max n c) else n
def lowB (v : Nat) (n c : Int) (i : Nat) (d : Int) (j : Nat) : Int := stepB v d j (stepB v c i n)
def lowAt (v : Nat) (n c : Int) (i : Nat) (d : Int) (j : Nat) (k : Nat) : Int := match k with | 0 => n | 1 => stepB v c i n | _ => lowB v n c i d j
theorem validB_of {c : Int} {i : Nat} (h : validB c i = true) : 1 ≤ c ∧ c ≤ 1000000 ∧ 1 ≤ i := by
  unfold validB at h
  simp at h
  omega
theorem stepB_bd (v : Nat) (c : Int) (i : Nat) (n : Int) (h0 : 1 ≤ n) (h1 : n ≤ 10000000) : 1 ≤ stepB v c i n ∧ stepB v c i n ≤ max n 1000000 + 1 := by
  unfold stepB
  split
  · rename_i h
    have hv := validB_of (c := c) (i := i) (by simp at h; exact h.1)
    split <;> omega
  · omega

theorem lits : abB 3 2 3 1 = true ∧ abB 3 2 2 3 = true ∧ abB 3 2 3 3 = false ∧ lowB 1 2 4 2 0 0 = 5 := by decide
end Go.Proofs.Ytmgiojdipheokaa
