/- The walk of BallotsLowest: the lowest counter is aborted by neither, and every lesser one from the beginning on is. -/
import Derived.Test.YtmgiojdipheokaaBalMem
import Derived.Test.YtmgiojdipheokaaLow
namespace Go.Proofs.Ytmgiojdipheokaa
set_option linter.unusedVariables false
open Go.RowKit

theorem abB_iff {c x : Int} {i v : Nat} (hc : 1 ≤ c) : abB c i x v = true ↔ i ≠ v ∧ (x < c ∨ (x = c ∧ v < i)) := by
  unfold abB zeroB lessB
  simp
  omega
theorem abB_false {c x : Int} {i v : Nat} (hc : 1 ≤ c) : abB c i x v = false ↔ ¬ (i ≠ v ∧ (x < c ∨ (x = c ∧ v < i))) := by
  rw [← abB_iff hc]; simp
theorem validB_small {c : Int} {i : Nat} (h0 : 1 ≤ c) (h1 : c ≤ 1000) (hi : 1 ≤ i) : validB c i = true := by
  unfold validB; simp; omega
theorem stepB_small {c n : Int} {i v : Nat} (h0 : 1 ≤ c) (h1 : c ≤ 1000) (hi : 1 ≤ i) :
    stepB v c i n = if i = v then n else if n < c then (if v < i then c + 1 else c) else if n = c ∧ v < i then n + 1 else n := by
  unfold stepB
  rw [validB_small h0 h1 hi]
  by_cases he : i = v
  · simp [he]
  · simp only [he, decide_false, Bool.not_false, Bool.and_self, if_true, if_false]
    by_cases hn : n < c
    · rw [if_pos hn, show max n c = c by omega]
      by_cases hv : v < i
      · rw [if_pos hv, if_pos ((abB_iff h0).2 ⟨he, .inr ⟨rfl, hv⟩⟩)]
      · rw [if_neg hv, if_neg]
        rw [abB_iff h0]; omega
    · rw [if_neg hn, show max n c = n by omega]
      by_cases hv : n = c ∧ v < i
      · rw [if_pos hv, if_pos ((abB_iff h0).2 ⟨he, .inr hv⟩)]
      · rw [if_neg hv, if_neg]
        rw [abB_iff h0]; omega
/-- What the law asks of the lowest counter. -/
theorem low_math {v i j : Nat} {n c d : Int} (hn : 1 ≤ n) (hn1 : n ≤ 1000) (c0 : 1 ≤ c) (c1 : c ≤ 1000) (d0 : 1 ≤ d) (d1 : d ≤ 1000) (hi : 1 ≤ i) (hj : 1 ≤ j) :
    n ≤ lowB v n c i d j ∧ lowB v n c i d j ≤ 2000 ∧ abB c i (lowB v n c i d j) v = false ∧ abB d j (lowB v n c i d j) v = false ∧
    ∀ x, n ≤ x → x < lowB v n c i d j → abB c i x v = false → abB d j x v = true := by
  unfold lowB
  rw [stepB_small c0 c1 hi, stepB_small d0 d1 hj, abB_false c0, abB_false d0]
  refine ⟨?_, ?_, ?_, ?_, ?_⟩
  · repeat' split <;> omega
  · repeat' split <;> omega
  · repeat' split <;> omega
  · repeat' split <;> omega
  · intro x hx
    rw [abB_false c0, abB_iff d0]
    repeat' split <;> omega
end Go.Proofs.Ytmgiojdipheokaa
