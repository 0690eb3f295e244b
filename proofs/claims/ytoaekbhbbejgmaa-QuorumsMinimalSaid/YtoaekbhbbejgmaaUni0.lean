/- Configurations in which n nodes all trust in k of them. -/
import Derived.Test.YtoaekbhbbejgmaaCValid
namespace Go.Proofs.Ytoaekbhbbejgmaa
set_option linter.unusedVariables false
set_option linter.unusedSimpArgs false
open Go.RowKit

def nodU (n : Nat) : List Int := (List.range n).map (fun (i : Nat) => (i : Int))
theorem nodU_succ (n : Nat) : nodU (n + 1) = nodU n ++ [(n : Int)] := by unfold nodU; rw [List.range_succ, List.map_append]; rfl
theorem nodU_len (n : Nat) : (nodU n).length = n := by unfold nodU; simp
def uniT (n k : Nat) : Tree := .mk (k : Int) (nodU n) []
def uniM (n k j : Nat) : List Mem := List.replicate j (true, uniT n k)
theorem uniM_succ (n k j : Nat) : uniM n k (j + 1) = uniM n k j ++ [(true, uniT n k)] := List.replicate_succ'
theorem uniM_len (n k j : Nat) : (uniM n k j).length = j := List.length_replicate
/-- How many of the first n bits are on. -/
def pcN (n S : Nat) : Nat := (List.range n).countP (fun j => S.testBit j)
theorem uni_decl (n k m : Nat) : ∀ j, j ≤ m → declS (uniM n k m) j = 2 ^ j - 1
  | 0, _ => rfl
  | j + 1, h => by
    have ih := uni_decl n k m j (by omega)
    have hg : (uniM n k m).getD j (false, .mk 0 [] []) = (true, uniT n k) := by
      rw [List.getD_eq_getElem?_getD]
      have : (uniM n k m)[j]? = some (true, uniT n k) := by unfold uniM; rw [List.getElem?_replicate, if_pos (by omega)]
      rw [this]; rfl
    show (if ((uniM n k m).getD j (false, .mk 0 [] [])).1 then declS (uniM n k m) j ||| 2 ^ j else declS (uniM n k m) j) = _
    rw [hg, if_pos rfl, ih]
    apply Nat.eq_of_testBit_eq
    intro i
    rw [Nat.testBit_or, Nat.testBit_two_pow_sub_one, Nat.testBit_two_pow, Nat.testBit_two_pow_sub_one]
    by_cases h1 : i < j
    · rw [decide_eq_true h1, decide_eq_true (show i < j + 1 by omega)]; rfl
    · by_cases h2 : j = i
      · rw [decide_eq_false h1, decide_eq_true h2, decide_eq_true (show i < j + 1 by omega)]; rfl
      · rw [decide_eq_false h1, decide_eq_false h2, decide_eq_false (show ¬ i < j + 1 by omega)]; rfl
theorem uni_tr {n k j : Nat} (h : j < n) : trOf (uniM n k n) j = uniT n k := by
  unfold trOf
  rw [List.getD_eq_getElem?_getD]
  have : (uniM n k n)[j]? = some (true, uniT n k) := by unfold uniM; rw [List.getElem?_replicate, if_pos h]
  rw [this]; rfl
theorem uni_cnt (S : Nat) (hS : S < 1024) : ∀ n, n ≤ 10 → cnt (hasB (S : Int)) (nodU n) = pcN n S
  | 0, _ => rfl
  | n + 1, h => by
    have ih := uni_cnt S hS n (by omega)
    unfold cnt at ih ⊢
    unfold pcN at ih ⊢
    rw [nodU_succ, List.filter_append, List.length_append, ih, List.range_succ, List.countP_append]
    congr 1
    rw [List.filter_cons, hasB_bit hS (by omega)]
    cases hb : S.testBit n <;> simp [hb]
theorem uni_sat {d n k S : Nat} (hn : n ≤ 10) (hS : S < 1024) : satB (d + 1) (uniT n k) (S : Int) = decide (k ≤ pcN n S) := by
  unfold satB uniT
  rw [setB_iff.2 ⟨by omega, by omega⟩, Bool.true_and]
  show decide ((k : Int) ≤ ((cnt (hasB (S : Int)) (nodU n) + cnt (holdsT d (hasB (S : Int))) [] : Nat) : Int)) = _
  rw [uni_cnt S hS n hn]
  have : cnt (holdsT d (hasB (S : Int))) [] = 0 := rfl
  rw [this, Nat.add_zero]
  apply Bool.eq_iff_iff.2
  simp
theorem uni_closed {d n k S : Nat} (hn : n ≤ 10) (hS : S < 2 ^ n) (h0 : S ≠ 0) : Closed (d + 1) (uniM n k n) S ↔ k ≤ pcN n S := by
  have h10 : 2 ^ n ≤ 2 ^ 10 := Nat.pow_le_pow_right (by omega) hn
  have hS10 : S < 1024 := by omega
  constructor
  · intro h
    obtain ⟨j, hj⟩ : ∃ j, S.testBit j = true := Classical.byContradiction (fun hc => h0 (Nat.eq_of_testBit_eq (fun i => by
      rw [Nat.zero_testBit]
      cases hb : S.testBit i
      · rfl
      · exact (hc ⟨i, hb⟩).elim)))
    have hjn : j < n := by
      rcases Nat.lt_or_ge j n with h1 | h1
      · exact h1
      · rw [Nat.testBit_lt_two_pow (Nat.lt_of_lt_of_le hS (Nat.pow_le_pow_right (by omega) h1))] at hj; cases hj
    have h1 := h j (by rw [uniM_len]; exact hjn)
    unfold uns at h1
    rw [hasB_bit hS10 (by omega), hj, uni_tr hjn, uni_sat hn hS10] at h1
    simpa using h1
  · intro h j hj
    rw [uniM_len] at hj
    unfold uns
    rw [uni_tr hj, uni_sat hn hS10, decide_eq_true h]
    simp
theorem nodU_mem {n : Nat} {x : Int} (h : x ∈ nodU n) : 0 ≤ x ∧ x < (n : Int) := by
  unfold nodU at h
  obtain ⟨i, hi, rfl⟩ := List.mem_map.1 h
  have := List.mem_range.1 hi
  omega
theorem nodU_nodup : ∀ n, (nodU n).Nodup
  | 0 => List.nodup_nil
  | n + 1 => by
    rw [nodU_succ, List.nodup_append]
    refine ⟨nodU_nodup n, by simp, fun a ha b hb => ?_⟩
    rw [List.mem_singleton] at hb
    have := nodU_mem ha
    omega
theorem uni_ok {n k : Nat} (hn : n ≤ 10) (hk : 1 ≤ k) (hkn : k ≤ n) : MemsOk (uniM n k n).length (uniM n k n) := by
  intro x hx
  rw [uniM_len]
  obtain rfl : x = (true, uniT n k) := List.eq_of_mem_replicate hx
  refine ⟨fun _ => ?_, fun h => by cases h⟩
  refine ⟨by omega, ?_, by rw [nodU_len]; exact hn, by simp, fun x hx => nodU_mem hx, nodU_nodup n, fun T hT => by cases hT⟩
  rw [nodU_len]
  simp; omega
end Go.Proofs.Ytoaekbhbbejgmaa
