/- Configurations whose members all have one trust: their quorums are the sets that satisfy it. -/
import Derived.Test.YtoaekbhbbejgmaaQSym
import Derived.Test.YtoaekbhbbejgmaaSatMath
namespace Go.Proofs.Ytoaekbhbbejgmaa
set_option linter.unusedVariables false
set_option linter.unusedSimpArgs false
open Go.RowKit

def repM (T : Tree) (j : Nat) : List Mem := List.replicate j (true, T)
theorem repM_succ (T : Tree) (j : Nat) : repM T (j + 1) = repM T j ++ [(true, T)] := List.replicate_succ'
theorem repM_len (T : Tree) (j : Nat) : (repM T j).length = j := List.length_replicate
theorem repM_get (T : Tree) {m j : Nat} (h : j < m) : (repM T m).getD j (false, .mk 0 [] []) = (true, T) := by
  rw [List.getD_eq_getElem?_getD]
  have : (repM T m)[j]? = some (true, T) := by unfold repM; rw [List.getElem?_replicate, if_pos h]
  rw [this]; rfl
theorem repM_decl (T : Tree) (m : Nat) : ∀ j, j ≤ m → declS (repM T m) j = 2 ^ j - 1
  | 0, _ => rfl
  | j + 1, h => by
    have ih := repM_decl T m j (by omega)
    have hg := repM_get T (show j < m by omega)
    show (if ((repM T m).getD j (false, .mk 0 [] [])).1 then declS (repM T m) j ||| 2 ^ j else declS (repM T m) j) = _
    rw [hg, if_pos rfl, ih]
    apply Nat.eq_of_testBit_eq
    intro i
    rw [Nat.testBit_or, Nat.testBit_two_pow_sub_one, Nat.testBit_two_pow, Nat.testBit_two_pow_sub_one]
    by_cases h1 : i < j
    · rw [decide_eq_true h1, decide_eq_true (show i < j + 1 by omega)]; rfl
    · by_cases h2 : j = i
      · rw [decide_eq_false h1, decide_eq_true h2, decide_eq_true (show i < j + 1 by omega)]; rfl
      · rw [decide_eq_false h1, decide_eq_false h2, decide_eq_false (show ¬ i < j + 1 by omega)]; rfl
theorem subR_full {n s : Nat} (hs : s < 2 ^ n) : Sub s (2 ^ n - 1) := fun k hk => by
  rw [Nat.testBit_two_pow_sub_one, decide_eq_true_iff]
  rcases Nat.lt_or_ge k n with h1 | h1
  · exact h1
  · rw [Nat.testBit_lt_two_pow (Nat.lt_of_lt_of_le hs (Nat.pow_le_pow_right (by omega) h1))] at hk; cases hk
theorem allQ_rep {m : Int} {d : Nat} {T : Tree} (hW : WF m d T) (n : Nat) (hn : n ≤ 10) : allQ d (repM T n) = (List.range (2 ^ n)).filter (fun s : Nat => satB d T (s : Int)) := by
  unfold allQ
  rw [repM_len]
  refine List.filter_congr (fun s hs => ?_)
  have hs := List.mem_range.1 hs
  have h10 : 2 ^ n ≤ 2 ^ 10 := Nat.pow_le_pow_right (by omega) hn
  rw [Bool.eq_iff_iff, qB_iff, repM_len, repM_decl T n n (Nat.le_refl _)]
  have hu : ∀ k, k < n → uns d (repM T n) s k = (s.testBit k && !satB d T (s : Int)) := fun k hk => by
    unfold uns trOf
    rw [repM_get T hk, hasB_bit (by omega) (by omega)]
  constructor
  · rintro ⟨h0, _, h2⟩
    obtain ⟨k, hk⟩ : ∃ k, s.testBit k = true := Classical.byContradiction (fun hc => h0 (Nat.eq_of_testBit_eq (fun i => by
      rw [Nat.zero_testBit]
      cases hb : s.testBit i
      · rfl
      · exact (hc ⟨i, hb⟩).elim)))
    have hkn : k < n := by
      rcases Nat.lt_or_ge k n with h1 | h1
      · exact h1
      · rw [Nat.testBit_lt_two_pow (Nat.lt_of_lt_of_le hs (Nat.pow_le_pow_right (by omega) h1))] at hk; cases hk
    have h3 := h2 k (by rw [repM_len]; exact hkn)
    rw [hu k hkn, hk] at h3
    simpa using h3
  · intro h
    have h0 : s ≠ 0 := by
      rintro rfl
      have := sat_empty hW
      rw [show ((0 : Nat) : Int) = 0 from rfl, this] at h
      cases h
    refine ⟨h0, subR_full hs, fun k hk => ?_⟩
    rw [repM_len] at hk
    rw [hu k hk, h]; simp
end Go.Proofs.Ytoaekbhbbejgmaa
