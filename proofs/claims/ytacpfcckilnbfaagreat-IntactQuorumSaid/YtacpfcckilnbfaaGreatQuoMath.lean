/- What IntactQuorum asks of the intact members. -/
import Derived.Test.YtacpfcckilnbfaaGreatIntLink
import Derived.Test.YtacpfcckilnbfaaGreatFolMath
import Derived.Test.YtacpfcckilnbfaaGreatDisp6
namespace Go.Proofs.YtacpfcckilnbfaaGreat
set_option linter.unusedVariables false
set_option linter.unusedSimpArgs false
open Go.RowKit

theorem and_out (n a : Nat) : a &&& outS n a = 0 := by
  apply Nat.eq_of_testBit_eq
  intro k
  rw [Nat.testBit_and, outS_bit, Nat.zero_testBit]
  cases a.testBit k <;> simp
theorem or_out {n a : Nat} (h : a < 2 ^ n) : a ||| outS n a = 2 ^ n - 1 := by
  apply Nat.eq_of_testBit_eq
  intro k
  rw [Nat.testBit_or, outS_bit, Nat.testBit_two_pow_sub_one]
  cases ha : a.testBit k
  · simp
  · rw [decide_eq_true (lt_bit h ha)]; rfl
theorem of_ill {ls hs : List Mem} {s a : Nat} (hp : PairM ls hs) (hl : ls.length ≤ 10) (hs2 : s < 2 ^ ls.length) (h : OfIs s ls hs a) : a &&& s = 0 := by
  rcases ofIs_iff hp hl hs2 h with ⟨_, h2⟩ | ⟨h1, L, h2, _, ha⟩
  · rw [h2]; simp
  · apply Nat.eq_of_testBit_eq
    intro k
    rw [Nat.testBit_and, Nat.zero_testBit, ha, outS_bit]
    cases hk : s.testBit k
    · simp
    · rw [bf_ill hs2 h2 k hk]; simp
theorem of_isq {ls hs : List Mem} {s a : Nat} (hp : PairM ls hs) (hl : ls.length ≤ 10) (hs2 : s < 2 ^ ls.length) (h : OfIs s ls hs a) (h0 : a ≠ 0) : IsQ 3 hs a ∧ IsQ 3 ls a := by
  have h1 := of_quorum hp hl hs2 h h0
  have hlh : hs.length ≤ 10 := by rw [hp.len]; exact hl
  exact ⟨(isq_zero hlh h1.1.2.1).2 (by rw [hp.decl]; exact h1.1), (isq_zero hl h1.2.2.1).2 h1.2⟩
theorem of_none {ls hs : List Mem} {s a : Nat} (h : OfIs s ls hs a) (hn : ¬ InT (D3.delM s ls)) : a = 0 := by
  rcases h with ⟨_, h⟩ | ⟨h, _⟩
  · exact h
  · exact absurd h hn
theorem of_least {ls hs : List Mem} {s a : Nat} {L : List Nat} (hp : PairM ls hs) (hl : ls.length ≤ 10) (hs2 : s < 2 ^ ls.length) (h : OfIs s ls hs a) (hi : InT (D3.delM s ls)) (hL : RAllIs s ls hs L) : outS ls.length a ∈ L ∧ ∀ x, x ∈ L → x &&& outS ls.length a = outS ls.length a := by
  have p10 := pow_1024 hl
  rcases ofIs_iff hp hl hs2 h with ⟨h1, _⟩ | ⟨h1, L0, h2, h3, ha⟩
  · exact absurd ((inT_iff hl (by omega) hp.okl).1 hi) h1
  · rw [ha, out_out (bf_lt _ _)]
    have h4 := bf_mem (pairF hp hl) hs2 h1 h2
    refine ⟨(hL.2 _).2 ((h3.2.2 _).1 h4), fun x hx => ?_⟩
    rw [Nat.and_comm]
    exact and_self_sub.2 (bf_sub ((h3.2.2 x).2 ((hL.2 x).1 hx)))
end Go.Proofs.YtacpfcckilnbfaaGreat
