/- The contracts of eliminate, Greatest, Quorum. -/
import Derived.Test.YthbiopmfbnpmfaaClos
import Derived.Test.YthbiopmfbnpmfaaDual
namespace Go.Proofs.Ythbiopmfbnpmfaa
set_option linter.unusedVariables false
set_option linter.unusedSimpArgs false
open Go.RowKit

theorem sub_and {Q a b : Nat} : Sub Q (a &&& b) ↔ Sub Q a ∧ Sub Q b := by
  unfold Sub
  constructor
  · intro h
    exact ⟨fun k hk => by have := h k hk; rw [Nat.testBit_and, Bool.and_eq_true] at this; exact this.1, fun k hk => by have := h k hk; rw [Nat.testBit_and, Bool.and_eq_true] at this; exact this.2⟩
  · rintro ⟨h1, h2⟩ k hk
    rw [Nat.testBit_and, h1 k hk, h2 k hk]; rfl

/-- What the loop of eliminate keeps. -/
structure ElimAt (d : Nat) (ms : List Mem) (S : Nat) (gs : List Int) (r : Nat) : Prop where
  lt : r < 1024
  len : gs.length + r ≤ 1023
  sub : Sub r S
  elim : ElimR d ms S gs r
  most : ∀ Q, Q < 1024 → Sub Q S → Closed d ms Q → Sub Q r

theorem ElimAt.first {d : Nat} {ms : List Mem} {S : Nat} (h : S < 1024) : ElimAt d ms S [] S := ⟨h, by simp; omega, fun _ h => h, rfl, fun Q _ h _ => h⟩

theorem ElimAt.step {d : Nat} {ms : List Mem} {S : Nat} {gs : List Int} {r k : Nat} (h : ElimAt d ms S gs r) (hl : ms.length ≤ 10) (hk : k < ms.length) (hu : uns d ms r k = true) : r.testBit k = true ∧ ElimAt d ms S (gs ++ [(k : Int)]) (r - 2 ^ k) := by
  have hu' := hu
  unfold uns at hu'
  simp only [Bool.and_eq_true, Bool.not_eq_true'] at hu'
  have hb : r.testBit k = true := by rw [← hasB_bit h.lt (by omega)]; exact hu'.1
  have hp : 1 ≤ 2 ^ k := Nat.one_le_pow _ _ (by omega)
  have hle := bit_le hb
  have hl0 := h.len
  refine ⟨hb, by have := h.lt; omega, by simp; omega, fun j hj => ?_, h.elim.snoc _ _ _ _ hk hu, fun Q hQ hQS hQc => fun j hj => ?_⟩
  · rw [del_bit r k j h.lt (by omega) hb] at hj
    simp only [Bool.and_eq_true] at hj
    exact h.sub j hj.1
  · have h1 := h.most Q hQ hQS hQc
    rw [del_bit r k j h.lt (by omega) hb, h1 j hj]
    by_cases e : j = k
    · subst e
      have hc := hQc j hk
      unfold uns at hc
      rw [hasB_bit hQ (by omega), hj, Bool.true_and, Bool.not_eq_false'] at hc
      rw [sat_sub h.lt h1 hc] at hu'
      simp at hu'
    · simpa using e

theorem ElimAt.gr {d : Nat} {ms : List Mem} {S : Nat} {gs : List Int} {r : Nat} (h : ElimAt d ms S gs r) (hc : Closed d ms r) : IsGr d ms S r := ⟨h.sub, hc, h.most⟩

theorem own_snoc {w : World} {v : Value} {n B : Nat} {gs : List Int} {x : Int} (h : w.ownsRow B 3 1 v n (gs.map (Value.int .i64) ++ [.int .i64 x])) : w.ownsRow B 3 1 v n ((gs ++ [x]).map (Value.int .i64)) := by
  rw [List.map_append]; exact h

theorem nodes_imp {P Q : Nat → Prop} {w : World} {v : Value} {ns : List Int} (h : NodesAt P w v ns) (hq : ∀ k, P k → Q k) : NodesAt Q w v ns := by
  obtain ⟨A, c, h1, h2⟩ := h
  refine ⟨A, c, h1, fun k hk' => ?_⟩
  obtain ⟨b, off, e1, e2, e3⟩ := h2 k hk'
  exact ⟨b, off, e1, hq _ e2, e3⟩

theorem own_bel {W W' : World} {B n e size : Nat} {v : Value} {xs : List Value} (h : W.ownsRow B e size v n xs) (hb : Below W.heap.size W W') : W'.ownsRow B e size v n xs := by
  refine h.kept (row := none) ⟨hb.os, hb.tape, hb.output, hb.size, fun k hk _ => hb.block k hk⟩ ?_
  cases hv : v.ownBlock
  · exact .inl rfl
  · exact .inr (by simp)

/-- What leastUnsatisfied says. -/
def KOk (d : Nat) (ms : List Mem) (s : Nat) (K : Int) : Prop := (∃ k : Nat, K = (k : Int) ∧ k < ms.length ∧ uns d ms s k = true) ∨ (K = -1 ∧ Closed d ms s)

theorem andNot_nat (a b : Nat) (ha : a < 1024) (hb : b < 1024) : bits .andNot .i64 (a : Int) (b : Int) = ((a ^^^ (a &&& b) : Nat) : Int) := by
  have hx : a ^^^ (a &&& b) < 2 ^ 63 := Nat.xor_lt_two_pow (by omega) (Nat.lt_of_le_of_lt Nat.and_le_left (by omega))
  show IntKind.i64.wrap ((BitVec.ofInt 64 (a : Int) &&& ~~~BitVec.ofInt 64 (b : Int)).toNat : Int) = _
  have e : (BitVec.ofInt 64 (a : Int) &&& ~~~BitVec.ofInt 64 (b : Int)).toNat = a ^^^ (a &&& b) := by
    apply Nat.eq_of_testBit_eq
    intro i
    rw [BitVec.toNat_and, BitVec.toNat_not, ofInt_i64 a (by omega), ofInt_i64 b (by omega), Nat.testBit_and, Nat.testBit_xor, Nat.testBit_and]
    have h2 : (2 : Nat) ^ 64 - 1 - b = 2 ^ 64 - (b + 1) := by omega
    rw [h2, Nat.testBit_two_pow_sub_succ (by omega)]
    rcases Nat.lt_or_ge i 64 with hi | hi
    · simp only [hi, decide_true, Bool.true_and]
      cases a.testBit i <;> cases b.testBit i <;> rfl
    · have h10 : (1024 : Nat) ≤ 2 ^ i := Nat.le_trans (by decide) (Nat.pow_le_pow_right (n := 2) (by omega) hi)
      rw [Nat.testBit_lt_two_pow (show a < 2 ^ i by omega)]; rfl
  rw [e, IntKind.wrap_i64]
  omega

theorem sub_iff {a b : Nat} : a ^^^ (a &&& b) = 0 ↔ Sub a b := by
  constructor
  · intro h k hk
    have h1 : (a ^^^ (a &&& b)).testBit k = false := by rw [h]; simp
    rw [Nat.testBit_xor, Nat.testBit_and, hk] at h1
    cases hb : b.testBit k
    · rw [hb] at h1; cases h1
    · rfl
  · intro h
    apply Nat.eq_of_testBit_eq
    intro i
    rw [Nat.testBit_xor, Nat.testBit_and, Nat.zero_testBit]
    cases ha : a.testBit i
    · rfl
    · rw [h i ha]; rfl

end Go.Proofs.Ythbiopmfbnpmfaa
