/- What a trust holds: more nodes, all nodes, none; a set and its complement. -/
import Derived.Test.YtnfdacfhhkahhaaAwake02
namespace Go.Proofs.Ytnfdacfhhkahhaa
set_option linter.unusedVariables false
set_option linter.unusedSimpArgs false
open Go.RowKit

theorem cnt_mono {α : Type} {p q : α → Bool} : ∀ (l : List α), (∀ x ∈ l, p x = true → q x = true) → cnt p l ≤ cnt q l
  | [], _ => Nat.le_refl _
  | x :: l, h => by
    have ih := cnt_mono l (fun y hy => h y (List.mem_cons_of_mem _ hy))
    have h1 := h x List.mem_cons_self
    unfold cnt at *
    rw [List.filter_cons, List.filter_cons]
    cases hp : p x
    · cases hq : q x
      · simpa using ih
      · simp; omega
    · rw [h1 hp]; simpa using ih
theorem cnt_all {α : Type} {p : α → Bool} : ∀ (l : List α), (∀ x ∈ l, p x = true) → cnt p l = l.length
  | [], _ => rfl
  | x :: l, h => by
    have ih := cnt_all l (fun y hy => h y (List.mem_cons_of_mem _ hy))
    unfold cnt at *
    rw [List.filter_cons, h x List.mem_cons_self]
    simpa using ih
theorem cnt_none {α : Type} {p : α → Bool} : ∀ (l : List α), (∀ x ∈ l, p x = false) → cnt p l = 0
  | [], _ => rfl
  | x :: l, h => by
    have ih := cnt_none l (fun y hy => h y (List.mem_cons_of_mem _ hy))
    unfold cnt at *
    rw [List.filter_cons, h x List.mem_cons_self]
    simpa using ih

/-- With the same answers for the nodes in range, or more, the trust holds as much. -/
theorem holdsT_mono {n : Int} {p q : Int → Bool} (h : ∀ x, 0 ≤ x → x < n → p x = true → q x = true) : ∀ (d : Nat) (T : Tree), WF n d T → holdsT d p T = true → holdsT d q T = true
  | 0, _, w, _ => w.elim
  | d + 1, .mk thr ns is, w, hh => by
    obtain ⟨_, _, _, _, hr, _, hi⟩ := w
    have h1 : cnt p ns ≤ cnt q ns := cnt_mono ns (fun x hx => h x (hr x hx).1 (hr x hx).2)
    have h2 : cnt (holdsT d p) is ≤ cnt (holdsT d q) is := cnt_mono is (fun T hT => holdsT_mono h d T (hi T hT))
    have h3 : thr ≤ ((cnt p ns + cnt (holdsT d p) is : Nat) : Int) := of_decide_eq_true hh
    exact decide_eq_true (show thr ≤ ((cnt q ns + cnt (holdsT d q) is : Nat) : Int) by omega)
theorem holdsT_all {n : Int} {p : Int → Bool} (h : ∀ x, 0 ≤ x → x < n → p x = true) : ∀ (d : Nat) (T : Tree), WF n d T → holdsT d p T = true
  | 0, _, w => w.elim
  | d + 1, .mk thr ns is, w => by
    obtain ⟨_, ht, _, _, hr, _, hi⟩ := w
    have h1 := cnt_all (p := p) ns (fun x hx => h x (hr x hx).1 (hr x hx).2)
    have h2 := cnt_all (p := holdsT d p) is (fun T hT => holdsT_all h d T (hi T hT))
    exact decide_eq_true (show thr ≤ ((cnt p ns + cnt (holdsT d p) is : Nat) : Int) by omega)
theorem holdsT_none {n : Int} {p : Int → Bool} (h : ∀ x, 0 ≤ x → x < n → p x = false) : ∀ (d : Nat) (T : Tree), WF n d T → holdsT d p T = false
  | 0, _, w => w.elim
  | d + 1, .mk thr ns is, w => by
    obtain ⟨ht, _, _, _, hr, _, hi⟩ := w
    have h1 := cnt_none (p := p) ns (fun x hx => h x (hr x hx).1 (hr x hx).2)
    have h2 := cnt_none (p := holdsT d p) is (fun T hT => holdsT_none h d T (hi T hT))
    exact decide_eq_false (show ¬ thr ≤ ((cnt p ns + cnt (holdsT d p) is : Nat) : Int) by omega)
theorem holdsT_congr {n : Int} {p q : Int → Bool} (h : ∀ x, 0 ≤ x → x < n → p x = q x) (d : Nat) (T : Tree) (w : WF n d T) : holdsT d p T = holdsT d q T := by
  rw [Bool.eq_iff_iff]
  exact ⟨holdsT_mono (fun x h0 h1 hp => by rw [← h x h0 h1]; exact hp) d T w, holdsT_mono (fun x h0 h1 hp => by rw [h x h0 h1]; exact hp) d T w⟩

theorem hasB_nat {S K : Nat} (hS : S < 1024) (hK : K < 10) : hasB (S : Int) (K : Int) = S.testBit K := by
  unfold hasB
  have h1 : setB (S : Int) = true := setB_iff.2 ⟨by omega, by omega⟩
  have h2 : nodeB (K : Int) = true := nodeB_iff.2 ⟨by omega, by omega⟩
  rw [h1, h2]; simp
theorem compl_fact {S K : Nat} (hS : S < 1024) (hK : K < 10) : (1023 - S).testBit K = !S.testBit K := by
  have all : ∀ S : Fin 1024, ∀ K : Fin 10, (1023 - S.val).testBit K.val = !S.val.testBit K.val := by decide +kernel
  exact all ⟨S, hS⟩ ⟨K, hK⟩
theorem hasB_complI {s k : Int} (h0 : 0 ≤ s) (h1 : s < 1024) (k0 : 0 ≤ k) (k1 : k < 10) : hasB (1023 - s) k = !hasB s k := by
  obtain ⟨S, rfl⟩ := Int.eq_ofNat_of_zero_le h0
  obtain ⟨K, rfl⟩ := Int.eq_ofNat_of_zero_le k0
  have e : (1023 : Int) - (S : Int) = ((1023 - S : Nat) : Int) := by omega
  rw [e, hasB_nat (by omega) (by omega), hasB_nat (by omega) (by omega), compl_fact (by omega) (by omega)]
theorem hasB_full {k : Int} (k0 : 0 ≤ k) (k1 : k < 10) : hasB 1023 k = true := by
  have h := hasB_complI (s := 0) (by omega) (by omega) k0 k1
  rw [show (1023 : Int) - 0 = 1023 by omega] at h
  rw [h]
  obtain ⟨K, rfl⟩ := Int.eq_ofNat_of_zero_le k0
  have := hasB_nat (S := 0) (K := K) (by omega) (by omega)
  rw [show ((0 : Nat) : Int) = 0 from rfl] at this
  rw [this]; simp
theorem hasB_empty (k : Int) : hasB 0 k = false := by unfold hasB; simp

section
variable {n : Int} {d : Nat} {T : Tree}
theorem sat_full (hn : n ≤ 10) (w : WF n d T) : satB d T 1023 = true := by
  unfold satB; rw [holdsT_all (fun x h0 h1 => hasB_full h0 (by omega)) d T w]; rfl
theorem sat_empty (w : WF n d T) : satB d T 0 = false := by
  unfold satB; rw [holdsT_none (fun x h0 h1 => hasB_empty x) d T w]; simp
theorem blk_full (w : WF n d T) : blkB d T 1023 = true := by
  unfold blkB; rw [show (1023 : Int) - 1023 = 0 by omega, holdsT_none (fun x h0 h1 => hasB_empty x) d T w]; rfl
theorem blk_empty (hn : n ≤ 10) (w : WF n d T) : blkB d T 0 = false := by
  unfold blkB; rw [show (1023 : Int) - 0 = 1023 by omega, holdsT_all (fun x h0 h1 => hasB_full h0 (by omega)) d T w]; simp
theorem setB_in {s : Int} (h0 : 0 ≤ s) (h1 : s < 1024) : setB s = true := setB_iff.2 ⟨h0, by omega⟩
theorem sat_in {s : Int} (h0 : 0 ≤ s) (h1 : s < 1024) : satB d T s = holdsT d (hasB s) T := by unfold satB; rw [setB_in h0 h1]; rfl
theorem blk_in {s : Int} (h0 : 0 ≤ s) (h1 : s < 1024) : blkB d T s = !holdsT d (hasB (1023 - s)) T := by unfold blkB; rw [setB_in h0 h1]; rfl
theorem sat_blk_compl {s : Int} (h0 : 0 ≤ s) (h1 : s < 1024) : blkB d T (1023 - s) = !satB d T s := by
  rw [blk_in (by omega) (by omega), sat_in h0 h1, show (1023 : Int) - (1023 - s) = s by omega]
theorem meet {a b : Nat} (hn : n ≤ 10) (w : WF n d T) (ha : a < 1024) (hb : b < 1024) (h1 : satB d T (a : Int) = true) (h2 : blkB d T (b : Int) = true) : a &&& b ≠ 0 := by
  intro e
  rw [sat_in (by omega) (by omega)] at h1
  rw [blk_in (by omega) (by omega)] at h2
  have h3 := holdsT_mono (q := hasB (1023 - (b : Int))) (fun x x0 x1 hx => by
    rw [hasB_complI (by omega) (by omega) x0 (by omega)]
    obtain ⟨K, rfl⟩ := Int.eq_ofNat_of_zero_le x0
    rw [hasB_nat (by omega) (by omega)] at hx ⊢
    have := congrArg (fun m => Nat.testBit m K) e
    simp only [Nat.testBit_and, hx, Nat.zero_testBit, Bool.true_and] at this
    rw [this]; rfl) d T w h1
  rw [h3] at h2
  simp at h2
end
end Go.Proofs.Ytnfdacfhhkahhaa
