/- Minimal quorums: the mathematics of QuorumsMinimal. -/
import Derived.Test.YtoaekbhbbejgmaaQAll
import Derived.Test.YtoaekbhbbejgmaaOrdersMath
namespace Go.Proofs.Ytoaekbhbbejgmaa
set_option linter.unusedVariables false
set_option linter.unusedSimpArgs false
open Go.RowKit

theorem measQ (i N : Nat) (h : i < N) : N - (intOf (Value.int .i64 ((i : Int) + 1))).toNat < N - (intOf (Value.int .i64 (i : Int))).toNat := by simp [intOf]; omega
theorem numQ (i : Nat) : Value.int .i64 ((i : Int) + 1) = Value.int .i64 ((i + 1 : Nat) : Int) := rfl
theorem beqQ (p k : Nat) (h : p ≠ k) : ((p : Int) == (k : Int)) = false := by rw [beq_eq_false_iff_ne]; omega
theorem pz_all {ms : List Mem} (hl : ms.length ≤ 10) (t : Nat) : pz (zs (allQ 2 ms)) t = true ↔ t < 2 ^ ms.length ∧ qB 2 ms t = true := by
  have h10 : 2 ^ ms.length ≤ 2 ^ 10 := Nat.pow_le_pow_right (by omega) hl
  rw [pz_iff]
  unfold zs
  rw [List.mem_map]
  constructor
  · rintro ⟨_, x, hx, e⟩
    obtain rfl := Int.ofNat.inj e
    exact (allQ_mem 2 ms x).1 hx
  · rintro ⟨h1, h2⟩
    exact ⟨by omega, t, (allQ_mem 2 ms t).2 ⟨h1, h2⟩, rfl⟩
structure MinQ (ms : List Mem) (l : List Nat) : Prop where
  len : l.length ≤ 1024
  lt : ∀ t ∈ l, t < 1024
  quo : ∀ t ∈ l, t ≠ 0 ∧ Sub t (declS ms ms.length) ∧ Closed 2 ms t
  apart : ∀ i k x y : Nat, l[i]? = some x → l[k]? = some y → i ≠ k → x &&& y ≠ x
  meets : ∀ X G : Nat, IsGr 2 ms (X &&& declS ms ms.length) G → G < 1024 → (l.any (fun y => y &&& X == y) = true ↔ G ≠ 0)
theorem sub_subB {a b : Nat} (h : Sub a b) : subB a b = true := by
  rw [subB_iff]
  apply Nat.eq_of_testBit_eq
  intro k
  rw [Nat.testBit_and]
  cases ha : a.testBit k
  · rfl
  · rw [h k ha]; rfl
theorem subB_sub {a b : Nat} (h : subB a b = true) : Sub a b := fun k hk => subB_bit h hk
theorem declS_lt2 (ms : List Mem) (t : Nat) (h : Sub t (declS ms ms.length)) : t < 2 ^ ms.length := by
  apply Nat.lt_pow_two_of_testBit
  intro i hi
  cases hb : t.testBit i
  · rfl
  · have := declS_bit (h i hb); omega
theorem minQ {ms : List Mem} (hl : ms.length ≤ 10) {l : List Nat} (h : IsLeast (pz (zs (allQ 2 ms))) l) : MinQ ms l where
  len := h.2.2
  lt t ht := ((h.2.1 t).1 ht).1
  quo t ht := (qB_iff 2 ms t).1 (((pz_all hl t).1 ((h.2.1 t).1 ht).2.1).2)
  apart i k x y hx hy hik := fun e => by
    have h1 := (h.2.1 x).1 (List.mem_of_getElem? hx)
    have h2 := (h.2.1 y).1 (List.mem_of_getElem? hy)
    have h3 := h2.2.2 x h1.2.1 (subB_iff.2 e)
    subst h3
    obtain ⟨a1, a2⟩ := List.getElem?_eq_some_iff.1 hx
    obtain ⟨b1, b2⟩ := List.getElem?_eq_some_iff.1 hy
    have hnd := asc_nodup h.1
    rcases Nat.lt_trichotomy i k with hik2 | hik2 | hik2
    · exact List.pairwise_iff_getElem.1 (List.nodup_iff_pairwise_ne.1 hnd) i k a1 b1 hik2 (a2.trans b2.symm)
    · exact hik hik2
    · exact List.pairwise_iff_getElem.1 (List.nodup_iff_pairwise_ne.1 hnd) k i b1 a1 hik2 (b2.trans a2.symm)
  meets X G hG hG1 := by
    rw [List.any_eq_true]
    constructor
    · rintro ⟨y, hy, hyX⟩
      have hyX : y &&& X = y := by simpa using hyX
      obtain ⟨q1, q2, q3⟩ := (qB_iff 2 ms y).1 (((pz_all hl y).1 ((h.2.1 y).1 hy).2.1).2)
      have hylt := ((h.2.1 y).1 hy).1
      have hsub : Sub y (X &&& declS ms ms.length) := fun k hk => by
        rw [Nat.testBit_and, subB_sub (subB_iff.2 hyX) k hk, q2 k hk]; rfl
      have hyG := hG.most y hylt hsub q3
      rintro rfl
      exact q1 (Nat.eq_of_testBit_eq (fun i => by
        rw [Nat.zero_testBit]
        cases hb : y.testBit i
        · rfl
        · have := hyG i hb; simp at this))
    · intro hne
      have hGD : Sub G (declS ms ms.length) := fun k hk => by
        have := hG.sub k hk
        rw [Nat.testBit_and, Bool.and_eq_true] at this
        exact this.2
      have hGX : subB G X = true := sub_subB (fun k hk => by
        have := hG.sub k hk
        rw [Nat.testBit_and, Bool.and_eq_true] at this
        exact this.1)
      have hp : pz (zs (allQ 2 ms)) G = true := (pz_all hl G).2 ⟨declS_lt2 ms G hGD, (qB_iff 2 ms G).2 ⟨hne, hGD, hG.closed⟩⟩
      obtain ⟨y, y1, y2, y3⟩ := least_below (p := pz (zs (allQ 2 ms))) G G (Nat.le_refl _) hp
      exact ⟨y, (h.2.1 y).2 ⟨pz_lt y1, y1, y3⟩, by simpa using subB_iff.1 (subB_trans y2 hGX)⟩
end Go.Proofs.Ytoaekbhbbejgmaa
