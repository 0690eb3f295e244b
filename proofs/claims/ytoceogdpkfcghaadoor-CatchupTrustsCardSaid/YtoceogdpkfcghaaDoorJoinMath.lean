/- Plain facts on joining. -/
import Derived.Test.YtoceogdpkfcghaaDoorJoin
namespace Go.Proofs.YtoceogdpkfcghaaDoor
set_option linter.unusedVariables false
set_option linter.unusedSimpArgs false
open Go.RowKit

/-- What holds of the prepared ballot, the prime and all that was joined. -/
def InvJ (c : Int) (i : Nat) (d : Int) (j : Nat) (L : List (Int × Nat)) : Prop :=
  ((c = 0 ∧ i = 0 ∧ d = 0 ∧ j = 0 ∧ L = []) ∨
   (1 ≤ c ∧ c ≤ 6 ∧ 1 ≤ i ∧ i ≤ 4 ∧ ((d = 0 ∧ j = 0) ∨ (1 ≤ d ∧ d ≤ 6 ∧ 1 ≤ j ∧ j ≤ 4 ∧ lessB d j c i = true ∧ j ≠ i)) ∧ L ≠ [])) ∧
  ∀ x ∈ L, 1 ≤ x.1 ∧ x.1 ≤ 6 ∧ 1 ≤ x.2 ∧ x.2 ≤ 4 ∧ prepB c i d j x.1 x.2 = true

theorem prepB_iff {c d f : Int} {i j k : Nat} : prepB c i d j f k = true ↔ (¬(c = 0 ∧ i = 0) ∧ i = k ∧ f ≤ c) ∨ (¬(d = 0 ∧ j = 0) ∧ j = k ∧ f ≤ d) ∨ (¬(d = 0 ∧ j = 0) ∧ (f < d ∨ (f = d ∧ k < j))) := by
  unfold prepB covB zeroB lessB
  simp only [Bool.or_eq_true, Bool.and_eq_true, Bool.not_eq_true', decide_eq_true_eq, Bool.and_eq_false_iff, decide_eq_false_iff_not]
  omega

theorem lessJ_iff {c d : Int} {i j : Nat} : lessB c i d j = true ↔ c < d ∨ (c = d ∧ i < j) := by unfold lessB; simp

theorem zeroJ_iff {c : Int} {i : Nat} : zeroB c i = true ↔ c = 0 ∧ i = 0 := by unfold zeroB; simp

set_option maxHeartbeats 8000000 in
theorem inv_step {c d f : Int} {i j k : Nat} {L : List (Int × Nat)} (h : InvJ c i d j L) (f0 : 1 ≤ f) (f1 : f ≤ 6) (k0 : 1 ≤ k) (k1 : k ≤ 4) :
    ∃ c' i' d' j', joinB c i d j f k = ((c', i'), (d', j')) ∧ InvJ c' i' d' j' (L ++ [(f, k)]) ∧ 1 ≤ c' ∧ 1 ≤ i' := by
  obtain ⟨h1, h2⟩ := h
  have key : ∀ c' i' d' j', joinB c i d j f k = ((c', i'), (d', j')) → 1 ≤ c' ∧ c' ≤ 6 ∧ 1 ≤ i' ∧ i' ≤ 4 ∧ ((d' = 0 ∧ j' = 0) ∨ (1 ≤ d' ∧ d' ≤ 6 ∧ 1 ≤ j' ∧ j' ≤ 4 ∧ lessB d' j' c' i' = true ∧ j' ≠ i')) ∧ prepB c' i' d' j' f k = true ∧ ∀ x : Int, ∀ y : Nat, 1 ≤ x → x ≤ 6 → 1 ≤ y → y ≤ 4 → prepB c i d j x y = true → prepB c' i' d' j' x y = true := by
    intro c' i' d' j' hJ
    unfold joinB at hJ
    simp only [Bool.and_eq_true, Bool.or_eq_true, Bool.not_eq_true', decide_eq_true_eq, decide_eq_false_iff_not, lessJ_iff, zeroJ_iff] at hJ
    simp only [prepB_iff, lessJ_iff]
    have h1' : (c = 0 ∧ i = 0 ∧ d = 0 ∧ j = 0) ∨ (1 ≤ c ∧ c ≤ 6 ∧ 1 ≤ i ∧ i ≤ 4 ∧ ((d = 0 ∧ j = 0) ∨ (1 ≤ d ∧ d ≤ 6 ∧ 1 ≤ j ∧ j ≤ 4 ∧ (d < c ∨ (d = c ∧ j < i)) ∧ j ≠ i))) := by
      rcases h1 with h | h
      · exact .inl ⟨h.1, h.2.1, h.2.2.1, h.2.2.2.1⟩
      · obtain ⟨a1, a2, a3, a4, a5, _⟩ := h
        rw [lessJ_iff] at a5
        exact .inr ⟨a1, a2, a3, a4, a5⟩
    clear h1 h2
    rcases h1' with h1' | ⟨g1, g2, g3, g4, h1' | h1'⟩
    all_goals repeat' split at hJ
    all_goals
      simp only [Prod.mk.injEq] at hJ
      obtain ⟨⟨rfl, rfl⟩, rfl, rfl⟩ := hJ
      refine ⟨by omega, by omega, by omega, by omega, by omega, by omega, fun x y x0 x1 y0 y1 hp => by omega⟩
  obtain ⟨⟨⟨c', i'⟩, ⟨d', j'⟩⟩, hJ⟩ : ∃ R, joinB c i d j f k = R := ⟨_, rfl⟩
  obtain ⟨a1, a2, a3, a4, a5, a6, a7⟩ := key _ _ _ _ hJ
  refine ⟨c', i', d', j', hJ, ⟨.inr ⟨a1, a2, a3, a4, a5, by simp⟩, fun x hx => ?_⟩, a1, a3⟩
  rcases List.mem_append.1 hx with hx | hx
  · obtain ⟨b1, b2, b3, b4, b5⟩ := h2 x hx
    exact ⟨b1, b2, b3, b4, a7 _ _ b1 b2 b3 b4 b5⟩
  · rw [List.mem_singleton] at hx; subst hx
    exact ⟨f0, f1, k0, k1, a6⟩

theorem InvJ.bd {c d : Int} {i j : Nat} {L : List (Int × Nat)} (h : InvJ c i d j L) : i ≤ 4 ∧ j ≤ 4 ∧ (zeroB d j = true ∨ (zeroB d j = false ∧ lessB d j c i = true ∧ decide (j = i) = false)) := by
  obtain ⟨h1 | ⟨_, _, _, h4, h5, _⟩, _⟩ := h
  · refine ⟨by omega, by omega, .inl (by rw [zeroJ_iff]; omega)⟩
  · rcases h5 with h5 | ⟨d1, d2, j1, j2, hl, hne⟩
    · exact ⟨h4, by omega, .inl (by rw [zeroJ_iff]; omega)⟩
    · exact ⟨h4, j2, .inr ⟨by rw [← Bool.not_eq_true, zeroJ_iff]; omega, hl, by simpa using hne⟩⟩

end Go.Proofs.YtoceogdpkfcghaaDoor
