/- The contract of nodeset.Least. -/
import Derived.Test.YthbiopmfbnpmfaaFind
namespace Go.Proofs.Ythbiopmfbnpmfaa
set_option linter.unusedVariables false
set_option linter.unusedSimpArgs false
open Go.RowKit

/-- The sets below 2^n of which p holds, in order. -/
def IsFind (n : Nat) (p : Nat → Bool) (l : List Nat) : Prop := Asc l ∧ (∀ t, t ∈ l ↔ (t < 2 ^ n ∧ p t = true)) ∧ l.length ≤ 1024

theorem subB_iff {t s : Nat} : subB t s = true ↔ t &&& s = t := by unfold subB; simp

theorem subB_refl (t : Nat) : subB t t = true := subB_iff.2 (Nat.and_self t)

theorem subB_trans {a b c : Nat} (h1 : subB a b = true) (h2 : subB b c = true) : subB a c = true := by
  rw [subB_iff] at *
  rw [← h1, Nat.and_assoc, h2]

theorem subB_bit {t s k : Nat} (h : subB t s = true) (hk : t.testBit k = true) : s.testBit k = true := by
  rw [subB_iff] at h
  rw [← h, Nat.testBit_and, Bool.and_eq_true] at hk
  exact hk.2

theorem subB_le {t s : Nat} (h : subB t s = true) : t ≤ s := by
  rw [subB_iff] at h
  rw [← h]; exact Nat.and_le_right

theorem subB_popc {t s : Nat} (h : subB t s = true) : popc t ≤ popc s := by
  unfold popc
  exact List.countP_mono_left (fun i _ hi => subB_bit h hi)

theorem subB_key {t s : Nat} (h : subB t s = true) (hne : t ≠ s) : keyC t < keyC s := by
  have h1 := subB_popc h
  have h2 := subB_le h
  unfold keyC
  omega

/-- The sets of which p holds and of which no proper subset is such a set, in order. -/
def IsLeast (p : Nat → Bool) (l : List Nat) : Prop := Asc l ∧ (∀ t, t ∈ l ↔ (t < 1024 ∧ p t = true ∧ ∀ y, p y = true → subB y t = true → y = t)) ∧ l.length ≤ 1024

theorem asc_nodup {l : List Nat} (h : Asc l) : l.Nodup := List.nodup_iff_pairwise_ne.2 (h.imp (fun h e => by rw [e] at h; exact Nat.lt_irrefl _ h))

theorem asc_get {l : List Nat} (h : Asc l) {i j : Nat} {a b : Nat} (ha : l[i]? = some a) (hb : l[j]? = some b) (hk : keyC a < keyC b) : i < j := by
  rcases Nat.lt_trichotomy i j with hij | hij | hij
  · exact hij
  · subst hij; rw [ha] at hb; cases hb; omega
  · obtain ⟨h1, h2⟩ := List.getElem?_eq_some_iff.1 ha
    obtain ⟨h3, h4⟩ := List.getElem?_eq_some_iff.1 hb
    have := List.pairwise_iff_getElem.1 h j i h3 h1 hij
    rw [h2, h4] at this
    omega

/-- Two lists in order with the same sets are one. -/
theorem asc_ext : ∀ {l m : List Nat}, Asc l → Asc m → (∀ t, t ∈ l ↔ t ∈ m) → l = m
  | [], [], _, _, _ => rfl
  | [], b :: m, _, _, h => by have := (h b).2 (by simp); cases this
  | a :: l, [], _, _, h => by have := (h a).1 (by simp); cases this
  | a :: l, b :: m, h1, h2, h => by
    obtain ⟨ha, hl⟩ := List.pairwise_cons.1 h1
    obtain ⟨hb, hm⟩ := List.pairwise_cons.1 h2
    have e : a = b := by
      rcases List.mem_cons.1 ((h a).1 (by simp)) with h3 | h3
      · exact h3
      · rcases List.mem_cons.1 ((h b).2 (by simp)) with h4 | h4
        · exact h4.symm
        · have := hb a h3; have := ha b h4; omega
    subst e
    rw [asc_ext hl hm (fun t => by
      have h3 := h t
      rw [List.mem_cons, List.mem_cons] at h3
      constructor
      · intro ht
        rcases h3.1 (.inr ht) with h4 | h4
        · subst h4; have := ha t ht; omega
        · exact h4
      · intro ht
        rcases h3.2 (.inr ht) with h4 | h4
        · subst h4; have := hb t ht; omega
        · exact h4)]

theorem isLeast_ext {p q : Nat → Bool} {l m : List Nat} (h1 : IsLeast p l) (h2 : IsLeast q m) (hpq : ∀ t, t < 1024 → p t = q t) (hp : ∀ t, p t = true → t < 1024) (hq : ∀ t, q t = true → t < 1024) : l = m := by
  have e : p = q := by
    funext t
    rcases Nat.lt_or_ge t 1024 with h | h
    · exact hpq t h
    · cases ha : p t <;> cases hb : q t
      · rfl
      · have := hq t hb; omega
      · have := hp t ha; omega
      · rfl
  subst e
  exact asc_ext h1.1 h2.1 (fun t => by rw [h1.2.1 t, h2.2.1 t])

/-- Below each set of which p holds there is a least one. -/
theorem least_below {p : Nat → Bool} : ∀ (n t : Nat), t ≤ n → p t = true → ∃ y, p y = true ∧ subB y t = true ∧ ∀ z, p z = true → subB z y = true → z = y := by
  intro n
  induction n with
  | zero =>
    intro t ht hp
    obtain rfl : t = 0 := by omega
    exact ⟨0, hp, subB_refl _, fun z _ hz => by have := subB_le hz; omega⟩
  | succ n ih =>
    intro t ht hp
    by_cases h : ∃ z, p z = true ∧ subB z t = true ∧ z ≠ t
    · obtain ⟨z, h1, h2, h3⟩ := h
      have := subB_le h2
      obtain ⟨y, y1, y2, y3⟩ := ih z (by omega) h1
      exact ⟨y, y1, subB_trans y2 h2, y3⟩
    · exact ⟨t, hp, subB_refl _, fun z hz hs => Classical.byContradiction (fun hne => h ⟨z, hz, hs, hne⟩)⟩

/-- One set further. -/
theorem least_step {p : Nat → Bool} {n : Nat} (hn : ∀ t, p t = true → t < 2 ^ n) {L : List Nat} (hL : IsFind n p L) (q : Nat → Bool) (hq : ∀ t, q t = true ↔ (p t = true ∧ ∀ y, p y = true → subB y t = true → y = t)) {k s : Nat} (hk : L[k]? = some s) :
    ((L.take k).filter q).any (fun t => subB t s) = !q s := by
  have hps := ((hL.2.1 s).1 (List.mem_of_getElem? hk)).2
  rw [Bool.eq_iff_iff]
  simp only [Bool.not_eq_true', List.any_eq_true]
  constructor
  · rintro ⟨t, ht, hts⟩
    obtain ⟨ht1, ht2⟩ := List.mem_filter.1 ht
    cases hqs : q s
    · rfl
    · have e := ((hq s).1 hqs).2 t ((hq t).1 ht2).1 hts
      subst e
      obtain ⟨i, hi⟩ := List.mem_iff_getElem?.1 ht1
      have hik : i < k := by
        have := (List.getElem?_eq_some_iff.1 hi).1
        simp at this; omega
      rw [List.getElem?_take_of_lt hik] at hi
      have h2 := List.getElem?_eq_some_iff.1 hi
      have h3 := List.getElem?_eq_some_iff.1 hk
      obtain ⟨h2, e2⟩ := h2
      obtain ⟨h3, e3⟩ := h3
      have := List.pairwise_iff_getElem.1 hL.1 i k h2 h3 hik
      rw [e2, e3] at this
      omega
  · intro hqs
    obtain ⟨y, y1, y2, y3⟩ := least_below (p := p) s s (Nat.le_refl _) hps
    have hne : y ≠ s := by
      rintro rfl
      have := (hq y).2 ⟨hps, fun z hz hs => y3 z hz hs⟩
      rw [hqs] at this; cases this
    have hy : y ∈ L := (hL.2.1 y).2 ⟨hn y y1, y1⟩
    obtain ⟨i, hi⟩ := List.mem_iff_getElem?.1 hy
    have hik := asc_get hL.1 hi hk (subB_key y2 hne)
    refine ⟨y, List.mem_filter.2 ⟨List.mem_iff_getElem?.2 ⟨i, by rw [List.getElem?_take_of_lt hik]; exact hi⟩, (hq y).2 ⟨y1, y3⟩⟩, y2⟩

theorem least_end {p : Nat → Bool} (hn : ∀ t, p t = true → t < 1024) {L : List Nat} (hL : IsFind 10 p L) (q : Nat → Bool) (hq : ∀ t, q t = true ↔ (p t = true ∧ ∀ y, p y = true → subB y t = true → y = t)) : IsLeast p (L.filter q) :=
  ⟨hL.1.filter _, fun t => by
    rw [List.mem_filter, hL.2.1 t, hq t]
    constructor
    · rintro ⟨⟨h1, _⟩, h2, h3⟩; exact ⟨h1, h2, h3⟩
    · rintro ⟨h1, h2, h3⟩; exact ⟨⟨h1, h2⟩, h2, h3⟩, Nat.le_trans (List.length_filter_le _ _) hL.2.2⟩

/-- The sets of a list of ints. -/
def pz (z : List Int) (t : Nat) : Bool := decide (t < 1024) && decide ((t : Int) ∈ z)

theorem pz_iff {z : List Int} {t : Nat} : pz z t = true ↔ t < 1024 ∧ (t : Int) ∈ z := by unfold pz; simp

theorem pz_lt {z : List Int} {t : Nat} (h : pz z t = true) : t < 1024 := (pz_iff.1 h).1

/-- Is it a least one? -/
noncomputable def leB (p : Nat → Bool) (t : Nat) : Bool := @decide (p t = true ∧ ∀ y, p y = true → subB y t = true → y = t) (Classical.propDecidable _)

theorem leB_iff (p : Nat → Bool) (t : Nat) : leB p t = true ↔ (p t = true ∧ ∀ y, p y = true → subB y t = true → y = t) := by unfold leB; exact @decide_eq_true_iff _ (Classical.propDecidable _)

end Go.Proofs.Ythbiopmfbnpmfaa
