/- What the law NodesetMeets asks of Meeting's list. -/
import Derived.Test.YtbbdmaakphoofaaDoorMeet
import Derived.Test.YtbbdmaakphoofaaDoorRNodes
namespace Go.Proofs.YtbbdmaakphoofaaDoor
set_option linter.unusedVariables false
set_option linter.unusedSimpArgs false
open Go.RowKit

theorem meet_zs {ls : List Nat} {t : Nat} : ((t : Int) ∈ zs ls) ↔ t ∈ ls := by
  unfold zs
  rw [List.mem_map]
  constructor
  · rintro ⟨a, h1, h2⟩
    have : a = t := by omega
    rw [← this]; exact h1
  · intro h; exact ⟨t, h, rfl⟩
theorem meetB_iff {n : Nat} {ls : List Nat} {s : Nat} : meetB n ls s = true ↔ s < 2 ^ n ∧ ∀ t ∈ ls, s &&& t ≠ 0 := by
  unfold meetB
  rw [Bool.and_eq_true, decide_eq_true_iff, Bool.not_eq_true', List.any_eq_false]
  simp
theorem and_ne {a b : Nat} : a &&& b ≠ 0 ↔ ∃ k, a.testBit k = true ∧ b.testBit k = true := by
  constructor
  · intro h
    obtain ⟨k, hk⟩ := Nat.exists_testBit_of_ne_zero h
    rw [Nat.testBit_and, Bool.and_eq_true] at hk
    exact ⟨k, hk⟩
  · rintro ⟨k, h1, h2⟩ h0
    have : (a &&& b).testBit k = true := by rw [Nat.testBit_and, h1, h2]; rfl
    rw [h0] at this
    simp at this
theorem sub_bitsM {t s : Nat} : subB t s = true ↔ ∀ k, t.testBit k = true → s.testBit k = true := by
  constructor
  · exact fun h k hk => subB_bit h hk
  · intro h
    rw [subB_iff]
    apply Nat.eq_of_testBit_eq
    intro k
    rw [Nat.testBit_and]
    cases hk : t.testBit k
    · rfl
    · rw [h k hk]; rfl
theorem subB_anti {a b : Nat} (h1 : subB a b = true) (h2 : subB b a = true) : a = b := Nat.le_antisymm (subB_le h1) (subB_le h2)
theorem bit_lt {t n k : Nat} (ht : t < 2 ^ n) (hk : t.testBit k = true) : k < n := by
  rcases Nat.lt_or_ge k n with h | h
  · exact h
  · have := Nat.testBit_lt_two_pow (Nat.lt_of_lt_of_le ht (Nat.pow_le_pow_right (by omega) h) : t < 2 ^ k)
    rw [this] at hk; cases hk

/-- A set meets all that meets the list exactly if a set of the list is a subset of it. -/
theorem meet_meet {n : Nat} (hn : n ≤ 10) {ls m : List Nat} (hls : ∀ t ∈ ls, t < 2 ^ n) (hm : IsLeast (meetB n ls) m) (t : Nat) :
    meetB n m t = true ↔ t < 2 ^ n ∧ ∃ z ∈ ls, subB z t = true := by
  rw [meetB_iff]
  constructor
  · rintro ⟨ht, h⟩
    refine ⟨ht, ?_⟩
    by_cases hz : ∃ z ∈ ls, subB z t = true
    · exact hz
    · exfalso
      have hc : (2 ^ n - 1) ^^^ (t &&& (2 ^ n - 1)) < 2 ^ n := by
        have h1 : 2 ^ n - 1 < 2 ^ n := by have := Nat.one_le_two_pow (n := n); omega
        exact Nat.xor_lt_two_pow h1 (Nat.and_lt_two_pow _ h1)
      have hbit : ∀ k, ((2 ^ n - 1) ^^^ (t &&& (2 ^ n - 1))).testBit k = (decide (k < n) && !t.testBit k) := fun k => by
        rw [Nat.testBit_xor, Nat.testBit_and, Nat.testBit_two_pow_sub_one]
        cases t.testBit k <;> cases decide (k < n) <;> rfl
      generalize (2 ^ n - 1) ^^^ (t &&& (2 ^ n - 1)) = c at hc hbit
      have hcm : meetB n ls c = true := meetB_iff.2 ⟨hc, fun z hzl => and_ne.2 (by
        by_cases hk : ∃ k, z.testBit k = true ∧ t.testBit k = false
        · obtain ⟨k, h1, h2⟩ := hk
          exact ⟨k, by rw [hbit, h2, decide_eq_true (bit_lt (hls z hzl) h1)]; rfl, h1⟩
        · exfalso
          exact hz ⟨z, hzl, sub_bitsM.2 (fun k hk1 => by
            cases h2 : t.testBit k
            · exact (hk ⟨k, hk1, h2⟩).elim
            · rfl)⟩)⟩
      obtain ⟨y, hy, hs, hmin⟩ := least_below (p := meetB n ls) c c (Nat.le_refl _) hcm
      have hyl : y ∈ m := (hm.2.1 y).2 ⟨by have := (meetB_iff.1 hy).1; have h10 : 2 ^ n ≤ 2 ^ 10 := Nat.pow_le_pow_right (by omega) hn; omega, hy, hmin⟩
      obtain ⟨k, h1, h2⟩ := and_ne.1 (h y hyl)
      have h3 := subB_bit hs h2
      rw [hbit, h1] at h3
      simp at h3
  · rintro ⟨ht, z, hz, hs⟩
    refine ⟨ht, fun x hx => ?_⟩
    obtain ⟨k, h1, h2⟩ := and_ne.1 ((meetB_iff.1 ((hm.2.1 x).1 hx).2.1).2 z hz)
    exact and_ne.2 ⟨k, subB_bit hs h2, h1⟩

/-- The least sets that meet the least meeting sets are the least sets of the list. -/
theorem meet_back {n : Nat} (hn : n ≤ 10) {ls m b l : List Nat} (hls : ∀ t ∈ ls, t < 2 ^ n) (hm : IsLeast (meetB n ls) m) (hb : IsLeast (meetB n m) b) (hl : IsLeast (pz (zs ls)) l) : b = l := by
  have h10 : 2 ^ n ≤ 2 ^ 10 := Nat.pow_le_pow_right (by omega) hn
  have hpz : ∀ t, pz (zs ls) t = true ↔ t ∈ ls := fun t => by
    rw [pz_iff, meet_zs]
    constructor
    · exact fun h => h.2
    · exact fun h => ⟨by have := hls t h; omega, h⟩
  have hmm := meet_meet hn hls hm
  refine asc_ext hb.1 hl.1 (fun t => ?_)
  rw [hb.2.1 t, hl.2.1 t, hpz]
  constructor
  · rintro ⟨h1, h2, h3⟩
    obtain ⟨ht, z, hz, hs⟩ := (hmm t).1 h2
    obtain rfl : z = t := h3 z ((hmm z).2 ⟨hls z hz, z, hz, subB_refl z⟩) hs
    exact ⟨h1, hz, fun y hy hys => h3 y ((hmm y).2 ⟨hls y ((hpz y).1 hy), y, (hpz y).1 hy, subB_refl y⟩) hys⟩
  · rintro ⟨h1, h2, h3⟩
    refine ⟨h1, (hmm t).2 ⟨hls t h2, t, h2, subB_refl t⟩, fun y hy hys => ?_⟩
    obtain ⟨_, z, hz, hs⟩ := (hmm y).1 hy
    obtain rfl : z = t := h3 z ((hpz z).2 hz) (subB_trans hs hys)
    exact subB_anti hys hs

set_option maxRecDepth 100000 in
theorem drop_bit (x k : Nat) (hx : x < 1024) (hk : k < 10) (hb : x.testBit k = true) : IntKind.i64.wrap ((x : Int) - wrap64 (2 ^ k)) = ((x - 2 ^ k : Nat) : Int) ∧ subB (x - 2 ^ k) x = true ∧ x - 2 ^ k < x := by
  have all : ∀ r : Fin 1024, ∀ k : Fin 10, r.val.testBit k.val = true → IntKind.i64.wrap ((r.val : Int) - wrap64 (2 ^ k.val)) = ((r.val - 2 ^ k.val : Nat) : Int) ∧ subB (r.val - 2 ^ k.val) r.val = true ∧ r.val - 2 ^ k.val < r.val := by decide +kernel
  exact all ⟨x, hx⟩ ⟨k, hk⟩ hb

/-- What the law's loop asks of one set of Meeting's list. -/
theorem meets_law {n : Nat} (hn : n ≤ 10) {ls m : List Nat} (hm : IsLeast (meetB n ls) m) :
    (∀ x ∈ m, x < 2 ^ n ∧ x < 1024 ∧ ls.any (fun z => x &&& z == 0) = false ∧ ∀ k, k < 10 → x.testBit k = true → ls.any (fun z => (x - 2 ^ k) &&& z == 0) = true) := by
  intro x hx
  obtain ⟨h1, h2, h3⟩ := (hm.2.1 x).1 hx
  obtain ⟨h4, h5⟩ := meetB_iff.1 h2
  refine ⟨h4, h1, ?_, fun k hk hb => ?_⟩
  · rw [List.any_eq_false]; intro z hz; simpa using h5 z hz
  · obtain ⟨_, hs, hlt⟩ := drop_bit x k h1 hk hb
    cases ha : ls.any (fun z => (x - 2 ^ k) &&& z == 0)
    · exfalso
      rw [List.any_eq_false] at ha
      have := h3 (x - 2 ^ k) (meetB_iff.2 ⟨by omega, fun z hz => by simpa using ha z hz⟩) hs
      omega
    · rfl
end Go.Proofs.YtbbdmaakphoofaaDoor
