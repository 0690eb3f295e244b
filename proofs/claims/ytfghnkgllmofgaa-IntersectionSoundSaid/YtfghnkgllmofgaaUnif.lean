/- Configurations in which n nodes all trust in k of them. -/
import Derived.Test.YtfghnkgllmofgaaTrace
namespace Go.Proofs.Ytfghnkgllmofgaa
set_option linter.unusedVariables false
set_option linter.unusedSimpArgs false
open Go.RowKit

def nodU (n : Nat) : List Int := (List.range n).map (fun (i : Nat) => (i : Int))

theorem nodU_succ (n : Nat) : nodU (n + 1) = nodU n ++ [(n : Int)] := by unfold nodU; rw [List.range_succ, List.map_append]; rfl

theorem nodU_len (n : Nat) : (nodU n).length = n := by unfold nodU; simp

def uniT (n k : Nat) : Tree := .mk (k : Int) (nodU n) []

def uniM (n k j : Nat) : List Mem := List.replicate j (true, uniT n k)

theorem uniM_succ (n k j : Nat) : uniM n k (j + 1) = uniM n k j ++ [(true, uniT n k)] := List.replicate_succ'

theorem uniM_len (n k j : Nat) : (uniM n k j).length = j := List.length_replicate

/-- How many of the first n bits are on. -/
def pcN (n S : Nat) : Nat := (List.range n).countP (fun j => S.testBit j)

theorem uni_decl (n k m : Nat) : ∀ j, j ≤ m → declS (uniM n k m) j = 2 ^ j - 1
  | 0, _ => rfl
  | j + 1, h => by
    have ih := uni_decl n k m j (by omega)
    have hg : (uniM n k m).getD j (false, .mk 0 [] []) = (true, uniT n k) := by
      rw [List.getD_eq_getElem?_getD]
      have : (uniM n k m)[j]? = some (true, uniT n k) := by unfold uniM; rw [List.getElem?_replicate, if_pos (by omega)]
      rw [this]; rfl
    show (if ((uniM n k m).getD j (false, .mk 0 [] [])).1 then declS (uniM n k m) j ||| 2 ^ j else declS (uniM n k m) j) = _
    rw [hg, if_pos rfl, ih]
    apply Nat.eq_of_testBit_eq
    intro i
    rw [Nat.testBit_or, Nat.testBit_two_pow_sub_one, Nat.testBit_two_pow, Nat.testBit_two_pow_sub_one]
    by_cases h1 : i < j
    · rw [decide_eq_true h1, decide_eq_true (show i < j + 1 by omega)]; rfl
    · by_cases h2 : j = i
      · rw [decide_eq_false h1, decide_eq_true h2, decide_eq_true (show i < j + 1 by omega)]; rfl
      · rw [decide_eq_false h1, decide_eq_false h2, decide_eq_false (show ¬ i < j + 1 by omega)]; rfl

theorem uni_tr {n k j : Nat} (h : j < n) : trOf (uniM n k n) j = uniT n k := by
  unfold trOf
  rw [List.getD_eq_getElem?_getD]
  have : (uniM n k n)[j]? = some (true, uniT n k) := by unfold uniM; rw [List.getElem?_replicate, if_pos h]
  rw [this]; rfl

theorem uni_cnt (S : Nat) (hS : S < 1024) : ∀ n, n ≤ 10 → cnt (hasB (S : Int)) (nodU n) = pcN n S
  | 0, _ => rfl
  | n + 1, h => by
    have ih := uni_cnt S hS n (by omega)
    unfold cnt at ih ⊢
    unfold pcN at ih ⊢
    rw [nodU_succ, List.filter_append, List.length_append, ih, List.range_succ, List.countP_append]
    congr 1
    rw [List.filter_cons, hasB_bit hS (by omega)]
    cases hb : S.testBit n <;> simp [hb]

theorem uni_sat {d n k S : Nat} (hn : n ≤ 10) (hS : S < 1024) : satB (d + 1) (uniT n k) (S : Int) = decide (k ≤ pcN n S) := by
  unfold satB uniT
  rw [setB_iff.2 ⟨by omega, by omega⟩, Bool.true_and]
  show decide ((k : Int) ≤ ((cnt (hasB (S : Int)) (nodU n) + cnt (holdsT d (hasB (S : Int))) [] : Nat) : Int)) = _
  rw [uni_cnt S hS n hn]
  have : cnt (holdsT d (hasB (S : Int))) [] = 0 := rfl
  rw [this, Nat.add_zero]
  apply Bool.eq_iff_iff.2
  simp

theorem uni_closed {d n k S : Nat} (hn : n ≤ 10) (hS : S < 2 ^ n) (h0 : S ≠ 0) : Closed (d + 1) (uniM n k n) S ↔ k ≤ pcN n S := by
  have h10 : 2 ^ n ≤ 2 ^ 10 := Nat.pow_le_pow_right (by omega) hn
  have hS10 : S < 1024 := by omega
  constructor
  · intro h
    obtain ⟨j, hj⟩ : ∃ j, S.testBit j = true := Classical.byContradiction (fun hc => h0 (Nat.eq_of_testBit_eq (fun i => by
      rw [Nat.zero_testBit]
      cases hb : S.testBit i
      · rfl
      · exact (hc ⟨i, hb⟩).elim)))
    have hjn : j < n := by
      rcases Nat.lt_or_ge j n with h1 | h1
      · exact h1
      · rw [Nat.testBit_lt_two_pow (Nat.lt_of_lt_of_le hS (Nat.pow_le_pow_right (by omega) h1))] at hj; cases hj
    have h1 := h j (by rw [uniM_len]; exact hjn)
    unfold uns at h1
    rw [hasB_bit hS10 (by omega), hj, uni_tr hjn, uni_sat hn hS10] at h1
    simpa using h1
  · intro h j hj
    rw [uniM_len] at hj
    unfold uns
    rw [uni_tr hj, uni_sat hn hS10, decide_eq_true h]
    simp

theorem pcN_out (n t : Nat) : pcN n (outS n t) + pcN n t = n := by
  have h1 : pcN n (outS n t) = (List.range n).countP (fun j => !t.testBit j) := by
    unfold pcN
    refine List.countP_congr (fun j hj => ?_)
    rw [outS_bit, decide_eq_true (List.mem_range.1 hj)]
    simp
  have h2 := List.length_eq_countP_add_countP (fun j => t.testBit j) (l := List.range n)
  rw [List.length_range] at h2
  rw [h1]
  unfold pcN
  have h3 : (List.range n).countP (fun j => !t.testBit j) = (List.range n).countP (fun j => decide ¬ t.testBit j = true) := List.countP_congr (fun j _ => by simp)
  omega

theorem pcN_sub {n a b : Nat} (h : Sub a b) : pcN n a ≤ pcN n b := List.countP_mono_left (fun j _ hj => h j hj)

theorem pcN_low (k : Nat) : ∀ n, k ≤ n → pcN n (2 ^ k - 1) = k
  | 0, h => by obtain rfl : k = 0 := by omega
               rfl
  | n + 1, h => by
    unfold pcN
    rw [List.range_succ, List.countP_append]
    rcases Nat.lt_or_ge k (n + 1) with h1 | h1
    · have ih := pcN_low k n (by omega)
      unfold pcN at ih
      rw [ih]
      simp [Nat.testBit_two_pow_sub_one]
      omega
    · obtain rfl : k = n + 1 := by omega
      have h2 : (List.range n).countP (fun j => (2 ^ (n + 1) - 1).testBit j) = n := by
        have : (List.range n).countP (fun j => (2 ^ (n + 1) - 1).testBit j) = (List.range n).length := by
          rw [List.countP_eq_length]
          intro j hj
          rw [Nat.testBit_two_pow_sub_one, decide_eq_true (by have := List.mem_range.1 hj; omega)]
        rw [this, List.length_range]
      rw [h2]
      simp [Nat.testBit_two_pow_sub_one]

/-- Two disjoint quorums there are exactly if k is at most half of n. -/
theorem uni_apart {d n k : Nat} (hn : n ≤ 10) (hk : 1 ≤ k) (hkn : k ≤ n) : (∃ t, t < 2 ^ n ∧ Apart (d + 1) (uniM n k n) t) ↔ 2 * k ≤ n := by
  have hD : declS (uniM n k n) (uniM n k n).length = 2 ^ n - 1 := by rw [uniM_len]; exact uni_decl n k n n (Nat.le_refl _)
  have hp1 : 1 ≤ 2 ^ n := Nat.one_le_pow _ _ (by omega)
  have ltn : ∀ {q : Nat}, Sub q (2 ^ n - 1) → q < 2 ^ n := fun {q} h => Nat.lt_pow_two_of_testBit _ (fun i hi => by
    cases hb : q.testBit i
    · rfl
    · have := h i hb
      rw [Nat.testBit_two_pow_sub_one, decide_eq_false (by omega)] at this
      cases this)
  constructor
  · rintro ⟨t, ht, ⟨h0, _, hc⟩, q, hq, hq0, hqs, hqc⟩
    rw [hD, uniM_len] at hqs
    have h1 := (uni_closed hn ht h0).1 hc
    have h2 := (uni_closed hn (ltn (fun j hj => (sub_and.1 hqs).2 j hj)) hq0).1 hqc
    have h3 := pcN_sub (n := n) (sub_and.1 hqs).1
    have h4 := pcN_out n t
    omega
  · intro h
    have hk2 : 2 ^ k ≤ 2 ^ n := Nat.pow_le_pow_right (by omega) hkn
    have hk1 : 2 ≤ 2 ^ k := Nat.pow_le_pow_right (n := 2) (by omega) hk
    have ht : 2 ^ k - 1 < 2 ^ n := by omega
    have hpt := pcN_low k n hkn
    have hpo := pcN_out n (2 ^ k - 1)
    have hol : outS n (2 ^ k - 1) < 2 ^ n := ltn (fun j hj => by
      rw [outS_bit, Bool.and_eq_true] at hj
      rw [Nat.testBit_two_pow_sub_one]; exact hj.1)
    have ho0 : outS n (2 ^ k - 1) ≠ 0 := fun e => by
      rw [e] at hpo
      have : pcN n 0 = 0 := by unfold pcN; rw [List.countP_eq_zero]; simp
      omega
    have h10 : 2 ^ n ≤ 2 ^ 10 := Nat.pow_le_pow_right (by omega) hn
    refine ⟨2 ^ k - 1, ht, ⟨by omega, ?_, (uni_closed hn ht (by omega)).2 (by omega)⟩, outS n (2 ^ k - 1), by omega, ho0, ?_, (uni_closed hn hol ho0).2 (by omega)⟩
    · rw [hD]
      intro j hj
      rw [Nat.testBit_two_pow_sub_one, decide_eq_true_eq] at hj ⊢
      omega
    · rw [hD, uniM_len]
      intro j hj
      rw [Nat.testBit_and, hj, Bool.true_and, Nat.testBit_two_pow_sub_one]
      rw [outS_bit, Bool.and_eq_true] at hj
      exact hj.1

theorem nodU_mem {n : Nat} {x : Int} (h : x ∈ nodU n) : 0 ≤ x ∧ x < (n : Int) := by
  unfold nodU at h
  obtain ⟨i, hi, rfl⟩ := List.mem_map.1 h
  have := List.mem_range.1 hi
  omega

theorem nodU_nodup : ∀ n, (nodU n).Nodup
  | 0 => List.nodup_nil
  | n + 1 => by
    rw [nodU_succ, List.nodup_append]
    refine ⟨nodU_nodup n, by simp, fun a ha b hb => ?_⟩
    rw [List.mem_singleton] at hb
    have := nodU_mem ha
    omega

theorem uni_ok {n k : Nat} (hn : n ≤ 10) (hk : 1 ≤ k) (hkn : k ≤ n) : MemsOk (uniM n k n).length (uniM n k n) := by
  intro x hx
  rw [uniM_len]
  obtain rfl : x = (true, uniT n k) := List.eq_of_mem_replicate hx
  refine ⟨fun _ => ?_, fun h => by cases h⟩
  refine ⟨by omega, ?_, by rw [nodU_len]; exact hn, by simp, fun x hx => nodU_mem hx, nodU_nodup n, fun T hT => by cases hT⟩
  rw [nodU_len]
  simp; omega

theorem uni31_1 {d : Nat} : Apart (d + 1) (uniM 3 1 3) 1 := by
  have hD : declS (uniM 3 1 3) (uniM 3 1 3).length = 7 := by decide
  refine ⟨⟨by omega, by rw [hD]; exact sub_iff.1 (by decide), (uni_closed (by omega) (by omega) (by omega)).2 (by decide)⟩, 6, by omega, by omega, ?_, (uni_closed (by omega) (by omega) (by omega)).2 (by decide)⟩
  rw [hD, uniM_len]
  exact sub_iff.1 (by decide)

theorem uni31_b {d G : Nat} (h : IsGr (d + 1) (uniM 3 1 3) (outS (uniM 3 1 3).length 1 &&& declS (uniM 3 1 3) (uniM 3 1 3).length) G) : G = 6 := by
  have hD : declS (uniM 3 1 3) (uniM 3 1 3).length = 7 := by decide
  rw [hD, uniM_len, show outS 3 1 &&& 7 = 6 by decide] at h
  exact sub_antisymm h.sub (h.most 6 (by omega) (fun _ h => h) ((uni_closed (by omega) (by omega) (by omega)).2 (by decide)))

theorem ord3 : (ordN 3)[0]? = some 0 ∧ (ordN 3)[1]? = some 1 := by decide +kernel

end Go.Proofs.Ytfghnkgllmofgaa
