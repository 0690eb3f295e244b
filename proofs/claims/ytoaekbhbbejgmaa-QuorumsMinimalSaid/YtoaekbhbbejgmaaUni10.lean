/- Uniform configurations: their quorums, the minimal ones, their parts. -/
import Derived.Test.YtoaekbhbbejgmaaSymm
import Derived.Test.YtoaekbhbbejgmaaUni0
namespace Go.Proofs.Ytoaekbhbbejgmaa
set_option linter.unusedVariables false
set_option linter.unusedSimpArgs false
open Go.RowKit

set_option maxRecDepth 100000 in
theorem pcN_popc (n s : Nat) (hn : n ≤ 10) (hs : s < 2 ^ n) : pcN n s = popc s := by
  have all : ∀ n : Fin 11, (List.range (2 ^ n.val)).all (fun s => pcN n.val s == popc s) = true := by decide +kernel
  have := List.all_eq_true.1 (all ⟨n, by omega⟩) s (List.mem_range.2 hs)
  simpa using this
set_option maxRecDepth 100000 in
theorem popc_del (s i : Nat) (hs : s < 1024) (hi : i < 10) (hb : s.testBit i = true) : popc (s - 2 ^ i) + 1 = popc s ∧ subB (s - 2 ^ i) s = true ∧ (s - 2 ^ i).testBit i = false := by
  have all : ∀ s : Fin 1024, ∀ i : Fin 10, s.val.testBit i.val = true → (popc (s.val - 2 ^ i.val) + 1 = popc s.val ∧ subB (s.val - 2 ^ i.val) s.val = true ∧ (s.val - 2 ^ i.val).testBit i.val = false) := by decide +kernel
  exact all ⟨s, hs⟩ ⟨i, hi⟩ hb
set_option maxRecDepth 100000 in
theorem dl_bit (s i j : Nat) (hs : s < 1024) (hi : i < 10) (hj : j < 10) (hb : s.testBit i = true) (hij : j ≠ i) : (s - 2 ^ i).testBit j = s.testBit j := by
  have all : ∀ s : Fin 1024, ∀ i : Fin 10, ∀ j : Fin 10, s.val.testBit i.val = true → j.val ≠ i.val → (s.val - 2 ^ i.val).testBit j.val = s.val.testBit j.val := by decide +kernel
  exact all ⟨s, hs⟩ ⟨i, hi⟩ ⟨j, hj⟩ hb hij
theorem testBit_lt10 {s i : Nat} (hs : s < 1024) (h : s.testBit i = true) : i < 10 := by
  rcases Nat.lt_or_ge i 10 with h1 | h1
  · exact h1
  · have h2 : s < 2 ^ i := Nat.lt_of_lt_of_le hs (Nat.pow_le_pow_right (n := 2) (by omega) h1)
    rw [Nat.testBit_lt_two_pow h2] at h; cases h
theorem subB_of {a b : Nat} (h : ∀ k, a.testBit k = true → b.testBit k = true) : subB a b = true := by
  rw [subB_iff]
  apply Nat.eq_of_testBit_eq
  intro k
  rw [Nat.testBit_and]
  cases ha : a.testBit k
  · rfl
  · rw [h k ha]; rfl
/-- A proper subset has fewer nodes. -/
theorem popc_strict {y s : Nat} (hs : s < 1024) (h : subB y s = true) (hne : y ≠ s) : popc y < popc s := by
  obtain ⟨i, hi1, hi2⟩ : ∃ i, s.testBit i = true ∧ y.testBit i = false := Classical.byContradiction (fun hc => hne (Nat.eq_of_testBit_eq (fun i => by
    cases hy : y.testBit i
    · cases hsb : s.testBit i
      · rfl
      · exact (hc ⟨i, hsb, hy⟩).elim
    · rw [subB_bit h hy])))
  have hi10 := testBit_lt10 hs hi1
  obtain ⟨h1, h2, h3⟩ := popc_del s i hs hi10 hi1
  have hy : subB y (s - 2 ^ i) = true := subB_of (fun k hk => by
    have hsk := subB_bit h hk
    have hk10 := testBit_lt10 hs hsk
    by_cases e : k = i
    · subst e; rw [hi2] at hk; cases hk
    · rw [dl_bit s i k hs hi10 hk10 hi1 e]; exact hsk)
  have := subB_popc hy
  omega
theorem popc_pos {s : Nat} (hs : s < 1024) (h : 0 < popc s) : ∃ i, i < 10 ∧ s.testBit i = true := by
  unfold popc at h
  obtain ⟨i, hi, hb⟩ := List.countP_pos_iff.1 h
  exact ⟨i, List.mem_range.1 hi, hb⟩

/-- The sets of n nodes that have k of them at least. -/
def uniQ (n k : Nat) : List Nat := (List.range (2 ^ n)).filter (fun s => decide (k ≤ popc s))
theorem uniQ_mem {n k t : Nat} : t ∈ uniQ n k ↔ t < 2 ^ n ∧ k ≤ popc t := by unfold uniQ; rw [List.mem_filter, List.mem_range, decide_eq_true_iff]
theorem sub_full {n s : Nat} (hs : s < 2 ^ n) : Sub s (2 ^ n - 1) := fun k hk => by
  rw [Nat.testBit_two_pow_sub_one, decide_eq_true_iff]
  rcases Nat.lt_or_ge k n with h1 | h1
  · exact h1
  · rw [Nat.testBit_lt_two_pow (Nat.lt_of_lt_of_le hs (Nat.pow_le_pow_right (by omega) h1))] at hk; cases hk
theorem allQ_uni (n k : Nat) (hn : n ≤ 10) (hk : 1 ≤ k) : allQ 2 (uniM n k n) = uniQ n k := by
  unfold allQ uniQ
  rw [uniM_len]
  refine List.filter_congr (fun s hs => ?_)
  have hs := List.mem_range.1 hs
  have h10 : 2 ^ n ≤ 2 ^ 10 := Nat.pow_le_pow_right (by omega) hn
  rw [Bool.eq_iff_iff, qB_iff, decide_eq_true_iff, uniM_len, uni_decl n k n n (Nat.le_refl _)]
  have hp := pcN_popc n s hn hs
  constructor
  · rintro ⟨h0, _, h2⟩
    have := (uni_closed (d := 1) (k := k) hn hs h0).1 h2
    omega
  · intro h
    have h0 : s ≠ 0 := by
      rintro rfl
      have : popc 0 = 0 := by decide
      omega
    exact ⟨h0, sub_full hs, (uni_closed (d := 1) (k := k) hn hs h0).2 (by omega)⟩
theorem pz_uni {n k t : Nat} (hn : n ≤ 10) : pz (zs (uniQ n k)) t = true ↔ t < 2 ^ n ∧ k ≤ popc t := by
  have h10 : 2 ^ n ≤ 2 ^ 10 := Nat.pow_le_pow_right (by omega) hn
  rw [pz_iff]
  unfold zs
  rw [List.mem_map]
  constructor
  · rintro ⟨_, x, hx, e⟩
    obtain rfl := Int.ofNat.inj e
    exact uniQ_mem.1 hx
  · rintro ⟨h1, h2⟩
    exact ⟨by omega, t, uniQ_mem.2 ⟨h1, h2⟩, rfl⟩
/-- The minimal ones have just k nodes. -/
theorem least_uni {n k : Nat} (hn : n ≤ 10) {l : List Nat} (h : IsLeast (pz (zs (uniQ n k))) l) (t : Nat) : t ∈ l ↔ t < 2 ^ n ∧ popc t = k := by
  have h10 : 2 ^ n ≤ 2 ^ 10 := Nat.pow_le_pow_right (by omega) hn
  rw [h.2.1 t, pz_uni hn]
  constructor
  · rintro ⟨h1, ⟨h2, h3⟩, h4⟩
    refine ⟨h2, ?_⟩
    rcases Nat.lt_or_ge k (popc t) with h5 | h5
    · obtain ⟨i, hi, hb⟩ := popc_pos h1 (by omega)
      obtain ⟨e1, e2, _⟩ := popc_del t i h1 hi hb
      have hlt : t - 2 ^ i < 2 ^ n := Nat.lt_of_le_of_lt (Nat.sub_le _ _) h2
      have := h4 (t - 2 ^ i) ((pz_uni hn).2 ⟨hlt, by omega⟩) e2
      have hp : 1 ≤ 2 ^ i := Nat.one_le_two_pow
      have ht : t ≠ 0 := by rintro rfl; simp at hb
      omega
    · omega
  · rintro ⟨h1, h2⟩
    refine ⟨by omega, ⟨h1, by omega⟩, fun y hy hs => ?_⟩
    have hy2 := (pz_uni hn).1 hy
    by_cases e : y = t
    · exact e
    · have := popc_strict (show t < 1024 by omega) hs e
      omega
theorem least_uni_len {n k : Nat} (hn : n ≤ 10) {l : List Nat} (h : IsLeast (pz (zs (uniQ n k))) l) : l.length = (List.range (2 ^ n)).countP (fun s => decide (popc s = k)) := by
  rw [List.countP_eq_length_filter]
  refine List.Perm.length_eq ((List.perm_ext_iff_of_nodup (asc_nodup h.1) (List.nodup_iff_pairwise_ne.2 ((List.nodup_iff_pairwise_ne.1 List.nodup_range).filter _))).2 (fun t => ?_))
  rw [least_uni hn h t, List.mem_filter, List.mem_range, decide_eq_true_iff]
theorem uniQ_len (n k : Nat) : (uniQ n k).length = (List.range (2 ^ n)).countP (fun s => decide (k ≤ popc s)) := by unfold uniQ; rw [List.countP_eq_length_filter]

set_option maxRecDepth 100000 in
theorem nodesS_U (n : Nat) (hn : n ≤ 10) : nodesS (nodU n) = 2 ^ n - 1 := by
  have all : ∀ n : Fin 11, nodesS (nodU n.val) = 2 ^ n.val - 1 := by decide +kernel
  exact all ⟨n, by omega⟩
theorem rows_uni (n k : Nat) (hn : n ≤ 10) : rows1 (uniM n k n) (uniM n k n).length = List.replicate n (2 ^ n - 1) := by
  unfold rows1
  rw [uniM_len, List.eq_replicate_iff]
  refine ⟨by simp, fun b hb => ?_⟩
  obtain ⟨j, hj, rfl⟩ := List.mem_map.1 hb
  have hj := List.mem_range.1 hj
  rw [if_pos hj]
  unfold r0S
  have h1 : ((uniM n k n).getD j (false, .mk 0 [] [])).2 = uniT n k := uni_tr hj
  rw [h1, uniM_len, uni_decl n k n n (Nat.le_refl _)]
  have h2 : usesT 2 (uniT n k) = 2 ^ n - 1 := by
    rw [← nodesS_U n hn]; rfl
  rw [h2, Nat.and_self]
set_option maxRecDepth 100000 in
theorem parts_uni (n k : Nat) (hn : n ≤ 8) (h1 : 1 ≤ n) : partsS (reachS (uniM n k n)) (nodL (declS (uniM n k n) (uniM n k n).length) 10) = ([2 ^ n - 1], 2 ^ n - 1) := by
  unfold reachS
  rw [rows_uni n k (by omega), uniM_len, uni_decl n k n n (Nat.le_refl _)]
  have all : ∀ n : Fin 9, 1 ≤ n.val → partsS (wbS n.val (List.replicate n.val (2 ^ n.val - 1)) n.val) (nodL (2 ^ n.val - 1) 10) = ([2 ^ n.val - 1], 2 ^ n.val - 1) := by decide +kernel
  exact all ⟨n, by omega⟩ h1
theorem least32 {l : List Nat} (h : IsLeast (pz (zs (uniQ 3 2))) l) : l = [3, 5, 6] := by
  refine asc_ext h.1 (show Asc [3, 5, 6] by unfold Asc; decide +kernel) (fun t => ?_)
  rw [least_uni (by omega) h t]
  constructor
  · rintro ⟨h1, h2⟩
    have all : ∀ t : Fin 8, popc t.val = 2 → t.val ∈ [3, 5, 6] := by decide +kernel
    exact all ⟨t, h1⟩ h2
  · intro h1
    have all : ∀ t ∈ [3, 5, 6], t < 2 ^ 3 ∧ popc t = 2 := by decide +kernel
    exact all t h1
theorem uniQ32 : (uniQ 3 2).length = 4 := by decide +kernel
end Go.Proofs.Ytoaekbhbbejgmaa
