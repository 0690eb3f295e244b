/- What slices.least collects are the least sets. -/
import Derived.Test.YthbiopmfbnpmfaaSlCon
namespace Go.Proofs.Ythbiopmfbnpmfaa
set_option linter.unusedVariables false
set_option linter.unusedSimpArgs false
open Go.RowKit

theorem ord_key {i s t : Nat} (hs : (ordN 10)[i]? = some s) (ht : (ordN 10)[i + 1]? = some t) : keyC s < keyC t := by
  have h := ord_step 10 (by omega) i s hs
  have hl := (List.getElem?_eq_some_iff.1 ht).1
  rw [ord_len] at hl
  rcases Nat.lt_or_ge (nextN 10 s) (2 ^ 10) with hn | hn
  · have h2 := h.1 hn
    rw [ht] at h2
    obtain rfl : t = nextN 10 s := by injection h2
    have hs2 : s < 2 ^ 10 := ord_lt 10 (by omega) s (List.mem_of_getElem? hs)
    exact keyN_next 10 (by omega) s hs2 hn
  · have := h.2 hn
    omega

theorem ord_asc2 : ∀ (d i : Nat) (s t : Nat), (ordN 10)[i]? = some s → (ordN 10)[i + d + 1]? = some t → keyC s < keyC t
  | 0, i, s, t, hs, ht => ord_key hs ht
  | d + 1, i, s, t, hs, ht => by
    have hl := (List.getElem?_eq_some_iff.1 ht).1
    have hm : (ordN 10)[i + d + 1]? = some ((ordN 10)[i + d + 1]'(by omega)) := List.getElem?_eq_getElem _
    exact Nat.lt_trans (ord_asc2 d i s _ hs hm) (ord_key (i := i + d + 1) hm ht)

theorem ord_asc : Asc (ordN 10) := by
  unfold Asc
  rw [List.pairwise_iff_getElem]
  intro i j hi hj hij
  exact ord_asc2 (j - i - 1) i _ _ (List.getElem?_eq_getElem hi) (by rw [show i + (j - i - 1) + 1 = j by omega]; exact List.getElem?_eq_getElem hj)

theorem lstep_no {p : Nat → Bool} {s : Nat} (h : p s = false) (l : List Nat) : lstep p l s = l := by unfold lstep; rw [h]; rfl

theorem lfold_filter {p : Nat → Bool} : ∀ (xs l : List Nat), xs.foldl (lstep p) l = (xs.filter p).foldl (lstep p) l
  | [], l => rfl
  | x :: xs, l => by
    cases h : p x
    · rw [List.foldl_cons, lstep_no h, List.filter_cons_of_neg (by simp [h])]
      exact lfold_filter xs l
    · rw [List.foldl_cons, List.filter_cons_of_pos h, List.foldl_cons]
      exact lfold_filter xs _

theorem lfold_least {p : Nat → Bool} (hp : ∀ t, p t = true → t < 1024) : IsLeast p (lfold p (ordN 10)) := by
  obtain ⟨q, hq⟩ : ∃ q : Nat → Bool, ∀ t, q t = true ↔ (p t = true ∧ ∀ y, p y = true → subB y t = true → y = t) := ⟨fun t => @decide (p t = true ∧ ∀ y, p y = true → subB y t = true → y = t) (Classical.propDecidable _), fun t => by rw [@decide_eq_true_iff _ (Classical.propDecidable _)]⟩
  have hL : IsFind 10 p ((ordN 10).filter p) := ⟨ord_asc.filter _, fun t => by
    rw [List.mem_filter]
    exact ⟨fun h => ⟨ord_lt 10 (by omega) t h.1, h.2⟩, fun h => ⟨ord_mem 10 (by omega) t h.1, h.2⟩⟩, Nat.le_trans (List.length_filter_le _ _) (by rw [ord_len]; decide)⟩
  have key : ∀ k, k ≤ ((ordN 10).filter p).length → (((ordN 10).filter p).take k).foldl (lstep p) [] = (((ordN 10).filter p).take k).filter q := by
    intro k
    induction k with
    | zero => intro _; simp
    | succ k ih =>
      intro hk
      have hs : ((ordN 10).filter p)[k]? = some (((ordN 10).filter p)[k]'(by omega)) := List.getElem?_eq_getElem _
      generalize ((ordN 10).filter p)[k]'(by omega) = s at hs
      have h1 := least_step (p := p) (n := 10) hp hL q hq hs
      have hps := ((hL.2.1 s).1 (List.mem_of_getElem? hs)).2
      rw [List.take_add_one, hs, List.foldl_append, ih (by omega), List.filter_append]
      show lstep p _ s = _
      unfold lstep
      rw [h1, hps]
      cases hqs : q s
      · simp [hqs]
      · simp [hqs]
  have e : lfold p (ordN 10) = ((ordN 10).filter p).filter q := by
    unfold lfold
    rw [lfold_filter]
    have := key _ (Nat.le_refl _)
    rwa [List.take_length] at this
  rw [e]
  refine ⟨hL.1.filter _, fun t => ?_, Nat.le_trans (List.length_filter_le _ _) hL.2.2⟩
  rw [List.mem_filter, hL.2.1 t, hq t]
  exact ⟨fun h => ⟨h.1.1, h.2.1, h.2.2⟩, fun h => ⟨⟨h.1, h.2.1⟩, h.2.1, h.2.2⟩⟩

theorem subB_and {t k : Nat} : (t &&& k == t) = subB t k := rfl

theorem sliP_lt {d : Nat} {T : Tree} {t : Nat} (h : sliP d T t = true) : t < 1024 := by
  unfold sliP at h
  rw [Bool.and_eq_true] at h
  exact Nat.lt_of_le_of_lt (subB_le h.1) (usesT_lt d T)

theorem bloP_lt {d : Nat} {T : Tree} {t : Nat} (h : bloP d T t = true) : t < 1024 := by
  unfold bloP at h
  rw [Bool.and_eq_true] at h
  exact Nat.lt_of_le_of_lt (subB_le h.1) (usesT_lt d T)

theorem sub_bitsS {t s : Nat} : subB t s = true ↔ ∀ k, t.testBit k = true → s.testBit k = true := by
  constructor
  · exact fun h k hk => subB_bit h hk
  · intro h
    unfold subB
    rw [beq_iff_eq]
    apply Nat.eq_of_testBit_eq
    intro k
    rw [Nat.testBit_and]
    cases hb : t.testBit k
    · rfl
    · rw [h k hb]; rfl

end Go.Proofs.Ythbiopmfbnpmfaa
