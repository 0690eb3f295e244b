/- The least sets of a property, found by going through all sets in their order. -/
import Derived.Test.YtnfdacfhhkahhaaB5
namespace Go.Proofs.Ytnfdacfhhkahhaa
set_option linter.unusedVariables false
set_option linter.unusedSimpArgs false
open Go.RowKit

/-- One set more is looked at. -/
def lstep (p : Nat → Bool) (l : List Nat) (s : Nat) : List Nat := if p s && !(l.any (fun t => subB t s)) then l ++ [s] else l

def lfold (p : Nat → Bool) (xs : List Nat) : List Nat := xs.foldl (lstep p) []

theorem lfold_snoc (p : Nat → Bool) (xs : List Nat) (s : Nat) : lfold p (xs ++ [s]) = lstep p (lfold p xs) s := by unfold lfold; rw [List.foldl_append]; rfl

theorem lstep_len (p : Nat → Bool) (l : List Nat) (s : Nat) : (lstep p l s).length ≤ l.length + 1 := by unfold lstep; split <;> simp

theorem lfold_len (p : Nat → Bool) : ∀ (xs l : List Nat), (xs.foldl (lstep p) l).length ≤ l.length + xs.length
  | [], l => by simp
  | x :: xs, l => by
    have h1 := lfold_len p xs (lstep p l x)
    have h2 := lstep_len p l x
    rw [List.foldl_cons, List.length_cons]; omega

theorem lfold_sub (p : Nat → Bool) : ∀ (xs l : List Nat) (t : Nat), t ∈ xs.foldl (lstep p) l → t ∈ l ∨ t ∈ xs
  | [], l, t, h => .inl h
  | x :: xs, l, t, h => by
    rcases lfold_sub p xs (lstep p l x) t h with h1 | h1
    · unfold lstep at h1
      split at h1
      · rcases List.mem_append.1 h1 with h2 | h2
        · exact .inl h2
        · have : t = x := by simpa using h2
          exact .inr (by simp [this])
      · exact .inl h1
    · exact .inr (List.mem_cons_of_mem _ h1)

theorem ord_key {i s t : Nat} (hs : (ordN 10)[i]? = some s) (ht : (ordN 10)[i + 1]? = some t) : keyC s < keyC t := by
  have h := ord_step 10 (by omega) i s hs
  have hl := (List.getElem?_eq_some_iff.1 ht).1
  rw [ord_len] at hl
  rcases Nat.lt_or_ge (nextN 10 s) (2 ^ 10) with hn | hn
  · have h2 := h.1 hn
    rw [ht] at h2
    obtain rfl : t = nextN 10 s := by injection h2
    have hs2 : s < 2 ^ 10 := ord_lt 10 (by omega) s (List.mem_of_getElem? hs)
    exact keyN_next 10 (by omega) s hs2 hn
  · have := h.2 hn
    omega

theorem ord_asc2 : ∀ (d i : Nat) (s t : Nat), (ordN 10)[i]? = some s → (ordN 10)[i + d + 1]? = some t → keyC s < keyC t
  | 0, i, s, t, hs, ht => ord_key hs ht
  | d + 1, i, s, t, hs, ht => by
    have hl := (List.getElem?_eq_some_iff.1 ht).1
    have hm : (ordN 10)[i + d + 1]? = some ((ordN 10)[i + d + 1]'(by omega)) := List.getElem?_eq_getElem _
    exact Nat.lt_trans (ord_asc2 d i s _ hs hm) (ord_key (i := i + d + 1) hm ht)

theorem ord_asc : Asc (ordN 10) := by
  unfold Asc
  rw [List.pairwise_iff_getElem]
  intro i j hi hj hij
  exact ord_asc2 (j - i - 1) i _ _ (List.getElem?_eq_getElem hi) (by rw [show i + (j - i - 1) + 1 = j by omega]; exact List.getElem?_eq_getElem hj)

theorem lstep_no {p : Nat → Bool} {s : Nat} (h : p s = false) (l : List Nat) : lstep p l s = l := by unfold lstep; rw [h]; rfl

theorem lfold_filter {p : Nat → Bool} : ∀ (xs l : List Nat), xs.foldl (lstep p) l = (xs.filter p).foldl (lstep p) l
  | [], l => rfl
  | x :: xs, l => by
    cases h : p x
    · rw [List.foldl_cons, lstep_no h, List.filter_cons_of_neg (by simp [h])]
      exact lfold_filter xs l
    · rw [List.foldl_cons, List.filter_cons_of_pos h, List.foldl_cons]
      exact lfold_filter xs _

theorem lfold_least {p : Nat → Bool} (hp : ∀ t, p t = true → t < 1024) : IsLeast p (lfold p (ordN 10)) := by
  obtain ⟨q, hq⟩ : ∃ q : Nat → Bool, ∀ t, q t = true ↔ (p t = true ∧ ∀ y, p y = true → subB y t = true → y = t) := ⟨fun t => @decide (p t = true ∧ ∀ y, p y = true → subB y t = true → y = t) (Classical.propDecidable _), fun t => by rw [@decide_eq_true_iff _ (Classical.propDecidable _)]⟩
  have hL : IsFind 10 p ((ordN 10).filter p) := ⟨ord_asc.filter _, fun t => by
    rw [List.mem_filter]
    exact ⟨fun h => ⟨ord_lt 10 (by omega) t h.1, h.2⟩, fun h => ⟨ord_mem 10 (by omega) t h.1, h.2⟩⟩, Nat.le_trans (List.length_filter_le _ _) (by rw [ord_len]; decide)⟩
  have key : ∀ k, k ≤ ((ordN 10).filter p).length → (((ordN 10).filter p).take k).foldl (lstep p) [] = (((ordN 10).filter p).take k).filter q := by
    intro k
    induction k with
    | zero => intro _; simp
    | succ k ih =>
      intro hk
      have hs : ((ordN 10).filter p)[k]? = some (((ordN 10).filter p)[k]'(by omega)) := List.getElem?_eq_getElem _
      generalize ((ordN 10).filter p)[k]'(by omega) = s at hs
      have h1 := least_step (p := p) (n := 10) hp hL q hq hs
      have hps := ((hL.2.1 s).1 (List.mem_of_getElem? hs)).2
      rw [List.take_add_one, hs, List.foldl_append, ih (by omega), List.filter_append]
      show lstep p _ s = _
      unfold lstep
      rw [h1, hps]
      cases hqs : q s
      · simp [hqs]
      · simp [hqs]
  have e : lfold p (ordN 10) = ((ordN 10).filter p).filter q := by
    unfold lfold
    rw [lfold_filter]
    have := key _ (Nat.le_refl _)
    rwa [List.take_length] at this
  rw [e]
  refine ⟨hL.1.filter _, fun t => ?_, Nat.le_trans (List.length_filter_le _ _) hL.2.2⟩
  rw [List.mem_filter, hL.2.1 t, hq t]
  exact ⟨fun h => ⟨h.1.1, h.2.1, h.2.2⟩, fun h => ⟨⟨h.1, h.2.1⟩, h.2.1, h.2.2⟩⟩

theorem sub_bitsS {t s : Nat} : subB t s = true ↔ ∀ k, t.testBit k = true → s.testBit k = true := by
  constructor
  · exact fun h k hk => subB_bit h hk
  · intro h
    unfold subB
    rw [beq_iff_eq]
    apply Nat.eq_of_testBit_eq
    intro k
    rw [Nat.testBit_and]
    cases hb : t.testBit k
    · rfl
    · rw [h k hb]; rfl

theorem own_belS {W W' : World} {B size k : Nat} {e : TypeId} {v : Value} {xs : List Value} (h : W.ownsRow B e size v k xs) (hb : Below W.heap.size W W') : W'.ownsRow B e size v k xs := by
  refine h.kept (grown_below (r := none) hb) ?_
  rcases h.2 with ⟨rfl, _⟩ | ⟨g, cap, cur, rfl, _⟩
  · exact .inl rfl
  · exact .inr (by simp [Value.ownBlock])

end Go.Proofs.Ytnfdacfhhkahhaa
