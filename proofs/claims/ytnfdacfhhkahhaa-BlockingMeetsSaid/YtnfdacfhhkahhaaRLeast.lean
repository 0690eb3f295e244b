/- The contract of the reference's Least. -/
import Derived.Test.YtnfdacfhhkahhaaB5
import Derived.Deep.RegionLaw
import Derived.Laws.CopyOwn
namespace Go.Proofs.Ytnfdacfhhkahhaa
set_option linter.unusedVariables false
set_option linter.unusedSimpArgs false
open Go.RowKit

/-- Is no other one among the first j below x? -/
def lBR (l : List Nat) (x j : Nat) : Bool := (l.take j).all (fun y => !(y != x && y &&& x == y))

theorem lBR_zero (l : List Nat) (x : Nat) : lBR l x 0 = true := rfl

theorem lBR_succ {l : List Nat} {x j y : Nat} (h : l[j]? = some y) : lBR l x (j + 1) = (lBR l x j && !(y != x && y &&& x == y)) := by
  unfold lBR
  rw [List.take_add_one, h, List.all_append]
  simp

theorem lBR_iff {l : List Nat} {x : Nat} : lBR l x l.length = true ↔ ∀ y ∈ l, subB y x = true → y = x := by
  unfold lBR
  rw [List.take_length, List.all_eq_true]
  refine forall_congr' (fun y => forall_congr' (fun hy => ?_))
  rw [Bool.not_eq_true', Bool.and_eq_false_iff, subB_iff]
  simp only [bne_eq_false_iff_eq, beq_eq_false_iff_ne]
  constructor
  · rintro (h | h) h1
    · exact h
    · exact absurd h1 h
  · intro h
    by_cases e : y &&& x = y
    · exact .inl (h e)
    · exact .inr e

/-- Where x is to be put. -/
def posR (o : List Nat) (x : Nat) : Nat → Nat
  | 0 => 0
  | j + 1 => if keyC (o.getD j 0) < keyC x then j + 1 else posR o x j

theorem posR_le (o : List Nat) (x : Nat) : ∀ j, posR o x j ≤ j
  | 0 => Nat.le_refl _
  | j + 1 => by
    unfold posR
    have := posR_le o x j
    split <;> omega

theorem posR_hi (o : List Nat) (x : Nat) : ∀ j i, posR o x j ≤ i → i < j → ¬ keyC (o.getD i 0) < keyC x
  | 0, i, _, h => by omega
  | j + 1, i, h1, h2 => by
    unfold posR at h1
    split at h1
    · omega
    · rename_i h
      rcases Nat.lt_or_ge i j with h3 | h3
      · exact posR_hi o x j i h1 h3
      · obtain rfl : i = j := by omega
        exact h

theorem posR_lo (o : List Nat) (x : Nat) : ∀ j, 0 < posR o x j → keyC (o.getD (posR o x j - 1) 0) < keyC x
  | 0, h => by unfold posR at h; omega
  | j + 1, h => by
    unfold posR at h ⊢
    split
    · rename_i h1; simpa using h1
    · rename_i h1
      rw [if_neg h1] at h
      exact posR_lo o x j h

def insR (o : List Nat) (x k : Nat) : List Nat := o.take k ++ x :: o.drop k

theorem insR_mem {o : List Nat} {x k t : Nat} : t ∈ insR o x k ↔ t = x ∨ t ∈ o := by
  unfold insR
  rw [List.mem_append, List.mem_cons]
  have : t ∈ o ↔ t ∈ o.take k ∨ t ∈ o.drop k := by rw [← List.mem_append, List.take_append_drop]
  rw [this]
  constructor
  · rintro (h | h | h) <;> simp [h]
  · rintro (h | h | h) <;> simp [h]

theorem insR_len {o : List Nat} {x k : Nat} (h : k ≤ o.length) : (insR o x k).length = o.length + 1 := by
  unfold insR
  simp; omega

theorem insR_asc {o : List Nat} {x : Nat} (ha : Asc o) (hx : x < 1024) (hlt : ∀ t ∈ o, t < 1024) (hn : x ∉ o) : Asc (insR o x (posR o x o.length)) := by
  have hle := posR_le o x o.length
  obtain ⟨k, hk⟩ : ∃ k, posR o x o.length = k := ⟨_, rfl⟩
  have hhi := posR_hi o x o.length
  have hlo := posR_lo o x o.length
  rw [hk] at hle hhi hlo ⊢
  have ha' : o.Pairwise (fun a b => keyC a < keyC b) := ha
  unfold Asc insR
  rw [List.pairwise_append]
  have hget : ∀ {i}, (h : i < o.length) → o.getD i 0 = o[i] := fun {i} h => by rw [List.getD_eq_getElem?_getD, List.getElem?_eq_getElem h]; rfl
  have hb : ∀ a ∈ o.take k, keyC a < keyC x := fun a hat => by
    obtain ⟨i, hi, rfl⟩ := List.mem_iff_getElem.1 hat
    rw [List.length_take] at hi
    rw [List.getElem_take]
    have h1 := hlo (by omega)
    rw [hget (by omega)] at h1
    rcases Nat.lt_or_ge i (k - 1) with h2 | h2
    · exact Nat.lt_trans (List.pairwise_iff_getElem.1 ha' i (k - 1) (by omega) (by omega) h2) h1
    · have e : i = k - 1 := by omega
      subst e; exact h1
  have hc : ∀ b ∈ o.drop k, keyC x < keyC b := fun b hbd => by
    obtain ⟨i, hi, rfl⟩ := List.mem_iff_getElem.1 hbd
    rw [List.length_drop] at hi
    rw [List.getElem_drop]
    have h1 := hhi (k + i) (by omega) (by omega)
    rw [hget (by omega)] at h1
    have h2 : o[k + i] ∈ o := List.getElem_mem _
    rcases Nat.lt_or_ge (keyC x) (keyC o[k + i]) with h3 | h3
    · exact h3
    · exfalso
      have e : keyC x = keyC o[k + i] := by omega
      exact hn (by rw [keyC_inj hx (hlt _ h2) e]; exact h2)
  refine ⟨ha'.sublist (List.take_sublist k o), ?_, ?_⟩
  · rw [List.pairwise_cons]
    exact ⟨hc, ha'.sublist (List.drop_sublist k o)⟩
  · intro a hat b hbm
    rcases List.mem_cons.1 hbm with rfl | h
    · exact hb a hat
    · exact Nat.lt_trans (hb a hat) (hc b h)

theorem insR_get {α : Type} {X : List α} {z v : α} {k : Nat} (hk : k ≤ X.length) : ((X ++ [z]).take (k + 1) ++ X.drop k).set k v = X.take k ++ v :: X.drop k := by
  have hl : k < (X ++ [z]).length := by simp; omega
  have h1 : (X ++ [z]).take (k + 1) = X.take k ++ [(X ++ [z])[k]] := by
    rw [List.take_add_one, List.take_append_of_le_length hk, List.getElem?_eq_getElem hl]
    rfl
  have h2 : (X.take k).length = k := by rw [List.length_take]; omega
  rw [h1, List.append_assoc, List.set_append_right _ _ (by omega), h2, Nat.sub_self]
  rfl

/-- The list after the first i. -/
structure OutR (ls : List Nat) (i : Nat) (o : List Nat) : Prop where
  asc : Asc o
  mem : ∀ t, t ∈ o ↔ t ∈ ls.take i ∧ ∀ y ∈ ls, subB y t = true → y = t

theorem OutR.zero (ls : List Nat) : OutR ls 0 [] := ⟨List.Pairwise.nil, fun t => by simp⟩

theorem take_mem {ls : List Nat} {i x t : Nat} (h : ls[i]? = some x) : t ∈ ls.take (i + 1) ↔ t ∈ ls.take i ∨ t = x := by
  rw [List.take_add_one, h, List.mem_append]
  simp

theorem OutR.skip {ls : List Nat} {i x : Nat} {o : List Nat} (h : OutR ls i o) (hx : ls[i]? = some x) (hn : ¬ (∀ y ∈ ls, subB y x = true → y = x) ∨ x ∈ o) : OutR ls (i + 1) o := ⟨h.asc, fun t => by
  rw [h.mem t, take_mem hx]
  constructor
  · rintro ⟨h1, h2⟩; exact ⟨.inl h1, h2⟩
  · rintro ⟨h1 | rfl, h2⟩
    · exact ⟨h1, h2⟩
    · rcases hn with hn | hn
      · exact absurd h2 hn
      · exact (h.mem t).1 hn⟩

theorem OutR.ins {ls : List Nat} {i x : Nat} {o : List Nat} (h : OutR ls i o) (hls : ∀ t ∈ ls, t < 1024) (hx : ls[i]? = some x) (hl : ∀ y ∈ ls, subB y x = true → y = x) (hn : x ∉ o) : OutR ls (i + 1) (insR o x (posR o x o.length)) :=
  ⟨insR_asc h.asc (hls x (List.mem_of_getElem? hx)) (fun t ht => hls t (List.mem_of_mem_take ((h.mem t).1 ht).1)) hn, fun t => by
    rw [insR_mem, h.mem t, take_mem hx]
    constructor
    · rintro (rfl | ⟨h1, h2⟩)
      · exact ⟨.inr rfl, hl⟩
      · exact ⟨.inl h1, h2⟩
    · rintro ⟨h1 | rfl, h2⟩
      · exact .inr ⟨h1, h2⟩
      · exact .inl rfl⟩

theorem nodup_le : ∀ {n : Nat} {o : List Nat}, o.Nodup → (∀ t ∈ o, t < n) → o.length ≤ n
  | 0, o, _, h => by
    rcases o with _ | ⟨a, s⟩
    · simp
    · have := h a (by simp); omega
  | n + 1, o, hd, h => by
    by_cases hm : n ∈ o
    · have h1 := nodup_le (n := n) (o := o.erase n) (hd.erase n) (fun t ht => by
        have h2 := (hd.mem_erase_iff).1 ht
        have := h t h2.2
        omega)
      have h2 := List.length_erase_of_mem hm
      omega
    · have := nodup_le (n := n) (o := o) hd (fun t ht => by
        have h2 := h t ht
        have h3 : t ≠ n := fun e => hm (e ▸ ht)
        omega)
      omega

theorem OutR.len {ls : List Nat} {i : Nat} {o : List Nat} (h : OutR ls i o) (hls : ∀ t ∈ ls, t < 1024) : o.length ≤ 1024 :=
  nodup_le (asc_nodup h.asc) (fun t ht => hls t (List.mem_of_mem_take ((h.mem t).1 ht).1))

theorem OutR.least {ls o : List Nat} (h : OutR ls ls.length o) (hls : ∀ t ∈ ls, t < 1024) : IsLeast (pz (zs ls)) o :=
  ⟨h.asc, fun t => by
    have hz : ∀ t, pz (zs ls) t = true ↔ t ∈ ls := fun t => by
      rw [pz_iff]
      unfold zs
      rw [List.mem_map]
      constructor
      · rintro ⟨_, y, hy, e⟩
        obtain rfl := Int.ofNat.inj e
        exact hy
      · intro h1; exact ⟨hls t h1, t, h1, rfl⟩
    rw [h.mem t, List.take_length, hz]
    constructor
    · rintro ⟨h1, h2⟩
      exact ⟨hls t h1, h1, fun y hy => h2 y ((hz y).1 hy)⟩
    · rintro ⟨_, h1, h2⟩
      exact ⟨h1, fun y hy => h2 y ((hz y).2 hy)⟩, h.len hls⟩

end Go.Proofs.Ytnfdacfhhkahhaa
