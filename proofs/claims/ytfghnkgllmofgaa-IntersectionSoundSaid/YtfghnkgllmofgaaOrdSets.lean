/- The sets of n nodes in the order in which Next leads through them. -/
import Derived.Test.YtfghnkgllmofgaaNext
namespace Go.Proofs.Ytfghnkgllmofgaa
set_option linter.unusedVariables false
set_option linter.unusedSimpArgs false
open Go.RowKit

/-- f sets from s on. -/
def ordL (n : Nat) : Nat → Nat → List Nat
  | 0, _ => []
  | f + 1, s => s :: ordL n f (nextN n s)

theorem ordL_len (n : Nat) : ∀ (f s : Nat), (ordL n f s).length = f
  | 0, _ => rfl
  | f + 1, s => by show (ordL n f (nextN n s)).length + 1 = f + 1; rw [ordL_len]

theorem ordL_next (n : Nat) : ∀ (f s i t : Nat), (ordL n f s)[i]? = some t → i + 1 < f → (ordL n f s)[i + 1]? = some (nextN n t)
  | 0, _, _, _, _, h => by omega
  | f + 1, s, 0, t, h, hf => by
    obtain rfl : s = t := by simpa [ordL] using h
    obtain ⟨g, rfl⟩ : ∃ g, f = g + 1 := ⟨f - 1, by omega⟩
    rfl
  | f + 1, s, i + 1, t, h, hf => ordL_next n f (nextN n s) i t (by simpa [ordL] using h) (by omega)

/-- All sets of n nodes, in order. -/
def ordN (n : Nat) : List Nat := ordL n (2 ^ n) 0

def maskL (l : List Nat) : Nat := l.foldl (fun a t => a ||| 2 ^ t) 0

theorem maskL_bit : ∀ (l : List Nat) (a t : Nat), (l.foldl (fun a t => a ||| 2 ^ t) a).testBit t = true → a.testBit t = true ∨ t ∈ l
  | [], a, t, h => .inl h
  | x :: l, a, t, h => by
    rcases maskL_bit l _ t h with h1 | h1
    · rw [Nat.testBit_or, Bool.or_eq_true] at h1
      rcases h1 with h1 | h1
      · exact .inl h1
      · rw [Nat.testBit_two_pow] at h1
        exact .inr (by have : x = t := by simpa using h1
                       rw [this]; exact List.mem_cons_self)
    · exact .inr (List.mem_cons_of_mem _ h1)

set_option maxRecDepth 100000 in
theorem ord_mask (n : Nat) (hn : n ≤ 10) : maskL (ordN n) = 2 ^ (2 ^ n) - 1 := by
  have all : ∀ n : Fin 11, maskL (ordN n.val) = 2 ^ (2 ^ n.val) - 1 := by decide +kernel
  exact all ⟨n, by omega⟩

theorem ord_mem (n : Nat) (hn : n ≤ 10) (t : Nat) (ht : t < 2 ^ n) : t ∈ ordN n := by
  have h : (maskL (ordN n)).testBit t = true := by rw [ord_mask n hn, Nat.testBit_two_pow_sub_one, decide_eq_true ht]
  rcases maskL_bit _ _ _ h with h1 | h1
  · simp at h1
  · exact h1

set_option maxRecDepth 100000 in
theorem ord_lt (n : Nat) (hn : n ≤ 10) (t : Nat) (ht : t ∈ ordN n) : t < 2 ^ n := by
  have all : ∀ n : Fin 11, (ordN n.val).all (fun t => decide (t < 2 ^ n.val)) = true := by decide +kernel
  have := List.all_eq_true.1 (all ⟨n, by omega⟩) t ht
  simpa using this

/-- The place of a set in the order of sets. -/
def keyN (s : Nat) : Nat := popc s * 1024 + s

set_option maxRecDepth 100000 in
theorem keyN_next (n : Nat) (hn : n ≤ 10) (s : Nat) (hs : s < 2 ^ n) (h : nextN n s < 2 ^ n) : keyN s < keyN (nextN n s) := by
  have all : ∀ n : Fin 11, (List.range (2 ^ n.val)).all (fun s => !decide (nextN n.val s < 2 ^ n.val) || decide (keyN s < keyN (nextN n.val s))) = true := by decide +kernel
  have h1 := List.all_eq_true.1 (all ⟨n, by omega⟩) s (List.mem_range.2 hs)
  rw [decide_eq_true h] at h1
  simpa using h1

theorem keyN_lt (s : Nat) (hs : s < 1024) : keyN s < 20000 := by
  have := popc_le s
  unfold keyN; omega

theorem ord_zero (n : Nat) : (ordN n)[0]? = some 0 := by
  unfold ordN
  obtain ⟨f, hf⟩ : ∃ f, 2 ^ n = f + 1 := ⟨2 ^ n - 1, by have := Nat.one_le_two_pow (n := n); omega⟩
  rw [hf]; rfl

theorem ord_len (n : Nat) : (ordN n).length = 2 ^ n := ordL_len n _ _

set_option maxRecDepth 100000 in
theorem ord_last (n : Nat) (hn : n ≤ 10) (s : Nat) (h : (ordN n)[2 ^ n - 1]? = some s) : 2 ^ n ≤ nextN n s := by
  have all : ∀ n : Fin 11, (match (ordN n.val)[2 ^ n.val - 1]? with | some s => decide (2 ^ n.val ≤ nextN n.val s) | none => true) = true := by decide +kernel
  have h1 := all ⟨n, by omega⟩
  simp only [h] at h1
  simpa using h1

/-- One set further: the next one, or all have been seen. -/
theorem ord_step (n : Nat) (hn : n ≤ 10) (i s : Nat) (h : (ordN n)[i]? = some s) : (nextN n s < 2 ^ n → (ordN n)[i + 1]? = some (nextN n s)) ∧ (2 ^ n ≤ nextN n s → i + 1 = 2 ^ n) := by
  have hi : i < 2 ^ n := by
    have := (List.getElem?_eq_some_iff.1 h).1
    rwa [ord_len] at this
  have hx := ordL_next n (2 ^ n) 0 i s h
  rcases Nat.lt_or_ge (i + 1) (2 ^ n) with h1 | h1
  · refine ⟨fun _ => hx h1, fun h2 => ?_⟩
    have := ord_lt n hn _ (List.mem_of_getElem? (hx h1))
    omega
  · have e : i + 1 = 2 ^ n := by omega
    refine ⟨fun h2 => ?_, fun _ => e⟩
    have h3 := ord_last n hn s (by rw [← e, Nat.add_sub_cancel]; exact h)
    omega

end Go.Proofs.Ytfghnkgllmofgaa
