/- Rows of structs in memory: a slice whose elements are read by an encoding of n cells each. -/
import Derived.Test.YtnnajmoedihkjaaSrc
namespace Go.Proofs.Ytnnajmoedihkjaa
set_option linter.unusedVariables false
set_option linter.unusedSimpArgs false
open Go.RowKit

/-- v is a slice of the elements L, each n cells by enc, in a block of which P holds. -/
def RowAt {α : Type} (n : Nat) (enc : α → List Value) (P : Nat → Prop) (w : World) (v : Value) (L : List α) : Prop :=
  ∃ A c, v = .slice A L.length c ∧ L.length ≤ c ∧ c ≤ maxLen ∧ ∀ k x, L[k]? = some x → ∃ b off, A = some ⟨b, off, none⟩ ∧ P b ∧ b < w.heap.size ∧ ∀ j u, (enc x)[j]? = some u → w.cell? ⟨b, off + k * n + j, none⟩ = some u
section
variable {α : Type} {n : Nat} {enc : α → List Value} {P Q : Nat → Prop} {w w' : World} {v : Value} {L : List α}

theorem RowAt.both (h : RowAt n enc P w v L) (hs : w.heap.size ≤ w'.heap.size) (hk : ∀ k, k < w.heap.size → P k → w'.heap[k]? = w.heap[k]?) (hq : ∀ k, k < w.heap.size → P k → Q k) : RowAt n enc Q w' v L := by
  obtain ⟨A, c, h1, hc, hm, h2⟩ := h
  refine ⟨A, c, h1, hc, hm, fun k x hx => ?_⟩
  obtain ⟨b, off, e0, e1, e2, e3⟩ := h2 k x hx
  exact ⟨b, off, e0, hq _ e2 e1, Nat.lt_of_lt_of_le e2 hs, fun j u hu => (World.cell?_of_block (a := ⟨b, off + k * n + j, none⟩) (hk _ e2 e1)).trans (e3 j u hu)⟩

theorem RowAt.below (h : RowAt n enc P w v L) (hb : Below w.heap.size w w') : RowAt n enc P w' v L := h.both hb.size (fun k hk _ => hb.block k hk) (fun _ _ h => h)

theorem RowAt.imp (h : RowAt n enc P w v L) (hq : ∀ k, k < w.heap.size → P k → Q k) : RowAt n enc Q w v L := h.both (Nat.le_refl _) (fun _ _ _ => rfl) hq

theorem RowAt.slice (h : RowAt n enc P w v L) : ∃ A c, v = .slice A L.length c ∧ L.length ≤ c ∧ c ≤ maxLen := by
  obtain ⟨A, c, h1, h2, h3, _⟩ := h; exact ⟨A, c, h1, h2, h3⟩

theorem RowAt.nil : RowAt n enc P w (.slice none 0 0) ([] : List α) := ⟨none, 0, rfl, Nat.le_refl _, by unfold maxLen; omega, fun k x h => by simp at h⟩

theorem RowAt.at_ {A : Option Addr} {c : Nat} {k m : Nat} {x : α} (h : RowAt n enc P w (.slice A m c) L) (hx : L[k]? = some x) :
    ∃ b off, A = some ⟨b, off, none⟩ ∧ P b ∧ b < w.heap.size ∧ ∀ j u, (enc x)[j]? = some u → w.cell? ⟨b, off + k * n + j, none⟩ = some u := by
  obtain ⟨A', c', h1, _, _, h2⟩ := h
  cases h1
  exact h2 k x hx

theorem RowAt.drew (h : RowAt n enc P w v L) : RowAt n enc P w.drew v L := h

theorem RowAt.drewN (h : RowAt n enc P w v L) (q : Nat) : RowAt n enc P (w.drewN q) v L := h

/-- The cells of a list. -/
def flatS (enc : α → List Value) (L : List α) : List Value := L.flatMap enc

theorem flatS_append (L M : List α) : flatS enc (L ++ M) = flatS enc L ++ flatS enc M := by unfold flatS; rw [List.flatMap_append]

theorem flatS_len (hn : ∀ x, (enc x).length = n) : ∀ L : List α, (flatS enc L).length = L.length * n
  | [] => by simp [flatS]
  | x :: L => by
    have ih := flatS_len hn L
    unfold flatS at *
    rw [List.flatMap_cons, List.length_append, ih, hn, List.length_cons, Nat.succ_mul, Nat.add_comm]

theorem flatS_get (hn : ∀ x, (enc x).length = n) : ∀ (L : List α) (k : Nat) (x : α) (j : Nat) (u : Value), L[k]? = some x → (enc x)[j]? = some u → (flatS enc L)[k * n + j]? = some u
  | [], _, _, _, _, h, _ => by simp at h
  | y :: L, 0, x, j, u, h, hu => by
    simp at h; subst h
    have hj : j < (enc y).length := by
      rcases Nat.lt_or_ge j (enc y).length with h | h
      · exact h
      · rw [List.getElem?_eq_none h] at hu; cases hu
    show (enc y ++ flatS enc L)[0 * n + j]? = some u
    rw [List.getElem?_append_left (by omega)]
    simpa using hu
  | y :: L, k + 1, x, j, u, h, hu => by
    have ih := flatS_get hn L k x j u (by simpa using h) hu
    show (enc y ++ flatS enc L)[(k + 1) * n + j]? = some u
    rw [List.getElem?_append_right (by rw [hn, Nat.succ_mul]; omega), hn, show (k + 1) * n + j - n = k * n + j by rw [Nat.succ_mul]; omega]
    exact ih

/-- The converse: a place of the flat list lies in one element. -/
theorem flatS_inv (hn : ∀ x, (enc x).length = n) : ∀ (L : List α) (i : Nat) (u : Value), (flatS enc L)[i]? = some u → ∃ k j x, i = k * n + j ∧ L[k]? = some x ∧ (enc x)[j]? = some u
  | [], i, u, h => by simp [flatS] at h
  | y :: L, i, u, h => by
    change (enc y ++ flatS enc L)[i]? = some u at h
    rcases Nat.lt_or_ge i n with hi | hi
    · rw [List.getElem?_append_left (by rw [hn]; exact hi)] at h
      exact ⟨0, i, y, by omega, rfl, h⟩
    · rw [List.getElem?_append_right (by rw [hn]; exact hi), hn] at h
      obtain ⟨k, j, x, e, h1, h2⟩ := flatS_inv hn L (i - n) u h
      exact ⟨k + 1, j, x, by rw [Nat.succ_mul]; omega, by simpa using h1, h2⟩

theorem RowAt.of_own {B : Nat} {e : TypeId} (hn : ∀ x, (enc x).length = n) (h : w.ownsRow B e n v L.length (flatS enc L)) (hm : L.length ≤ maxLen) (hP : ∀ b, B ≤ b → v.ownBlock = some b → P b) : RowAt n enc P w v L := by
  rcases h.2 with ⟨hv, h0⟩ | ⟨g, cap, cur, hv, hb, hg, hnc, hcm, hsz, htake⟩
  · have : L = [] := List.eq_nil_of_length_eq_zero h0
    subst this
    exact ⟨none, 0, by rw [hv]; rfl, Nat.le_refl _, by unfold maxLen; omega, fun k b hk => by simp at hk⟩
  · refine ⟨some ⟨g, 0, none⟩, cap, hv, hnc, hcm, fun k x hk => ?_⟩
    refine ⟨g, 0, rfl, hP g hb (by rw [hv]; rfl), (Array.getElem?_eq_some_iff.1 hg).1, fun j u hu => ?_⟩
    have c1 := h.cells (g := g) (by rw [hv]; rfl) _ _ (flatS_get hn L k x j u hk hu)
    rw [Addr.add_lit] at c1
    rw [show 0 + k * n + j = 0 + (k * n + j) by omega]
    exact c1

/-- What append asks of its source. -/
theorem RowAt.source {b off m c : Nat} (hn : ∀ x, (enc x).length = n) (h : RowAt n enc P w (.slice (some ⟨b, off, none⟩) m c) L) : ∀ j u, (flatS enc L)[j]? = some u → w.cell? ((⟨b, off, none⟩ : Addr).add j) = some u := by
  intro i u hu
  obtain ⟨k, j, x, rfl, h1, h2⟩ := flatS_inv hn L i u hu
  obtain ⟨b', off', e0, _, _, e3⟩ := h.at_ h1
  simp only [Option.some.injEq, Addr.mk.injEq] at e0
  obtain ⟨rfl, rfl, _⟩ := e0
  rw [Addr.add_lit, ← Nat.add_assoc]
  exact e3 j u h2
end

end Go.Proofs.Ytnnajmoedihkjaa
