/- Lists of ballots in memory, and the contract of ballots.Greatest. -/
import Derived.Test.YtmgiojdipheokaaBalMem
import Derived.Test.YtmgiojdipheokaaBallotsLowestWalk
namespace Go.Proofs.Ytmgiojdipheokaa
set_option linter.unusedVariables false
open Go.RowKit

theorem infoBal : (Try.prog.info? 26).map (fun i => (i.zero, i.size, i.bytes)) = some (some (.agg #[.int .i64 0, .string ⟨#[]⟩]), 2, 24) := by kernel_rfl

/-- The cells of a list of ballots. -/
def flatB (L : List (Int × Nat)) : List Value := L.flatMap fun b => [Value.int .i64 b.1, Value.string (valOf b.2)]
theorem flatB_append (L M : List (Int × Nat)) : flatB (L ++ M) = flatB L ++ flatB M := by unfold flatB; rw [List.flatMap_append]
theorem flatB_get : ∀ (L : List (Int × Nat)) (k : Nat) (b : Int × Nat), L[k]? = some b → (flatB L)[k * 2]? = some (.int .i64 b.1) ∧ (flatB L)[k * 2 + 1]? = some (.string (valOf b.2))
  | [], _, _, h => by simp at h
  | x :: L, 0, b, h => by
    simp at h; subst h
    exact ⟨rfl, rfl⟩
  | x :: L, k + 1, b, h => by
    have ih := flatB_get L k b (by simpa using h)
    have e : flatB (x :: L) = Value.int .i64 x.1 :: Value.string (valOf x.2) :: flatB L := rfl
    rw [e, show (k + 1) * 2 = k * 2 + 1 + 1 by omega, show k * 2 + 1 + 1 + 1 = (k * 2 + 1) + 1 + 1 by omega]
    simp only [List.getElem?_cons_succ]
    exact ih
def GoodL (L : List (Int × Nat)) : Prop := ∀ b ∈ L, 1 ≤ b.1 ∧ b.1 ≤ 1000000 ∧ 1 ≤ b.2 ∧ b.2 ≤ 4

/-- v is a slice of just these ballots. -/
def ListAt (w : World) (v : Value) (L : List (Int × Nat)) : Prop :=
  ∃ (A : Option Addr) (c : Nat), v = .slice A L.length c ∧ L.length ≤ 1000 ∧ ∀ k b, L[k]? = some b → ∃ g off, A = some ⟨g, off, none⟩ ∧ w.cell? ⟨g, off + k * 2, none⟩ = some (.int .i64 b.1) ∧ w.cell? ⟨g, off + k * 2 + 1, none⟩ = some (.string (valOf b.2))
theorem ListAt.below {w w' : World} {v : Value} {L : List (Int × Nat)} (h : ListAt w v L) (hb : Below w.heap.size w w') : ListAt w' v L := by
  obtain ⟨A, c, h1, h2, h3⟩ := h
  refine ⟨A, c, h1, h2, fun k b hk => ?_⟩
  obtain ⟨g, off, e1, e2, e3⟩ := h3 k b hk
  exact ⟨g, off, e1, (hb.cell (cell_lt e2)).trans e2, (hb.cell (cell_lt e3)).trans e3⟩
theorem ListAt.of_own {w : World} {v : Value} {B : Nat} {L : List (Int × Nat)} (h : w.ownsRow B 26 2 v L.length (flatB L)) (hl : L.length ≤ 1000) : ListAt w v L := by
  rcases h.2 with ⟨hv, h0⟩ | ⟨g, cap, cur, hv, hb, hg, hnc, hcm, hsz, htake⟩
  · exact ⟨none, 0, by rw [hv, h0], hl, fun k b hk => by rw [List.eq_nil_of_length_eq_zero h0] at hk; simp at hk⟩
  · refine ⟨some ⟨g, 0, none⟩, cap, hv, hl, fun k b hk => ?_⟩
    obtain ⟨e1, e2⟩ := flatB_get L k b hk
    have c1 := h.cells (g := g) (by rw [hv]; rfl) _ _ e1
    have c2 := h.cells (g := g) (by rw [hv]; rfl) _ _ e2
    rw [Addr.add_lit] at c1 c2
    exact ⟨g, 0, rfl, c1, by rw [← Nat.add_assoc] at c2; exact c2⟩

/-- The greatest ballot of a list, as the program finds it. -/
def grStep (g b : Int × Nat) : Int × Nat := if lessB g.1 g.2 b.1 b.2 then b else g
def grL (L : List (Int × Nat)) : Int × Nat := match L with | [] => (0, 0) | x :: l => (x :: l).foldl grStep x
theorem lessB_irr (c : Int) (i : Nat) : lessB c i c i = false := by unfold lessB; simp
theorem lessBx_iff {c d : Int} {i j : Nat} : lessB c i d j = true ↔ c < d ∨ (c = d ∧ i < j) := by unfold lessB; simp
theorem lessB_no {c d : Int} {i j : Nat} : lessB c i d j = false ↔ d < c ∨ (d = c ∧ j ≤ i) := by
  rw [← Bool.not_eq_true, lessBx_iff]; omega
end Go.Proofs.Ytmgiojdipheokaa
