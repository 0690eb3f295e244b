/- The contract of Tape.Order: the numbers below n in some order, each once, in a new row. -/
import Derived.Test.YtfghnkgllmofgaaTape
import Derived.BigRegion
namespace Go.Proofs.Ytfghnkgllmofgaa
set_option linter.unusedVariables false
set_option linter.unusedSimpArgs false
open Go.RowKit

/-- Block g is a row of at least n cells, of which the first n are numbers from 0 on below N, each once. -/
def OrdAt (w : World) (g n : Nat) (N : Int) : Prop :=
  ∃ cur : Array Value, w.heap[g]? = some (.cells cur 3 (0, 0)) ∧ n ≤ cur.size ∧ (∀ k, k < n → ∃ z : Int, cur[k]? = some (.int .i64 z) ∧ 0 ≤ z ∧ z < N) ∧
    ∀ k1 k2 z, k1 < n → k2 < n → cur[k1]? = some (.int .i64 z) → cur[k2]? = some (.int .i64 z) → k1 = k2

theorem OrdAt.lt {w : World} {g n : Nat} {N : Int} (h : OrdAt w g n N) : g < w.heap.size := by
  obtain ⟨cur, h1, _⟩ := h
  rcases Nat.lt_or_ge g w.heap.size with h2 | h2
  · exact h2
  · rw [Array.getElem?_eq_none h2] at h1; cases h1

theorem OrdAt.keep {w w' : World} {g n : Nat} {N : Int} (h : OrdAt w g n N) (hk : w'.heap[g]? = w.heap[g]?) : OrdAt w' g n N := by
  obtain ⟨cur, h1, h2⟩ := h
  exact ⟨cur, hk.trans h1, h2⟩

theorem OrdAt.cell {w : World} {g n : Nat} {N : Int} (h : OrdAt w g n N) {k : Nat} (hk : k < n) : ∃ z : Int, w.cell? ⟨g, k, none⟩ = some (.int .i64 z) ∧ w.frozen? ⟨g, k, none⟩ = false ∧ 0 ≤ z ∧ z < N := by
  obtain ⟨cur, h1, h2, h3, _⟩ := h
  obtain ⟨z, hz, z0, z1⟩ := h3 k hk
  exact ⟨z, (cell_of_row _ _ k _ _ (0, 0) h1).trans hz, by simp [World.frozen?, h1], z0, z1⟩

/-- Two cells exchanged. -/
theorem OrdAt.swap {w : World} {g n i k : Nat} {N x y : Int} (h : OrdAt w g n N) (hi : i < n) (hk : k < n) (hx : w.cell? ⟨g, i, none⟩ = some (.int .i64 x)) (hy : w.cell? ⟨g, k, none⟩ = some (.int .i64 y)) :
    OrdAt ((w.setCell ⟨g, i, none⟩ (.int .i64 y)).setCell ⟨g, k, none⟩ (.int .i64 x)) g n N := by
  obtain ⟨cur, h1, h2, h3, h4⟩ := h
  rw [cell_of_row _ _ i _ _ (0, 0) h1] at hx
  rw [cell_of_row _ _ k _ _ (0, 0) h1] at hy
  have hg : ((w.setCell ⟨g, i, none⟩ (.int .i64 y)).setCell ⟨g, k, none⟩ (.int .i64 x)).heap[g]? = some (.cells ((cur.setIfInBounds i (.int .i64 y)).setIfInBounds k (.int .i64 x)) 3 (0, 0)) := by
    simp [World.setCell, Array.getElem?_modify, h1]
  have key : ∀ m, ((cur.setIfInBounds i (.int .i64 y)).setIfInBounds k (.int .i64 x))[m]? = if m = k then (if m < cur.size then some (.int .i64 x) else none) else if m = i then (if m < cur.size then some (.int .i64 y) else none) else cur[m]? := by
    intro m
    simp only [Array.getElem?_setIfInBounds, Array.size_setIfInBounds]
    by_cases e1 : k = m <;> by_cases e2 : i = m <;> simp [e1, e2, eq_comm]
  refine ⟨_, hg, by simpa using h2, fun m hm => ?_, fun m1 m2 z hm1 hm2 e1 e2 => ?_⟩
  · rw [key]
    obtain ⟨zx, ex, bx⟩ := h3 i hi
    obtain ⟨zy, ey, byy⟩ := h3 k hk
    rw [hx] at ex; rw [hy] at ey
    cases ex; cases ey
    by_cases m1 : m = k
    · rw [if_pos m1, if_pos (by omega)]; exact ⟨x, rfl, bx⟩
    · rw [if_neg m1]
      by_cases m2 : m = i
      · rw [if_pos m2, if_pos (by omega)]; exact ⟨y, rfl, byy⟩
      · rw [if_neg m2]; exact h3 m hm
  · have tr : ∀ m, m < n → ((cur.setIfInBounds i (.int .i64 y)).setIfInBounds k (.int .i64 x))[m]? = cur[if m = k then i else if m = i then k else m]? := by
      intro m hm
      rw [key]
      by_cases f1 : m = k
      · simp only [f1, if_true]; rw [if_pos (by omega), hx]
      · by_cases f2 : m = i
        · subst f2; simp only [f1, if_false, if_true]; rw [if_pos (by omega), hy]
        · simp only [f1, f2, if_false]
    rw [tr m1 hm1] at e1
    rw [tr m2 hm2] at e2
    have := h4 _ _ z (by split <;> (try split) <;> omega) (by split <;> (try split) <;> omega) e1 e2
    split at this <;> split at this <;> (try split at this) <;> (try split at this) <;> omega

theorem ord_of_own {w : World} {v : Value} {n : Nat} {B : Nat} (h : w.ownsRow B 3 1 v n ((List.range n).map fun (i : Nat) => Value.int .i64 (i : Int))) (hn : 0 < n) :
    ∃ g cap, v = .slice (some ⟨g, 0, none⟩) n cap ∧ B ≤ g ∧ n ≤ cap ∧ cap ≤ maxLen ∧ OrdAt w g n n := by
  rcases h.2 with ⟨_, h0⟩ | ⟨g, cap, cur, hv, hb, hg, hnc, hcm, hsz, htake⟩
  · omega
  · refine ⟨g, cap, hv, hb, hnc, hcm, cur, hg, by omega, ?_, ?_⟩
    · intro k hk
      refine ⟨(k : Int), ?_, by omega, by omega⟩
      have : (cur.toList.take (n * 1))[k]? = some (Value.int .i64 (k : Int)) := by
        rw [htake]; simp [hk]
      rw [List.getElem?_take_of_lt (by omega)] at this
      simpa using this
    · intro k1 k2 z h1 h2 e1 e2
      have q1 : (cur.toList.take (n * 1))[k1]? = some (Value.int .i64 (k1 : Int)) := by rw [htake]; simp [h1]
      have q2 : (cur.toList.take (n * 1))[k2]? = some (Value.int .i64 (k2 : Int)) := by rw [htake]; simp [h2]
      rw [List.getElem?_take_of_lt (by omega)] at q1 q2
      rw [Array.getElem?_toList, e1] at q1
      rw [Array.getElem?_toList, e2] at q2
      simp at q1 q2
      omega

end Go.Proofs.Ytfghnkgllmofgaa
