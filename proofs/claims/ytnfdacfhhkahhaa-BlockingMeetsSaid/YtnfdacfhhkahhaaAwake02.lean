/- The example of chapter 2 (awake of the laws of layer 2). -/
import Derived.Test.YtnfdacfhhkahhaaB5
namespace Go.Proofs.Ytnfdacfhhkahhaa
set_option linter.unusedVariables false
set_option linter.unusedSimpArgs false
open Go.RowKit

def exT : Tree := .mk 2 [0, 1] [.mk 1 [2, 3] []]

theorem exT_sat : satB 2 exT 5 = true ∧ satB 2 exT 12 = false ∧ blkB 2 exT 3 = true ∧ blkB 2 exT 4 = false := by decide +kernel

theorem exT_dual : dualT 2 exT = .mk 2 [0, 1] [.mk 2 [2, 3] []] := rfl

theorem exT_WF : WF 10 2 exT := by
  show 1 ≤ (2 : Int) ∧ (2 : Int) ≤ ((2 + 1 : Nat) : Int) ∧ 2 ≤ 10 ∧ 1 ≤ 3 ∧ (∀ x ∈ ([0, 1] : List Int), 0 ≤ x ∧ x < 10) ∧ ([0, 1] : List Int).Nodup ∧ ∀ T ∈ [Tree.mk 1 [2, 3] []], WF 10 1 T
  refine ⟨by omega, by omega, by omega, by omega, by decide, by decide, fun T hT => ?_⟩
  rw [List.mem_singleton] at hT
  subst hT
  show 1 ≤ (1 : Int) ∧ (1 : Int) ≤ ((2 + 0 : Nat) : Int) ∧ 2 ≤ 10 ∧ 0 ≤ 3 ∧ (∀ x ∈ ([2, 3] : List Int), 0 ≤ x ∧ x < 10) ∧ ([2, 3] : List Int).Nodup ∧ ∀ T ∈ ([] : List Tree), WF 10 0 T
  exact ⟨by omega, by omega, by omega, by omega, by decide, by decide, fun T hT => by simp at hT⟩

/-- The example in memory: the nodes at s, the inner nodes at s1, the inner trust at s2. -/
theorem exT_at {W : World} {s s1 s2 : Nat} (h0 : W.heap[s]? = some (.cells #[.int .i64 0, .int .i64 1] 3 (0, 0))) (h1 : W.heap[s1]? = some (.cells #[.int .i64 2, .int .i64 3] 3 (0, 0)))
    (h2 : W.heap[s2]? = some (.cells #[.int .i64 1, .slice (some ⟨s1, 0, none⟩) 2 2, .slice none 0 0] 32 (0, 0))) :
    TAt (fun _ => True) 2 W (.int .i64 2) (.slice (some ⟨s, 0, none⟩) 2 2) (.slice (some ⟨s2, 0, none⟩) 1 1) exT := by
  refine ⟨rfl, by simp, by simp, ⟨some ⟨s, 0, none⟩, 2, rfl, fun k hk => ⟨s, 0, rfl, trivial, ?_⟩⟩, ⟨some ⟨s2, 0, none⟩, 1, rfl, fun k T hT => ?_⟩⟩
  · match k, hk with
    | 0, _ => exact cell_of_row _ _ 0 _ _ (0, 0) h0
    | 1, _ => exact cell_of_row _ _ 1 _ _ (0, 0) h0
  · match k, hT with
    | 0, hT =>
      simp at hT
      subst hT
      refine ⟨s2, 0, _, _, _, rfl, trivial, cell_of_row _ _ 0 _ _ (0, 0) h2, cell_of_row _ _ 1 _ _ (0, 0) h2, cell_of_row _ _ 2 _ _ (0, 0) h2, ?_⟩
      refine ⟨rfl, by simp, by simp, ⟨some ⟨s1, 0, none⟩, 2, rfl, fun k hk => ⟨s1, 0, rfl, trivial, ?_⟩⟩, ⟨none, 0, rfl, fun k T hT => by simp at hT⟩⟩
      match k, hk with
      | 0, _ => exact cell_of_row _ _ 0 _ _ (0, 0) h1
      | 1, _ => exact cell_of_row _ _ 1 _ _ (0, 0) h1
    | k + 1, hT => simp at hT

theorem alloc4 (w : World) (a b c d : Obj) : ((((w.alloc a).alloc b).alloc c).alloc d).heap[w.heap.size]? = some a ∧ ((((w.alloc a).alloc b).alloc c).alloc d).heap[w.heap.size + 1]? = some b ∧
    ((((w.alloc a).alloc b).alloc c).alloc d).heap[w.heap.size + 1 + 1]? = some c ∧ ((((w.alloc a).alloc b).alloc c).alloc d).heap[w.heap.size + 1 + 1 + 1]? = some d := by
  refine ⟨?_, ?_, ?_, ?_⟩
  · rw [Below.heap_alloc _ _ _ (by simp; omega), Below.heap_alloc _ _ _ (by simp; try omega), Below.heap_alloc _ _ _ (by simp)]; exact heap_alloc_new _ _
  · rw [Below.heap_alloc _ _ _ (by simp; try omega), Below.heap_alloc _ _ _ (by simp)]
    have := heap_alloc_new (w.alloc a) b
    simpa using this
  · rw [Below.heap_alloc _ _ _ (by simp)]
    have := heap_alloc_new ((w.alloc a).alloc b) c
    simpa using this
  · have := heap_alloc_new (((w.alloc a).alloc b).alloc c) d
    simpa using this

end Go.Proofs.Ytnfdacfhhkahhaa
