/- A ballot that lies in a block of its own: what keeps it. -/
import Derived.Test.YtoceogdpkfcghaaDoorRef23
namespace Go.Proofs.YtoceogdpkfcghaaDoor
set_option linter.unusedVariables false
open Go.RowKit

/-- Block h is the list of the four values. -/
def ValsAt (w : World) (h : Nat) : Prop := w.heap[h]? = some (.cells #[.string ⟨#[97]⟩, .string ⟨#[98]⟩, .string ⟨#[99]⟩, .string ⟨#[97, 97]⟩] 9 (0, 0))

theorem ValsAt.lt {w : World} {g : Nat} (h : ValsAt w g) : g < w.heap.size := by
  rcases Nat.lt_or_ge g w.heap.size with h1 | h1
  · exact h1
  · unfold ValsAt at h; rw [Array.getElem?_eq_none h1] at h; cases h

theorem ValsAt.below {w w' : World} {g : Nat} (h : ValsAt w g) (hb : Below w.heap.size w w') : ValsAt w' g := (hb.block g h.lt).trans h

theorem ValsAt.new (w : World) : ValsAt (w.alloc (.cells #[.string ⟨#[97]⟩, .string ⟨#[98]⟩, .string ⟨#[99]⟩, .string ⟨#[97, 97]⟩] 9)) w.heap.size := heap_alloc_new _ _

theorem ValsAt.at_ {w : World} {g m : Nat} (h : ValsAt w g) (hm : m < 4) : w.cell? ⟨g, m, none⟩ = some (.string (valOf (m + 1))) := by
  rw [cell_of_row _ _ m _ _ (0, 0) h]
  match m, hm with
  | 0, _ | 1, _ | 2, _ | 3, _ => rfl

/-- From what a call on a source leaves to Below of the law's own world: the source is the law's own. -/
theorem bgrown {w a b : World} {sb : Nat} (h : Below w.heap.size w a) (hg : a.grownBy b (some sb)) (hs : w.heap.size ≤ sb) : Below w.heap.size w b :=
  h.grown hg h.size (fun k hk => by cases hk; exact hs)

end Go.Proofs.YtoceogdpkfcghaaDoor
