/- A ballot that lies in a block of its own: what keeps it. -/
import Derived.Test.YtmgiojdipheokaaRef23
namespace Go.Proofs.Ytmgiojdipheokaa
set_option linter.unusedVariables false
open Go.RowKit

/-- Block g is the ballot (c, i). -/
def BalAt (w : World) (g : Nat) (c : Int) (i : Nat) : Prop := w.heap[g]? = some (.cells #[.int .i64 c, .string (valOf i)] 26 (0, 0))
theorem BalAt.lt {w : World} {g : Nat} {c : Int} {i : Nat} (h : BalAt w g c i) : g < w.heap.size := by
  rcases Nat.lt_or_ge g w.heap.size with h1 | h1
  · exact h1
  · unfold BalAt at h; rw [Array.getElem?_eq_none h1] at h; cases h
theorem BalAt.cs {w : World} {g : Nat} {c : Int} {i : Nat} (h : BalAt w g c i) : w.cell? ⟨g, 0, none⟩ = some (.int .i64 c) ∧ w.cell? ⟨g, 1, none⟩ = some (.string (valOf i)) :=
  ⟨cell_of_row _ _ 0 _ _ (0, 0) h, cell_of_row _ _ 1 _ _ (0, 0) h⟩
theorem BalAt.fr {w : World} {g : Nat} {c : Int} {i : Nat} (h : BalAt w g c i) (k : Nat) : w.frozen? ⟨g, k, none⟩ = false := by
  unfold BalAt at h
  simp [World.frozen?, h]
theorem BalAt.below {w w' : World} {g : Nat} {c : Int} {i : Nat} (h : BalAt w g c i) (hb : Below w.heap.size w w') : BalAt w' g c i := (hb.block g h.lt).trans h
theorem BalAt.grown {w w' : World} {g sb : Nat} {c : Int} {i : Nat} (h : BalAt w g c i) (hb : w.grownBy w' (some sb)) (hne : g ≠ sb) : BalAt w' g c i := (hb.block g h.lt (by simpa using hne)).trans h
theorem BalAt.alloc {w : World} {g : Nat} {c : Int} {i : Nat} (h : BalAt w g c i) (o : Obj) : BalAt (w.alloc o) g c i := h.below (balloc (bref _) _)
theorem BalAt.new (w : World) (c : Int) (i : Nat) : BalAt (w.alloc (.cells #[.int .i64 c, .string (valOf i)] 26)) w.heap.size c i := heap_alloc_new _ _
theorem BalAt.drewN {w : World} {g : Nat} {c : Int} {i : Nat} (h : BalAt w g c i) (n : Nat) : BalAt (w.drewN n) g c i := h
theorem BalAt.far {w : World} {g : Nat} {c : Int} {i : Nat} (h : BalAt w g c i) {p : Addr} (hp : g ≠ p.block) (u : Value) : BalAt (w.setCell p u) g c i := (Below.heap_setCell w p u g hp).trans h
theorem BalAt.store {w : World} {g : Nat} {c : Int} {i : Nat} (h : BalAt w g c i) (d : Int) (j : Nat) : BalAt ((w.setCell ⟨g, 0, none⟩ (.int .i64 d)).setCell ⟨g, 1, none⟩ (.string (valOf j))) g d j := by
  unfold BalAt at h ⊢
  simp [World.setCell, Array.getElem?_modify, h]
theorem BalAt.store1 {w : World} {g : Nat} {c : Int} {i : Nat} (h : BalAt w g c i) (d : Int) : BalAt (w.setCell ⟨g, 0, none⟩ (.int .i64 d)) g d i := by
  unfold BalAt at h ⊢
  simp [World.setCell, Array.getElem?_modify, h]
/-- Block h is the list of the four values. -/
def ValsAt (w : World) (h : Nat) : Prop := w.heap[h]? = some (.cells #[.string ⟨#[97]⟩, .string ⟨#[98]⟩, .string ⟨#[99]⟩, .string ⟨#[97, 97]⟩] 9 (0, 0))
theorem ValsAt.lt {w : World} {g : Nat} (h : ValsAt w g) : g < w.heap.size := by
  rcases Nat.lt_or_ge g w.heap.size with h1 | h1
  · exact h1
  · unfold ValsAt at h; rw [Array.getElem?_eq_none h1] at h; cases h
theorem ValsAt.below {w w' : World} {g : Nat} (h : ValsAt w g) (hb : Below w.heap.size w w') : ValsAt w' g := (hb.block g h.lt).trans h
theorem ValsAt.new (w : World) : ValsAt (w.alloc (.cells #[.string ⟨#[97]⟩, .string ⟨#[98]⟩, .string ⟨#[99]⟩, .string ⟨#[97, 97]⟩] 9)) w.heap.size := heap_alloc_new _ _
theorem ValsAt.at_ {w : World} {g m : Nat} (h : ValsAt w g) (hm : m < 4) : w.cell? ⟨g, m, none⟩ = some (.string (valOf (m + 1))) := by
  rw [cell_of_row _ _ m _ _ (0, 0) h]
  match m, hm with
  | 0, _ | 1, _ | 2, _ | 3, _ => rfl
/-- From what a call on a source leaves to Below of the law's own world: the source is the law's own. -/
theorem bgrown {w a b : World} {sb : Nat} (h : Below w.heap.size w a) (hg : a.grownBy b (some sb)) (hs : w.heap.size ≤ sb) : Below w.heap.size w b :=
  h.grown hg h.size (fun k hk => by cases hk; exact hs)
end Go.Proofs.Ytmgiojdipheokaa
