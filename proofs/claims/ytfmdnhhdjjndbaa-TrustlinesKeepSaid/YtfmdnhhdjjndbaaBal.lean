/- Ballots out of the source: values a, b, c, aa (numbered 1 to 4, none is 0), and the contracts of package ballots over them. -/
import Derived.Test.YtfmdnhhdjjndbaaSrc
namespace Go.Proofs.Ytfmdnhhdjjndbaa
set_option linter.unusedVariables false
set_option linter.unusedSimpArgs false
open Go.RowKit

theorem grown_set {w a : World} {r : Option Nat} (h : w.grownBy a r) {p : Addr} (hp : w.heap.size ≤ p.block) (u : Value) : w.grownBy (a.setCell p u) r :=
  ⟨h.os, h.tape, h.output, by simpa [World.setCell] using h.size, fun k hk hr => (Below.heap_setCell _ _ _ _ (by omega)).trans (h.block k hk hr)⟩

theorem row_new (w : World) (xs : Array Value) (t : TypeId) (j : Nat) : (w.alloc (.cells xs t)).cell? ⟨w.heap.size, j, none⟩ = xs[j]? :=
  cell_of_row _ _ j xs t (0, 0) (heap_alloc_new _ _)

theorem row_at (w : World) (xs : Array Value) (t : TypeId) (j g : Nat) (hg : g = w.heap.size) : (w.alloc (.cells xs t)).cell? ⟨g, j, none⟩ = xs[j]? := by subst hg; exact row_new w xs t j

/-- A counter that the source gives. -/
def cntOf (j : Nat) : Int := [1, 2, 3, 4, 5, 1000, 1000000].getD j 0

theorem cntOf_bd {j : Nat} (h : j < 7) : 1 ≤ cntOf j ∧ cntOf j ≤ 1000000 ∧ (cntOf j ≤ 1000 ∨ cntOf j = 1000000) := by
  match j, h with
  | 0, _ | 1, _ | 2, _ | 3, _ | 4, _ | 5, _ | 6, _ => decide

/-- Does ballot (c, i) come before (d, j)? -/
def lessB (c : Int) (i : Nat) (d : Int) (j : Nat) : Bool := decide (c < d) || (decide (c = d) && decide (i < j))

def zeroB (c : Int) (i : Nat) : Bool := decide (c = 0) && decide (i = 0)

def covB (c : Int) (i : Nat) (d : Int) (j : Nat) : Bool := !zeroB c i && (decide (i = j) && decide (d ≤ c))

def abB (c : Int) (i : Nat) (d : Int) (j : Nat) : Bool := !zeroB c i && (!decide (i = j) && lessB d j c i)

theorem valOf_eq {i j : Nat} (hi : i ≤ 4) (hj : j ≤ 4) : (valOf i == valOf j) = decide (i = j) := by
  match i, j, hi, hj with
  | 0, 0, _, _ | 0, 1, _, _ | 0, 2, _, _ | 0, 3, _, _ | 0, 4, _, _ => rfl
  | 1, 0, _, _ | 1, 1, _, _ | 1, 2, _, _ | 1, 3, _, _ | 1, 4, _, _ => rfl
  | 2, 0, _, _ | 2, 1, _, _ | 2, 2, _, _ | 2, 3, _, _ | 2, 4, _, _ => rfl
  | 3, 0, _, _ | 3, 1, _, _ | 3, 2, _, _ | 3, 3, _, _ | 3, 4, _, _ => rfl
  | 4, 0, _, _ | 4, 1, _, _ | 4, 2, _, _ | 4, 3, _, _ | 4, 4, _, _ => rfl

end Go.Proofs.Ytfmdnhhdjjndbaa
