/- The walk of Tape.Order. -/
import Derived.Test.YtoceogdpkfcghaaDoorOrder
namespace Go.Proofs.YtoceogdpkfcghaaDoor
set_option linter.unusedVariables false
open Go.RowKit

theorem gset {w a : World} {r : Option Nat} (h : w.grownBy a r) {p : Addr} (hp : w.heap.size ≤ p.block) (u : Value) : w.grownBy (a.setCell p u) r :=
  ⟨h.os, h.tape, h.output, by simpa [World.setCell] using h.size, fun k hk hr => (Below.heap_setCell _ _ _ _ (by omega)).trans (h.block k hk hr)⟩

theorem gdrew {w a : World} {r : Option Nat} (h : w.grownBy a r) : w.grownBy a.drew r := ⟨h.os, h.tape, h.output, h.size, h.block⟩

theorem own_step {w : World} {v : Value} {k : Nat} {B : Nat} (h : w.ownsRow B 3 1 v (k + 1) (((List.range k).map fun (i : Nat) => Value.int .i64 (i : Int)) ++ [.int .i64 (k : Int)])) :
    w.ownsRow B 3 1 v (k + 1) ((List.range (k + 1)).map fun (i : Nat) => Value.int .i64 (i : Int)) := by
  rw [List.range_succ, List.map_append]; exact h

end Go.Proofs.YtoceogdpkfcghaaDoor
