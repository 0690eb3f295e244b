/- The contract of threshold.Dual. -/
import Derived.Test.YtfchdkgdbdnoiaaDoorList
import Derived.Deep.RegionHeld3
namespace Go.Proofs.YtfchdkgdbdnoiaaDoor
set_option linter.unusedVariables false
open Go.RowKit

theorem NodesAt.both {P Q : Nat → Prop} {w w' : World} {v : Value} {ns : List Int} (h : NodesAt P w v ns) (hk : ∀ k, k < w.heap.size → P k → w'.heap[k]? = w.heap[k]?) (hq : ∀ k, k < w.heap.size → P k → Q k) : NodesAt Q w' v ns := by
  obtain ⟨A, c, h1, h2⟩ := h
  refine ⟨A, c, h1, fun k hk' => ?_⟩
  obtain ⟨b, off, e1, e2, e3⟩ := h2 k hk'
  exact ⟨b, off, e1, hq _ (cell_lt e3) e2, (World.cell?_of_block (hk _ (cell_lt e3) e2)).trans e3⟩

theorem ListT.both {P Q : Nat → Prop} {w w' : World} {d : Nat} {v : Value} {is : List Tree} (h : ListT P d w v is) (hk : ∀ k, k < w.heap.size → P k → w'.heap[k]? = w.heap[k]?) (hq : ∀ k, k < w.heap.size → P k → Q k) : ListT Q d w' v is := by
  obtain ⟨A, c, h1, h2⟩ := h
  refine ⟨A, c, h1, fun k T hT => ?_⟩
  obtain ⟨b, off, x0, x1, x2, e1, e2, e3, e4, e5, e6⟩ := h2 k T hT
  exact ⟨b, off, x0, x1, x2, e1, hq _ (cell_lt e3) e2, (World.cell?_of_block (hk _ (cell_lt e3) e2)).trans e3, (World.cell?_of_block (hk _ (cell_lt e4) e2)).trans e4, (World.cell?_of_block (hk _ (cell_lt e5) e2)).trans e5, TAt.both hk hq _ _ _ _ _ e6⟩

theorem NodesAt.below {P : Nat → Prop} {w w' : World} {v : Value} {ns : List Int} (h : NodesAt P w v ns) (hb : Below w.heap.size w w') : NodesAt P w' v ns := h.both (fun k hk _ => hb.block k hk) (fun _ _ h => h)

theorem ListT.below {P : Nat → Prop} {w w' : World} {d : Nat} {v : Value} {is : List Tree} (h : ListT P d w v is) (hb : Below w.heap.size w w') : ListT P d w' v is := h.both (fun k hk _ => hb.block k hk) (fun _ _ h => h)

theorem NodesAt.slice {P : Nat → Prop} {w : World} {v : Value} {ns : List Int} (h : NodesAt P w v ns) : ∃ A c, v = .slice A ns.length c := by
  obtain ⟨A, c, h1, _⟩ := h; exact ⟨A, c, h1⟩

theorem ListT.slice {P : Nat → Prop} {w : World} {d : Nat} {v : Value} {is : List Tree} (h : ListT P d w v is) : ∃ A c, v = .slice A is.length c := by
  obtain ⟨A, c, h1, _⟩ := h; exact ⟨A, c, h1⟩

theorem TAt.parts {P : Nat → Prop} {w : World} {d : Nat} {v0 v1 v2 : Value} {thr : Int} {ns : List Int} {is : List Tree} (h : TAt P (d + 1) w v0 v1 v2 (.mk thr ns is)) :
    v0 = .int .i64 thr ∧ ns.length ≤ 1000000 ∧ is.length ≤ 1000000 ∧ NodesAt P w v1 ns ∧ ListT P d w v2 is := h

theorem TAt.of_parts {P : Nat → Prop} {w : World} {d : Nat} {v1 v2 : Value} {thr : Int} {ns : List Int} {is : List Tree} (h1 : ns.length ≤ 1000000) (h2 : is.length ≤ 1000000) (h3 : NodesAt P w v1 ns) (h4 : ListT P d w v2 is) : TAt P (d + 1) w (.int .i64 thr) v1 v2 (.mk thr ns is) := ⟨rfl, h1, h2, h3, h4⟩

/-- The dual. -/
def dualT : Nat → Tree → Tree
  | 0, T => T
  | d + 1, .mk thr ns is => .mk (((ns.length + is.length : Nat) : Int) + 1 - thr) ns (is.map (dualT d))

end Go.Proofs.YtfchdkgdbdnoiaaDoor
