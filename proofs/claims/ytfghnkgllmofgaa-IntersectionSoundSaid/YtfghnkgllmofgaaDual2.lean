/- The contract of threshold.Dual. -/
import Derived.Test.YtfghnkgllmofgaaList
import Derived.Deep.RegionHeld3
namespace Go.Proofs.Ytfghnkgllmofgaa
set_option linter.unusedVariables false
set_option linter.unusedSimpArgs false
open Go.RowKit

theorem NodesAt.both {P Q : Nat → Prop} {w w' : World} {v : Value} {ns : List Int} (h : NodesAt P w v ns) (hk : ∀ k, k < w.heap.size → P k → w'.heap[k]? = w.heap[k]?) (hq : ∀ k, k < w.heap.size → P k → Q k) : NodesAt Q w' v ns := by
  obtain ⟨A, c, h1, h2⟩ := h
  refine ⟨A, c, h1, fun k hk' => ?_⟩
  obtain ⟨b, off, e1, e2, e3⟩ := h2 k hk'
  exact ⟨b, off, e1, hq _ (cell_lt e3) e2, (World.cell?_of_block (hk _ (cell_lt e3) e2)).trans e3⟩

theorem ListT.both {P Q : Nat → Prop} {w w' : World} {d : Nat} {v : Value} {is : List Tree} (h : ListT P d w v is) (hk : ∀ k, k < w.heap.size → P k → w'.heap[k]? = w.heap[k]?) (hq : ∀ k, k < w.heap.size → P k → Q k) : ListT Q d w' v is := by
  obtain ⟨A, c, h1, h2⟩ := h
  refine ⟨A, c, h1, fun k T hT => ?_⟩
  obtain ⟨b, off, x0, x1, x2, e1, e2, e3, e4, e5, e6⟩ := h2 k T hT
  exact ⟨b, off, x0, x1, x2, e1, hq _ (cell_lt e3) e2, (World.cell?_of_block (hk _ (cell_lt e3) e2)).trans e3, (World.cell?_of_block (hk _ (cell_lt e4) e2)).trans e4, (World.cell?_of_block (hk _ (cell_lt e5) e2)).trans e5, TAt.both hk hq _ _ _ _ _ e6⟩

theorem NodesAt.below {P : Nat → Prop} {w w' : World} {v : Value} {ns : List Int} (h : NodesAt P w v ns) (hb : Below w.heap.size w w') : NodesAt P w' v ns := h.both (fun k hk _ => hb.block k hk) (fun _ _ h => h)

theorem ListT.below {P : Nat → Prop} {w w' : World} {d : Nat} {v : Value} {is : List Tree} (h : ListT P d w v is) (hb : Below w.heap.size w w') : ListT P d w' v is := h.both (fun k hk _ => hb.block k hk) (fun _ _ h => h)

theorem NodesAt.slice {P : Nat → Prop} {w : World} {v : Value} {ns : List Int} (h : NodesAt P w v ns) : ∃ A c, v = .slice A ns.length c := by
  obtain ⟨A, c, h1, _⟩ := h; exact ⟨A, c, h1⟩

theorem ListT.slice {P : Nat → Prop} {w : World} {d : Nat} {v : Value} {is : List Tree} (h : ListT P d w v is) : ∃ A c, v = .slice A is.length c := by
  obtain ⟨A, c, h1, _⟩ := h; exact ⟨A, c, h1⟩

theorem TAt.parts {P : Nat → Prop} {w : World} {d : Nat} {v0 v1 v2 : Value} {thr : Int} {ns : List Int} {is : List Tree} (h : TAt P (d + 1) w v0 v1 v2 (.mk thr ns is)) :
    v0 = .int .i64 thr ∧ ns.length ≤ 1000000 ∧ is.length ≤ 1000000 ∧ NodesAt P w v1 ns ∧ ListT P d w v2 is := h

theorem TAt.of_parts {P : Nat → Prop} {w : World} {d : Nat} {v1 v2 : Value} {thr : Int} {ns : List Int} {is : List Tree} (h1 : ns.length ≤ 1000000) (h2 : is.length ≤ 1000000) (h3 : NodesAt P w v1 ns) (h4 : ListT P d w v2 is) : TAt P (d + 1) w (.int .i64 thr) v1 v2 (.mk thr ns is) := ⟨rfl, h1, h2, h3, h4⟩

/-- What the drawn region of a function that copies a trust keeps: the box of the argument, the block of the result, the argument's parts. -/
def CopyS (w : World) (g r : Nat) (thr : Int) (v1 v2 : Value) (d : Nat) (ns : List Int) (is : List Tree) (W : World) : Prop :=
  (∃ y u1 u2, OutAt W r y u1 u2) ∧ NodesAt (fun b => b < w.heap.size) W v1 ns ∧ ListT (fun b => b < w.heap.size) d W v2 is ∧ OutAt W g thr v1 v2 ∧ Below w.heap.size w W

theorem CopyS.below {w W W' : World} {g r : Nat} {thr : Int} {v1 v2 : Value} {d : Nat} {ns : List Int} {is : List Tree} (h : CopyS w g r thr v1 v2 d ns is W) (hb : Below W.heap.size W W') : CopyS w g r thr v1 v2 d ns is W' := by
  obtain ⟨⟨y, u1, u2, h1⟩, h2, h3, h4, h5⟩ := h
  exact ⟨⟨y, u1, u2, h1.keep (hb.block _ h1.lt)⟩, h2.below hb, h3.below hb, h4.keep (hb.block _ h4.lt), bstep h5 hb⟩

theorem CopyS.set {w W : World} {g r : Nat} {thr : Int} {v1 v2 : Value} {d : Nat} {ns : List Int} {is : List Tree} (h : CopyS w g r thr v1 v2 d ns is W) (hg : g ≠ r) (hr : w.heap.size ≤ r) (y : Int) (u1 u2 : Value) :
    CopyS w g r thr v1 v2 d ns is (((W.setCell ⟨r, 0, none⟩ (.int .i64 y)).setCell ⟨r, 1, none⟩ u1).setCell ⟨r, 2, none⟩ u2) := by
  obtain ⟨⟨y', u1', u2', h1⟩, h2, h3, h4, h5⟩ := h
  have far : ∀ q, q ≠ r → (((W.setCell ⟨r, 0, none⟩ (.int .i64 y)).setCell ⟨r, 1, none⟩ u1).setCell ⟨r, 2, none⟩ u2).heap[q]? = W.heap[q]? := fun q hq =>
    (Below.heap_setCell _ _ _ _ (by simpa using hq)).trans ((Below.heap_setCell _ _ _ _ (by simpa using hq)).trans (Below.heap_setCell _ _ _ _ (by simpa using hq)))
  exact ⟨⟨_, _, _, ((h1.set0 y).set1 u1).set2 u2⟩, h2.both (fun k _ hk => far k (by omega)) (fun _ _ h => h), h3.both (fun k _ hk => far k (by omega)) (fun _ _ h => h), h4.keep (far g hg), bset (bset (bset h5 (p := ⟨r, 0, none⟩) hr _) (p := ⟨r, 1, none⟩) hr _) (p := ⟨r, 2, none⟩) hr _⟩

theorem copyS_drew {w W : World} {g r : Nat} {thr : Int} {v1 v2 : Value} {d : Nat} {ns : List Int} {is : List Tree} (h : CopyS w g r thr v1 v2 d ns is W) : CopyS w g r thr v1 v2 d ns is W.drew :=
  h.below ⟨rfl, rfl, rfl, Nat.le_refl _, fun _ _ => rfl⟩

theorem copyB {w W W' : World} {g r : Nat} {thr : Int} {v1 v2 : Value} {d : Nat} {ns : List Int} {is : List Tree}
    (h : W.cell? ⟨g, 0, none⟩ = some (.int .i64 thr) ∧ W.cell? ⟨g, 1, none⟩ = some v1 ∧ W.cell? ⟨g, 2, none⟩ = some v2 ∧ CopyS w g r thr v1 v2 d ns is W) (hb : Below W.heap.size W W') :
    W'.cell? ⟨g, 0, none⟩ = some (.int .i64 thr) ∧ W'.cell? ⟨g, 1, none⟩ = some v1 ∧ W'.cell? ⟨g, 2, none⟩ = some v2 ∧ CopyS w g r thr v1 v2 d ns is W' := by
  have k := h.2.2.2.below hb
  exact ⟨k.2.2.2.1.cs.1, k.2.2.2.1.cs.2.1, k.2.2.2.1.cs.2.2, k⟩

theorem copySet {w W : World} {g r : Nat} {thr : Int} {v1 v2 : Value} {d : Nat} {ns : List Int} {is : List Tree}
    (h : W.cell? ⟨g, 0, none⟩ = some (.int .i64 thr) ∧ W.cell? ⟨g, 1, none⟩ = some v1 ∧ W.cell? ⟨g, 2, none⟩ = some v2 ∧ CopyS w g r thr v1 v2 d ns is W) (hg : g ≠ r) (hr : w.heap.size ≤ r) (y : Int) (u1 u2 : Value) :
    (((W.setCell ⟨r, 0, none⟩ (.int .i64 y)).setCell ⟨r, 1, none⟩ u1).setCell ⟨r, 2, none⟩ u2).cell? ⟨g, 0, none⟩ = some (.int .i64 thr) ∧ (((W.setCell ⟨r, 0, none⟩ (.int .i64 y)).setCell ⟨r, 1, none⟩ u1).setCell ⟨r, 2, none⟩ u2).cell? ⟨g, 1, none⟩ = some v1 ∧ (((W.setCell ⟨r, 0, none⟩ (.int .i64 y)).setCell ⟨r, 1, none⟩ u1).setCell ⟨r, 2, none⟩ u2).cell? ⟨g, 2, none⟩ = some v2 ∧
      CopyS w g r thr v1 v2 d ns is (((W.setCell ⟨r, 0, none⟩ (.int .i64 y)).setCell ⟨r, 1, none⟩ u1).setCell ⟨r, 2, none⟩ u2) := by
  have k := h.2.2.2.set hg hr y u1 u2
  exact ⟨k.2.2.2.1.cs.1, k.2.2.2.1.cs.2.1, k.2.2.2.1.cs.2.2, k⟩

theorem copyN {w W : World} {g r : Nat} {thr : Int} {v1 v2 : Value} {d : Nat} {ns : List Int} {is : List Tree}
    (h : W.cell? ⟨g, 0, none⟩ = some (.int .i64 thr) ∧ W.cell? ⟨g, 1, none⟩ = some v1 ∧ W.cell? ⟨g, 2, none⟩ = some v2 ∧ CopyS w g r thr v1 v2 d ns is W) : NodesAt (fun b => b < w.heap.size) W v1 ns := h.2.2.2.2.1

theorem copyL {w W : World} {g r : Nat} {thr : Int} {v1 v2 : Value} {d : Nat} {ns : List Int} {is : List Tree}
    (h : W.cell? ⟨g, 0, none⟩ = some (.int .i64 thr) ∧ W.cell? ⟨g, 1, none⟩ = some v1 ∧ W.cell? ⟨g, 2, none⟩ = some v2 ∧ CopyS w g r thr v1 v2 d ns is W) : ListT (fun b => b < w.heap.size) d W v2 is := h.2.2.2.2.2.1

/-- The dual. -/
def dualT : Nat → Tree → Tree
  | 0, T => T
  | d + 1, .mk thr ns is => .mk (((ns.length + is.length : Nat) : Int) + 1 - thr) ns (is.map (dualT d))

end Go.Proofs.Ytfghnkgllmofgaa
