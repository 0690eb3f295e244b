/- The contract of threshold.fits, for trusts that stay within the limits. -/
import Derived.Test.YtoceogdpkfcghaaDoorDual2
namespace Go.Proofs.YtoceogdpkfcghaaDoor
set_option linter.unusedVariables false
open Go.RowKit

/-- Block lb holds the number of entries that are left. -/
def LeftAt (w : World) (lb : Nat) (x : Nat) : Prop := w.heap[lb]? = some (.cells #[.int .i64 (x : Int)] 3 (0, 0))

theorem LeftAt.lt {w : World} {lb x : Nat} (h : LeftAt w lb x) : lb < w.heap.size := by
  rcases Nat.lt_or_ge lb w.heap.size with h1 | h1
  · exact h1
  · unfold LeftAt at h; rw [Array.getElem?_eq_none h1] at h; cases h

theorem LeftAt.c {w : World} {lb x : Nat} (h : LeftAt w lb x) : w.cell? ⟨lb, 0, none⟩ = some (.int .i64 (x : Int)) := cell_of_row _ _ 0 _ _ (0, 0) h

theorem LeftAt.f {w : World} {lb x : Nat} (h : LeftAt w lb x) : w.frozen? ⟨lb, 0, none⟩ = false := by
  unfold LeftAt at h
  simp [World.frozen?, h]

theorem LeftAt.keep {w w' : World} {lb x : Nat} (h : LeftAt w lb x) (hk : w'.heap[lb]? = w.heap[lb]?) : LeftAt w' lb x := hk.trans h

theorem LeftAt.below {w w' : World} {lb x : Nat} (h : LeftAt w lb x) (hb : Below w.heap.size w w') : LeftAt w' lb x := h.keep (hb.block _ h.lt)

theorem LeftAt.set {w : World} {lb x : Nat} (h : LeftAt w lb x) (y : Nat) : LeftAt (w.setCell ⟨lb, 0, none⟩ (.int .i64 (y : Int))) lb y := by
  unfold LeftAt at h ⊢
  simp [World.setCell, Array.getElem?_modify, h]

theorem alloc_at {w : World} {o : Obj} {k : Nat} (h : w.heap.size = k) : (w.alloc o).heap[k]? = some o := by rw [← h]; exact heap_alloc_new _ _

theorem alloc_on {w : World} {o v : Obj} {k : Nat} (h : w.heap[k]? = some v) : (w.alloc o).heap[k]? = some v := by
  have hl : k < w.heap.size := by
    rcases Nat.lt_or_ge k w.heap.size with h1 | h1
    · exact h1
    · rw [Array.getElem?_eq_none h1] at h; cases h
  exact (heap_alloc_old _ _ hl).trans h

theorem alloc_sz (w : World) (o : Obj) : (w.alloc o).heap.size = w.heap.size + 1 := by simp

theorem grown_at {a w : World} {lb : Nat} (h : a.grownBy w (some lb)) (o : Nat) (v : Value) : a.grownBy (w.setCell ⟨lb, o, none⟩ v) (some lb) :=
  grown_trans h (gset1 w ⟨lb, o, none⟩ v)

theorem sum_map_take {α : Type} (f : α → Nat) {is : List α} {k : Nat} {T : α} (h : is[k]? = some T) : ((is.map f).take (k + 1)).sum = ((is.map f).take k).sum + f T := by
  rw [sum_take_succ (x := f T)]
  rw [List.getElem?_map, h]; rfl

theorem hls_keep {W W' : World} {lb d : Nat} {v : Value} {is : List Tree} (h : ListT (fun b => b ≠ lb) d W v is) (hg : W.grownBy W' (some lb)) : ListT (fun b => b ≠ lb) d W' v is :=
  h.both (fun k hk hP => hg.block k hk (by simpa using hP)) (fun _ _ h => h)

end Go.Proofs.YtoceogdpkfcghaaDoor
