/- The world of FederatedSafe's region that makes two configurations: laws of its steps. -/
import Derived.Test.YtbbdmaakphoofaaShown
import Derived.Test.YtbbdmaakphoofaaRefHolds
import Derived.Test.YtbbdmaakphoofaaDelete
import Derived.Test.YtbbdmaakphoofaaAwake18
namespace Go.Proofs.Ytbbdmaakphoofaa
set_option linter.unusedVariables false
set_option linter.unusedSimpArgs false
open Go.RowKit

structure RS (w : World) (g : Nat) (v : Value) (ms : List Mem) (G0 : Nat) (bad : List Nat) (W : World) : Prop where
  tape : TapeOk W w.heap.size
  out : W.heap[g]? = some (.cells #[v] 27 (0, 0))
  mems : MemsAt (fun b => w.heap.size < b ∧ b < G0) 2 W v ms
  low : w.heap.size < g
  gl : g < G0
  sz : G0 ≤ W.heap.size
  below : Below w.heap.size w W
  bads : ∀ p ∈ bad, G0 ≤ p ∧ p < W.heap.size
theorem CMade.rs {w W : World} {g : Nat} {v : Value} {ms : List Mem} (h : CMade w g v ms W) : RS w g v ms W.heap.size [] W :=
  ⟨h.tape, h.out, h.mems.both (fun _ _ _ => rfl) (fun k hk hP => ⟨hP, hk⟩), h.low, h.lt, Nat.le_refl _, h.below, by simp⟩
theorem RS.cell {w W : World} {g G0 : Nat} {v : Value} {ms : List Mem} {bad : List Nat} (h : RS w g v ms G0 bad W) : W.cell? ⟨g, 0, none⟩ = some v := cell_of_row _ _ 0 _ _ (0, 0) h.out
theorem RS.lt {w W : World} {g G0 : Nat} {v : Value} {ms : List Mem} {bad : List Nat} (h : RS w g v ms G0 bad W) : g < W.heap.size := Nat.lt_of_lt_of_le h.gl h.sz
theorem RS.drew {w W : World} {g G0 : Nat} {v : Value} {ms : List Mem} {bad : List Nat} (h : RS w g v ms G0 bad W) : RS w g v ms G0 bad W.drew :=
  have hb : Below W.heap.size W W.drew := ⟨rfl, rfl, rfl, Nat.le_refl _, fun _ _ => rfl⟩
  ⟨h.tape.below hb, h.out, h.mems.below hb, h.low, h.gl, h.sz, bstep h.below hb, h.bads⟩
theorem RS.alloc {w W : World} {g G0 : Nat} {v : Value} {ms : List Mem} {bad : List Nat} (h : RS w g v ms G0 bad W) (o : Obj) : RS w g v ms G0 (W.heap.size :: bad) (W.alloc o) :=
  have hb := balloc (bref W) o
  ⟨h.tape.below hb, (hb.block _ h.lt).trans h.out, h.mems.below hb, h.low, h.gl, Nat.le_trans h.sz hb.size, bstep h.below hb, fun p hp => by
    rw [alloc_sz]
    rcases List.mem_cons.1 hp with rfl | hp
    · have := h.sz; omega
    · have := h.bads p hp; omega⟩
theorem RS.grown {w W W' : World} {g G0 : Nat} {v : Value} {ms : List Mem} {bad : List Nat} (h : RS w g v ms G0 bad W) (hs : TapeOk W' w.heap.size) (hg : W.grownBy W' (some w.heap.size)) : RS w g v ms G0 bad W' :=
  ⟨hs, (hg.block _ h.lt (by have := h.low; simp; omega)).trans h.out, h.mems.both (fun q hq hP => hg.block q hq (by simp; omega)) (fun _ _ h => h), h.low, h.gl, Nat.le_trans h.sz hg.size, bgrownC h.below hg (Nat.le_refl _), fun p hp => by have := h.bads p hp; have := hg.size; omega⟩
theorem RS.store {w W : World} {g G0 p : Nat} {v : Value} {ms : List Mem} {bad : List Nat} (h : RS w g v ms G0 bad W) (hp : p ∈ bad) (u : Value) : RS w g v ms G0 bad (W.setCell ⟨p, 0, none⟩ u) := by
  obtain ⟨h1, h2⟩ := h.bads p hp
  have h3 := h.gl
  have h4 := h.low
  have hk : ∀ q, p ≠ q → (W.setCell ⟨p, 0, none⟩ u).heap[q]? = W.heap[q]? := fun q hq => Below.heap_setCell _ _ _ _ (by simp; omega)
  have hsz : (W.setCell ⟨p, 0, none⟩ u).heap.size = W.heap.size := by simp [World.setCell]
  refine ⟨TapeOk.keepLow h.tape (fun q hq => hk q (by omega)), (hk g (by omega)).trans h.out, h.mems.both (fun q hq hP => hk q (by omega)) (fun _ _ h => h), h4, h3, by rw [hsz]; exact h.sz, bset h.below (p := ⟨p, 0, none⟩) (by show w.heap.size ≤ p; omega) u, fun q hq => by rw [hsz]; exact h.bads q hq⟩

/-- A variable that holds a configuration. -/
def VarAt (W : World) (p : Nat) (u : Value) : Prop := W.heap[p]? = some (.cells #[u] 27 (0, 0))
theorem VarAt.lt {W : World} {p : Nat} {u : Value} (h : VarAt W p u) : p < W.heap.size := by
  rcases Nat.lt_or_ge p W.heap.size with h1 | h1
  · exact h1
  · have h2 : W.heap[p]? = some (.cells #[u] 27 (0, 0)) := h
    rw [Array.getElem?_eq_none h1] at h2; cases h2
theorem VarAt.cell {W : World} {p : Nat} {u : Value} (h : VarAt W p u) : W.cell? ⟨p, 0, none⟩ = some u := cell_of_row _ _ 0 _ _ (0, 0) h
theorem VarAt.free {W : World} {p : Nat} {u : Value} (h : VarAt W p u) : W.frozen? ⟨p, 0, none⟩ = false := by
  have h2 : W.heap[p]? = some (.cells #[u] 27 (0, 0)) := h
  simp [World.frozen?, h2]
theorem VarAt.new (W : World) (u : Value) : VarAt (W.alloc (.cells #[u] 27)) W.heap.size u := heap_alloc_new W _
theorem VarAt.alloc {W : World} {p : Nat} {u : Value} (h : VarAt W p u) (o : Obj) : VarAt (W.alloc o) p u := ((balloc (bref W) o).block _ h.lt).trans h
theorem VarAt.grown {w W W' : World} {g G0 p : Nat} {v u : Value} {ms : List Mem} {bad : List Nat} (h : VarAt W p u) (hR : RS w g v ms G0 bad W) (hp : p ∈ bad) (hg : W.grownBy W' (some w.heap.size)) : VarAt W' p u :=
  (hg.block _ h.lt (by have := hR.bads p hp; have := hR.gl; have := hR.low; simp; omega)).trans h
theorem VarAt.set {W : World} {p : Nat} {u : Value} (h : VarAt W p u) (u' : Value) : VarAt (W.setCell ⟨p, 0, none⟩ u') p u' := by
  have h2 : W.heap[p]? = some (.cells #[u] 27 (0, 0)) := h
  show (W.setCell ⟨p, 0, none⟩ u').heap[p]? = _
  simp [World.setCell, Array.getElem?_modify, h2]
theorem VarAt.far {W : World} {p q : Nat} {u : Value} (h : VarAt W p u) (hn : q ≠ p) (u' : Value) : VarAt (W.setCell ⟨q, 0, none⟩ u') p u := (Below.heap_setCell _ _ _ _ (by simp; omega)).trans h

/-- A configuration whose memory lies off the variables. -/
def ConfOff (sb : Nat) (bad : List Nat) (W : World) (v : Value) (xs : List Mem) : Prop := MemsAt (fun b => sb < b ∧ b < W.heap.size ∧ b ∉ bad) 2 W v xs
theorem ConfOff.make {w W W' : World} {g G0 : Nat} {v v' : Value} {ms xs : List Mem} {bad : List Nat} (hR : RS w g v ms G0 bad W) (h : MemsAt (fun b => (w.heap.size < b ∧ b < G0) ∨ W.heap.size ≤ b) 2 W' v' xs) : ConfOff w.heap.size bad W' v' xs :=
  h.both (fun _ _ _ => rfl) (fun q hq hP => ⟨by have := hR.low; have := hR.lt; omega, hq, fun hb => by have := hR.bads q hb; omega⟩)
theorem ConfOff.alloc {sb : Nat} {bad : List Nat} {W : World} {v : Value} {xs : List Mem} (h : ConfOff sb bad W v xs) (o : Obj) : ConfOff sb (W.heap.size :: bad) (W.alloc o) v xs :=
  MemsAt.both (show MemsAt (fun b => sb < b ∧ b < W.heap.size ∧ b ∉ bad) 2 W v xs from h) (fun q hq _ => (balloc (bref W) o).block q hq) (fun q hq hP => ⟨hP.1, by rw [alloc_sz]; omega, fun hb => by
    rcases List.mem_cons.1 hb with rfl | hb
    · omega
    · exact hP.2.2 hb⟩)
theorem ConfOff.grown {sb : Nat} {bad : List Nat} {W W' : World} {v : Value} {xs : List Mem} (h : ConfOff sb bad W v xs) (hg : W.grownBy W' (some sb)) : ConfOff sb bad W' v xs :=
  MemsAt.both (show MemsAt (fun b => sb < b ∧ b < W.heap.size ∧ b ∉ bad) 2 W v xs from h) (fun q hq hP => hg.block q hq (by have := hP.1; simp; omega)) (fun q hq hP => ⟨hP.1, by have := hg.size; omega, hP.2.2⟩)
theorem ConfOff.store {sb p : Nat} {bad : List Nat} {W : World} {v : Value} {xs : List Mem} (h : ConfOff sb bad W v xs) (hp : p ∈ bad) (u : Value) : ConfOff sb bad (W.setCell ⟨p, 0, none⟩ u) v xs :=
  MemsAt.both (show MemsAt (fun b => sb < b ∧ b < W.heap.size ∧ b ∉ bad) 2 W v xs from h) (fun q hq hP => Below.heap_setCell _ _ _ _ (by
    intro e
    have e' : q = p := by simpa using e
    subst e'; exact hP.2.2 hp)) (fun q hq hP => ⟨hP.1, by simp [World.setCell]; omega, hP.2.2⟩)
theorem ConfOff.made {w W : World} {g G0 p : Nat} {v v' : Value} {ms xs : List Mem} {bad bad' : List Nat} (h : ConfOff w.heap.size bad' W v' xs) (hR : RS w g v ms G0 bad W) (hp : p ∈ bad) (hV : VarAt W p v') : CMade w p v' xs W :=
  ⟨hR.tape, hV, MemsAt.both (show MemsAt (fun b => w.heap.size < b ∧ b < W.heap.size ∧ b ∉ bad') 2 W v' xs from h) (fun _ _ _ => rfl) (fun _ _ hP => hP.1), by have := hR.bads p hp; have := hR.gl; have := hR.low; omega, hR.below⟩
end Go.Proofs.Ytbbdmaakphoofaa
