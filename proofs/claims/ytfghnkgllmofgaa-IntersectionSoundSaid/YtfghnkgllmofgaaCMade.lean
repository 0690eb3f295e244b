/- The world of a law that has made a configuration; mathematics of closed sets. -/
import Derived.Test.YtfghnkgllmofgaaConfig
import Derived.Test.YtfghnkgllmofgaaAwake09
namespace Go.Proofs.Ytfghnkgllmofgaa
set_option linter.unusedVariables false
set_option linter.unusedSimpArgs false
open Go.RowKit

theorem bgrownC {w a b : World} {sb : Nat} (h : Below w.heap.size w a) (hg : a.grownBy b (some sb)) (hs : w.heap.size ≤ sb) : Below w.heap.size w b :=
  h.grown hg h.size (fun k hk => by cases hk; exact hs)

structure CMade (w : World) (g : Nat) (v : Value) (ms : List Mem) (W : World) : Prop where
  tape : TapeOk W w.heap.size
  out : W.heap[g]? = some (.cells #[v] 27 (0, 0))
  mems : MemsAt (fun b => w.heap.size < b) 2 W v ms
  low : w.heap.size < g
  below : Below w.heap.size w W

theorem CMade.lt {w W : World} {g : Nat} {v : Value} {ms : List Mem} (h : CMade w g v ms W) : g < W.heap.size := by
  rcases Nat.lt_or_ge g W.heap.size with h1 | h1
  · exact h1
  · have := h.out; rw [Array.getElem?_eq_none h1] at this; cases this

theorem CMade.cell {w W : World} {g : Nat} {v : Value} {ms : List Mem} (h : CMade w g v ms W) : W.cell? ⟨g, 0, none⟩ = some v := cell_of_row _ _ 0 _ _ (0, 0) h.out

theorem CMade.bel {w W W' : World} {g : Nat} {v : Value} {ms : List Mem} (h : CMade w g v ms W) (hb : Below W.heap.size W W') : CMade w g v ms W' :=
  ⟨h.tape.below hb, (hb.block _ h.lt).trans h.out, h.mems.below hb, h.low, bstep h.below hb⟩

theorem CMade.grown {w W W' : World} {g : Nat} {v : Value} {ms : List Mem} (h : CMade w g v ms W) (hs : TapeOk W' w.heap.size) (hg : W.grownBy W' (some w.heap.size)) : CMade w g v ms W' :=
  ⟨hs, (hg.block _ h.lt (by have := h.low; simp; omega)).trans h.out, h.mems.both (fun q hq hP => hg.block q hq (by simp; omega)) (fun _ _ h => h), h.low, bgrownC h.below hg (Nat.le_refl _)⟩

theorem CMade.keeps {w W : World} {g : Nat} {v : Value} {ms : List Mem} (h : CMade w g v ms W) : W.cell? ⟨g, 0, none⟩ = some v ∧ CMade w g v ms W := ⟨h.cell, h⟩

theorem CMade.drew {w W : World} {g : Nat} {v : Value} {ms : List Mem} (h : CMade w g v ms W) : CMade w g v ms W.drew := h.bel ⟨rfl, rfl, rfl, Nat.le_refl _, fun _ _ => rfl⟩

theorem keepC {w W W' : World} {g : Nat} {v : Value} {ms : List Mem} (h : W.cell? ⟨g, 0, none⟩ = some v ∧ CMade w g v ms W) (hb : Below W.heap.size W W') : W'.cell? ⟨g, 0, none⟩ = some v ∧ CMade w g v ms W' := (h.2.bel hb).keeps

theorem growC {w W W' : World} {g : Nat} {v : Value} {ms : List Mem} (h : W.cell? ⟨g, 0, none⟩ = some v ∧ CMade w g v ms W) (hs : TapeOk W' w.heap.size) (hg : W.grownBy W' (some w.heap.size)) : W'.cell? ⟨g, 0, none⟩ = some v ∧ CMade w g v ms W' := (h.2.grown hs hg).keeps

theorem tapeC {w W : World} {g : Nat} {v : Value} {ms : List Mem} (h : W.cell? ⟨g, 0, none⟩ = some v ∧ CMade w g v ms W) : TapeOk W w.heap.size := h.2.tape

theorem memsC {w W : World} {g : Nat} {v : Value} {ms : List Mem} (h : W.cell? ⟨g, 0, none⟩ = some v ∧ CMade w g v ms W) : MemsAt (fun b => w.heap.size < b) 2 W v ms := h.2.mems

theorem gr_self {d : Nat} {ms : List Mem} {D g G : Nat} (hc : Closed d ms g) (hD : Sub g D) (hg : g < 1024) (h : IsGr d ms (g &&& D) G) : G = g :=
  sub_antisymm (fun k hk => (sub_and.1 h.sub).1 k hk) (h.most g hg (sub_and.2 ⟨fun _ h => h, hD⟩) hc)

theorem sub_or {a b D : Nat} (h1 : Sub a D) (h2 : Sub b D) : Sub (a ||| b) D := fun k hk => by
  rw [Nat.testBit_or, Bool.or_eq_true] at hk
  exact hk.elim (h1 k) (h2 k)

theorem closed_or {d : Nat} {ms : List Mem} {a b : Nat} (hl : ms.length ≤ 10) (ha : a < 1024) (hb : b < 1024) (h1 : Closed d ms a) (h2 : Closed d ms b) : Closed d ms (a ||| b) := fun k hk => by
  have hab : a ||| b < 1024 := Nat.or_lt_two_pow (n := 10) ha hb
  have e1 := h1 k hk
  have e2 := h2 k hk
  unfold uns at e1 e2 ⊢
  rw [hasB_bit ha (by omega)] at e1
  rw [hasB_bit hb (by omega)] at e2
  rw [hasB_bit hab (by omega), Nat.testBit_or]
  cases h3 : a.testBit k
  · cases h4 : b.testBit k
    · rfl
    · rw [h4, Bool.true_and, Bool.not_eq_false'] at e2
      rw [sat_sub hab (fun j hj => by rw [Nat.testBit_or, hj, Bool.or_true]) e2]; rfl
  · rw [h3, Bool.true_and, Bool.not_eq_false'] at e1
    rw [sat_sub hab (fun j hj => by rw [Nat.testBit_or, hj, Bool.true_or]) e1]; rfl

theorem gr_mono {d : Nat} {ms : List Mem} {S S' G H : Nat} (hG : G < 1024) (h : IsGr d ms S G) (h' : IsGr d ms S' H) (hs : Sub S S') : G &&& H = G := by
  have hGH : Sub G H := h'.most G hG (fun k hk => hs k (h.sub k hk)) h.closed
  apply Nat.eq_of_testBit_eq
  intro k
  rw [Nat.testBit_and]
  cases hb : G.testBit k
  · rfl
  · rw [hGH k hb]; rfl

theorem sub_or_and {x z D : Nat} : Sub (x &&& D) ((x ||| z) &&& D) := fun k hk => by
  rw [Nat.testBit_and, Bool.and_eq_true] at hk
  rw [Nat.testBit_and, Nat.testBit_or, hk.1, hk.2]; rfl

end Go.Proofs.Ytfghnkgllmofgaa
