/- The inner trusts of a trust that is being made: a slice of its own whose cells are trusts that lie elsewhere. -/
import Derived.Test.YtfghnkgllmofgaaInner0
namespace Go.Proofs.Ytfghnkgllmofgaa
set_option linter.unusedVariables false
set_option linter.unusedSimpArgs false
open Go.RowKit

def Inner (B d : Nat) (W : World) (v : Value) (is : List Tree) : Prop :=
  ∃ cs : List Value, W.ownsRow B 49 3 v is.length cs ∧ ∀ k T, is[k]? = some T → ∃ x0 x1 x2, cs[k * 3]? = some x0 ∧ cs[k * 3 + 1]? = some x1 ∧ cs[k * 3 + 2]? = some x2 ∧ TAt (fun b => B ≤ b ∧ v.ownBlock ≠ some b) d W x0 x1 x2 T

theorem Inner.nil (B d : Nat) (W : World) : Inner B d W (.slice none 0 0) [] := ⟨[], World.ownsRow_nil _ _ _ _, fun k T h => by simp at h⟩

theorem Inner.own {B d : Nat} {W : World} {v : Value} {is : List Tree} (h : Inner B d W v is) : ∀ j, v.ownBlock = some j → B ≤ j ∧ j < W.heap.size := by
  obtain ⟨cs, h1, _⟩ := h
  exact h1.lt

theorem Inner.slice {B d : Nat} {W : World} {v : Value} {is : List Tree} (h : Inner B d W v is) : ∃ A c, v = .slice A is.length c := by
  obtain ⟨cs, h1, _⟩ := h
  rcases h1.2 with ⟨hv, h0⟩ | ⟨g, cap, cur, hv, _⟩
  · exact ⟨none, 0, by rw [hv, h0]⟩
  · exact ⟨some ⟨g, 0, none⟩, cap, hv⟩

/-- What leaves all blocks from B on alone. -/
theorem Inner.keep {B d : Nat} {W W' : World} {v : Value} {is : List Tree} (h : Inner B d W v is) {r : Option Nat} (hg : W.grownBy W' r) (hr : ∀ j, r = some j → j < B) : Inner B d W' v is := by
  obtain ⟨cs, h1, h2⟩ := h
  refine ⟨cs, h1.kept hg ?_, fun k T hT => ?_⟩
  · rcases hv : v.ownBlock with _ | j
    · exact .inl rfl
    · right; intro e; have := hr j e.symm; have := (h1.lt j hv).1; omega
  · obtain ⟨x0, x1, x2, e0, e1, e2, e3⟩ := h2 k T hT
    exact ⟨x0, x1, x2, e0, e1, e2, e3.keep (fun q hq hP => hg.block q hq (fun e => by have := hr q e.symm; omega))⟩

theorem Inner.below {B d : Nat} {W W' : World} {v : Value} {is : List Tree} (h : Inner B d W v is) (hb : Below W.heap.size W W') : Inner B d W' v is :=
  h.keep (r := none) ⟨hb.os, hb.tape, hb.output, hb.size, fun k hk _ => hb.block k hk⟩ (fun j hj => by cases hj)

theorem Inner.alloc {B d : Nat} {W : World} {v : Value} {is : List Tree} (h : Inner B d W v is) (o : Obj) : Inner B d (W.alloc o) v is := h.below (balloc (bref _) _)

theorem Inner.setLow {B d : Nat} {W : World} {v : Value} {is : List Tree} (h : Inner B d W v is) {p : Addr} (hp : p.block < B) (u : Value) : Inner B d (W.setCell p u) v is :=
  h.keep (gset1 W p u) (fun j hj => by obtain rfl := Option.some.inj hj; exact hp)

theorem Inner.drew {B d : Nat} {W : World} {v : Value} {is : List Tree} (h : Inner B d W v is) : Inner B d W.drew v is := by
  obtain ⟨cs, h1, h2⟩ := h
  refine ⟨cs, h1, fun k T hT => ?_⟩
  obtain ⟨x0, x1, x2, e0, e1, e2, e3⟩ := h2 k T hT
  exact ⟨x0, x1, x2, e0, e1, e2, TAt.keep (w := W) (w' := W.drew) (fun q hq hP => rfl) e3⟩

/-- One more: the trust T lies in blocks that are not the row's; behind the append. -/
theorem Inner.append {B d : Nat} {W W' : World} {v : Value} {is : List Tree} {x0 x1 x2 : Value} {T : Tree} {cs : List Value} {g cap : Nat}
    (h1 : ∀ k T, is[k]? = some T → ∃ x0 x1 x2, cs[k * 3]? = some x0 ∧ cs[k * 3 + 1]? = some x1 ∧ cs[k * 3 + 2]? = some x2 ∧ TAt (fun b => B ≤ b ∧ v.ownBlock ≠ some b) d W x0 x1 x2 T)
    (hl : cs.length = is.length * 3)
    (hT : TAt (fun b => B ≤ b ∧ v.ownBlock ≠ some b) d W x0 x1 x2 T)
    (hown : W'.ownsRow B 49 3 (.slice (some ⟨g, 0, none⟩) (is.length + 1) cap) (is.length + 1) (cs ++ [x0, x1, x2])) (hg : W.grownBy W' v.ownBlock) (hat : v.ownBlock = some g ∨ g = W.heap.size) :
    Inner B d W' (.slice (some ⟨g, 0, none⟩) (is.length + 1) cap) (is ++ [T]) := by
  have up : ∀ {y0 y1 y2 : Value} {S : Tree}, TAt (fun b => B ≤ b ∧ v.ownBlock ≠ some b) d W y0 y1 y2 S → TAt (fun b => B ≤ b ∧ (Value.slice (some ⟨g, 0, none⟩) (is.length + 1) cap).ownBlock ≠ some b) d W' y0 y1 y2 S := fun h =>
    TAt.both (fun q hq hP => hg.block q hq (fun e => hP.2 e.symm)) (fun q hq hP => ⟨hP.1, fun e => by
      have e' : g = q := by simpa [Value.ownBlock] using e
      rcases hat with hat | hat
      · exact hP.2 (by rw [hat, e'])
      · omega⟩) _ _ _ _ _ h
  refine ⟨cs ++ [x0, x1, x2], by simpa using hown, fun k S hS => ?_⟩
  rcases Nat.lt_or_ge k is.length with hk | hk
  · rw [List.getElem?_append_left hk] at hS
    obtain ⟨y0, y1, y2, e0, e1, e2, e3⟩ := h1 k S hS
    exact ⟨y0, y1, y2, by rw [List.getElem?_append_left (by omega)]; exact e0, by rw [List.getElem?_append_left (by omega)]; exact e1, by rw [List.getElem?_append_left (by omega)]; exact e2, up e3⟩
  · have hk2 : k = is.length := by
      have := (List.getElem?_eq_some_iff.1 hS).1
      simp at this; omega
    subst hk2
    have hS' : S = T := by simpa using hS.symm
    subst hS'
    refine ⟨x0, x1, x2, ?_, ?_, ?_, up hT⟩
    · rw [List.getElem?_append_right (by omega)]; simp [hl]
    · rw [List.getElem?_append_right (by omega), show is.length * 3 + 1 - cs.length = 1 by omega]; rfl
    · rw [List.getElem?_append_right (by omega), show is.length * 3 + 2 - cs.length = 2 by omega]; rfl

/-- The trust that has been made, out of its parts. -/
theorem made {B d : Nat} {W : World} {t : Int} {v1 v2 : Value} {ns : List Int} {is : List Tree} {P : Nat → Prop} (hP : ∀ b, B ≤ b → P b) (hn : ns.length ≤ 1000000) (hi : is.length ≤ 1000000)
    (h1 : W.ownsRow B 3 1 v1 ns.length (ns.map (Value.int .i64))) (h2 : Inner B d W v2 is) : TAt P (d + 1) W (.int .i64 t) v1 v2 (.mk t ns is) := by
  refine ⟨rfl, hn, hi, ?_, ?_⟩
  · rcases h1.2 with ⟨hv, h0⟩ | ⟨g, cap, cur, hv, hb, _⟩
    · exact ⟨none, 0, by rw [hv, h0], fun k hk => by omega⟩
    · refine ⟨some ⟨g, 0, none⟩, cap, hv, fun k hk => ⟨g, 0, rfl, hP g hb, ?_⟩⟩
      have := h1.cells (g := g) (by rw [hv]; rfl) k (.int .i64 (ns.getD k 0)) (by
        rw [List.getElem?_map, List.getD_eq_getElem?_getD, List.getElem?_eq_getElem hk]; rfl)
      rw [Addr.add_lit] at this
      exact this
  · obtain ⟨cs, h2, h3⟩ := h2
    rcases h2.2 with ⟨hv, h0⟩ | ⟨g, cap, cur, hv, hb, _⟩
    · exact ⟨none, 0, by rw [hv, h0], fun k T hT => by have := (List.getElem?_eq_some_iff.1 hT).1; omega⟩
    · refine ⟨some ⟨g, 0, none⟩, cap, hv, fun k T hT => ?_⟩
      obtain ⟨x0, x1, x2, e0, e1, e2, e3⟩ := h3 k T hT
      have c : ∀ j u, cs[j]? = some u → W.cell? ⟨g, 0 + j, none⟩ = some u := fun j u hu => by
        have := h2.cells (g := g) (by rw [hv]; rfl) j u hu
        rwa [Addr.add_lit] at this
      exact ⟨g, 0, x0, x1, x2, rfl, hP g hb, c _ _ e0, by rw [Nat.add_assoc]; exact c _ _ e1, by rw [Nat.add_assoc]; exact c _ _ e2, e3.imp (fun q _ hq => hP q hq.1)⟩

theorem own_apart {W : World} {B : Nat} {v1 v2 : Value} {n m : Nat} {xs ys : List Value} (h1 : W.ownsRow B 3 1 v1 n xs) (h2 : W.ownsRow B 49 3 v2 m ys) : v1.ownBlock = none ∨ v1.ownBlock ≠ v2.ownBlock := by
  rcases h1.2 with ⟨hv, h0⟩ | ⟨g, cap, cur, hv, hb, hg, _⟩
  · exact .inl (by rw [hv]; rfl)
  · rcases h2.2 with ⟨hv', h0'⟩ | ⟨g', cap', cur', hv', hb', hg', _⟩
    · right; rw [hv, hv']; simp [Value.ownBlock]
    · right; rw [hv, hv']; simp only [Value.ownBlock]
      intro e
      obtain rfl := Option.some.inj e
      rw [hg] at hg'
      simp at hg'

theorem cell_three_new (w : World) (a b c : Value) (t : TypeId) : ∀ j u, [a, b, c][j]? = some u → (w.alloc (.cells #[a, b, c] t)).cell? ((⟨w.heap.size, 0, none⟩ : Addr).add j) = some u :=
  fun j u hu => World.news_of_block (heap_alloc_new w _) j u (by simpa using hu)

end Go.Proofs.Ytfghnkgllmofgaa
