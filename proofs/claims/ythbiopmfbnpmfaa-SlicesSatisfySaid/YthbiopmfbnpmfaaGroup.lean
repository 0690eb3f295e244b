/- The contract of trustquorummake.group: a trust in the own group, or in groups. -/
import Derived.Test.YthbiopmfbnpmfaaMost
namespace Go.Proofs.Ythbiopmfbnpmfaa
set_option linter.unusedVariables false
set_option linter.unusedSimpArgs false
open Go.RowKit

theorem WF.up {n : Int} : ∀ {d : Nat} {T : Tree}, WF n d T → WF n (d + 1) T
  | 0, _, h => h.elim
  | d + 1, .mk thr ns is, ⟨h1, h2, h3, h4, h5, h6, h7⟩ => ⟨h1, h2, h3, h4, h5, h6, fun T hT => (h7 T hT).up⟩

/-- The world of group. -/
structure GroupAt (w W : World) (g sb B m : Nat) (lv : Value) (ls : List Tree) : Prop where
  res : OutAt W g 0 (.slice none 0 0) (.slice none 0 0)
  tape : TapeOk W sb
  grown : w.grownBy W (some sb)
  inner : Inner B 1 W lv ls
  wf : ∀ T ∈ ls, WF m 1 T
  size : B ≤ W.heap.size

theorem GroupAt.below {w W W' : World} {g sb B m : Nat} {lv : Value} {ls : List Tree} (h : GroupAt w W g sb B m lv ls) (hb : Below W.heap.size W W') : GroupAt w W' g sb B m lv ls :=
  ⟨h.res.keep (hb.block _ h.res.lt), h.tape.below hb, grown_trans h.grown (grown_below hb), h.inner.below hb, h.wf, Nat.le_trans h.size hb.size⟩

/-- A variable of its own and rows behind it may change. -/
theorem GroupAt.own {w W W' : World} {g sb B m xb : Nat} {lv : Value} {ls : List Tree} (h : GroupAt w W g sb B m lv ls) (hg : W.grownBy W' (some xb)) (h0 : sb < g) (h1 : g < xb) (hw : w.heap.size ≤ xb) (hx : B ≤ xb) (hlv : ∀ j, lv.ownBlock = some j → j < xb) (hlow : ∀ q, q ≠ xb → B ≤ q → q < W.heap.size → W'.heap[q]? = W.heap[q]?) (hin : Inner B 1 W' lv ls) : GroupAt w W' g sb B m lv ls :=
  ⟨h.res.keep (hg.block _ h.res.lt (by simp; omega)), h.tape.keepLow (fun q hq => hg.block q (by have := h.tape.lt; omega) (by simp; omega)), gown h.grown hg (fun j hj => by obtain rfl := Option.some.inj hj; exact hw), hin, h.wf, Nat.le_trans h.size hg.size⟩

theorem GroupAt.tapeStep {w W W' : World} {g sb B m : Nat} {lv : Value} {ls : List Tree} (h : GroupAt w W g sb B m lv ls) (hs : TapeOk W' sb) (hg : W.grownBy W' (some sb)) (h0 : sb < g) (h1 : sb < B) : GroupAt w W' g sb B m lv ls :=
  ⟨h.res.keep (hg.block _ h.res.lt (by simp; omega)), hs, grown_trans h.grown hg, h.inner.keep hg (fun j hj => by obtain rfl := Option.some.inj hj; exact h1), h.wf, Nat.le_trans h.size hg.size⟩

theorem nodes_imp' {P Q : Nat → Prop} {w : World} {v : Value} {ns : List Int} (h : NodesAt P w v ns) (hq : ∀ k, P k → Q k) : NodesAt Q w v ns := by
  obtain ⟨A, c, h1, h2⟩ := h
  refine ⟨A, c, h1, fun k hk' => ?_⟩
  obtain ⟨b, off, e1, e2, e3⟩ := h2 k hk'
  exact ⟨b, off, e1, hq _ e2, e3⟩

theorem own_keepG {W W' : World} {B n e size : Nat} {v : Value} {xs : List Value} (h : W.ownsRow B e size v n xs) (hk : ∀ j, v.ownBlock = some j → B ≤ j → j < W.heap.size → W'.heap[j]? = W.heap[j]?) : W'.ownsRow B e size v n xs := by
  refine ⟨h.1, ?_⟩
  rcases h.2 with hn | ⟨g, cap, cur, rfl, hb, hgg, rest⟩
  · exact .inl hn
  · refine .inr ⟨g, cap, cur, rfl, hb, (hk g rfl hb ?_).trans hgg, rest⟩
    rcases Nat.lt_or_ge g W.heap.size with h1 | h1
    · exact h1
    · rw [Array.getElem?_eq_none h1] at hgg; cases hgg

/-- One more trust in the list. -/
theorem group_app {w wo WA W4 : World} {g sb m g4 cap4 : Nat} {lv x1 x2 : Value} {ls : List Tree} {T : Tree} {t : Int} {cs : List Value} (h : GroupAt w wo g sb (g + 1) m lv ls) (hg : w.heap.size = g) (hsl : sb < g) (low : ∀ q, q < wo.heap.size → q ≠ sb → WA.heap[q]? = wo.heap[q]?) (hs : TapeOk WA sb) (hgr : w.grownBy WA (some sb)) (hsz : wo.heap.size ≤ WA.heap.size)
    (hcl : ∀ k T, ls[k]? = some T → ∃ x0 x1 x2, cs[k * 3]? = some x0 ∧ cs[k * 3 + 1]? = some x1 ∧ cs[k * 3 + 2]? = some x2 ∧ TAt (fun b => g + 1 ≤ b ∧ lv.ownBlock ≠ some b) 1 wo x0 x1 x2 T) (hcn : cs.length = ls.length * 3)
    (hT : TAt (fun b => wo.heap.size ≤ b) 1 WA (.int .i64 t) x1 x2 T) (hWF : WF m 1 T)
    (hown4 : W4.ownsRow (g + 1) 27 3 (.slice (some ⟨g4, 0, none⟩) (ls.length + 1) cap4) (ls.length + 1) (cs ++ [.int .i64 t, x1, x2])) (hg4 : WA.grownBy W4 lv.ownBlock) (hat4 : lv.ownBlock = some g4 ∨ g4 = WA.heap.size) :
    GroupAt w W4 g sb (g + 1) m (.slice (some ⟨g4, 0, none⟩) (ls.length + 1) cap4) (ls ++ [T]) := by
  have HOW := h.inner.own
  have hrl := h.res.lt
  have hz4 := hg4.size
  refine ⟨?_, ?_, ?_, ?_, ?_, ?_⟩
  · exact h.res.keep ((hg4.block g (by omega) (fun e => by have := (HOW _ e.symm).1; omega)).trans (low g hrl (by omega)))
  · exact hs.keepLow (fun q hq => hg4.block q (by omega) (fun e => by have := (HOW _ e.symm).1; omega))
  · exact gown hgr hg4 (fun j hj => by have := (HOW j hj).1; omega)
  · refine Inner.append (fun k T hT => ?_) hcn (hT.imp (fun q _ hq => ⟨by have := h.size; omega, fun e => by have := (HOW q e).2; omega⟩)) hown4 hg4 hat4
    obtain ⟨y0, y1, y2, e0, e1, e2, e3⟩ := hcl k T hT
    exact ⟨y0, y1, y2, e0, e1, e2, e3.keep (fun q hq hP => low q hq (by omega))⟩
  · intro S hS
    rcases List.mem_append.1 hS with h1 | h1
    · exact h.wf S h1
    · rw [List.mem_singleton] at h1; rw [h1]; exact hWF
  · have := h.size; omega

end Go.Proofs.Ythbiopmfbnpmfaa
