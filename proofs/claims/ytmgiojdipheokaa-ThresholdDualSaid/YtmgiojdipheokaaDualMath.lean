/- The dual: what it holds, its form, its dual. -/
import Derived.Test.YtmgiojdipheokaaMade
import Derived.Test.YtmgiojdipheokaaRight
import Derived.Test.YtmgiojdipheokaaSame
namespace Go.Proofs.Ytmgiojdipheokaa
set_option linter.unusedVariables false
open Go.RowKit

theorem cnt_compl {α : Type} {p q : α → Bool} : ∀ (l : List α), (∀ x ∈ l, p x = !q x) → cnt p l + cnt q l = l.length
  | [], _ => rfl
  | x :: l, h => by
    have ih := cnt_compl l (fun y hy => h y (List.mem_cons_of_mem _ hy))
    have h1 := h x List.mem_cons_self
    unfold cnt at *
    rw [List.filter_cons, List.filter_cons, h1]
    cases hq : q x
    · simp; omega
    · simp; omega
theorem cnt_map {α β : Type} (p : β → Bool) (f : α → β) (l : List α) : cnt p (l.map f) = cnt (fun x => p (f x)) l := by
  unfold cnt
  rw [List.filter_map, List.length_map]; rfl
theorem holdsT_dual {n : Int} {p q : Int → Bool} (h : ∀ x, 0 ≤ x → x < n → p x = !q x) : ∀ (d : Nat) (T : Tree), WF n d T → holdsT d q (dualT d T) = !holdsT d p T
  | 0, _, w => w.elim
  | d + 1, .mk thr ns is, w => by
    obtain ⟨_, _, _, _, hr, _, hi⟩ := w
    have h1 := cnt_compl (p := p) (q := q) ns (fun x hx => h x (hr x hx).1 (hr x hx).2)
    have h2 := cnt_compl (p := holdsT d p) (q := fun T => holdsT d q (dualT d T)) is (fun T hT => by show _ = !holdsT d q (dualT d T); rw [holdsT_dual h d T (hi T hT)]; simp)
    show decide ((((ns.length + is.length : Nat) : Int) + 1 - thr) ≤ ((cnt q ns + cnt (holdsT d q) (is.map (dualT d)) : Nat) : Int)) = !decide (thr ≤ ((cnt p ns + cnt (holdsT d p) is : Nat) : Int))
    rw [cnt_map]
    generalize cnt p ns = a at *
    generalize cnt q ns = b at *
    generalize cnt (holdsT d p) is = a' at *
    generalize cnt (fun x => holdsT d q (dualT d x)) is = b' at *
    by_cases hc : thr ≤ ((a + a' : Nat) : Int)
    · rw [decide_eq_true hc, decide_eq_false (by omega)]; rfl
    · rw [decide_eq_false hc, decide_eq_true (by omega)]; rfl
theorem dual_wf {n : Int} : ∀ (d : Nat) (T : Tree), WF n d T → WF n d (dualT d T)
  | 0, _, w => w.elim
  | d + 1, .mk thr ns is, w => by
    obtain ⟨h1, h2, h3, h4, h5, h6, h7⟩ := w
    refine ⟨by omega, ?_, h3, by rw [List.length_map]; exact h4, h5, h6, fun T hT => ?_⟩
    · rw [List.length_map]; omega
    · obtain ⟨U, hU, rfl⟩ := List.mem_map.1 hT
      exact dual_wf d U (h7 U hU)
theorem dual_size : ∀ (d : Nat) (T : Tree), sizeT d (dualT d T) = sizeT d T
  | 0, _ => rfl
  | d + 1, .mk thr ns is => by
    show ns.length + (is.map (dualT d)).length + ((is.map (dualT d)).map (sizeT d)).sum = ns.length + is.length + (is.map (sizeT d)).sum
    rw [List.length_map, List.map_map, show (sizeT d ∘ dualT d) = sizeT d from funext (dual_size d)]
theorem dual_dual : ∀ (d : Nat) (T : Tree), dualT d (dualT d T) = T
  | 0, _ => rfl
  | d + 1, .mk thr ns is => by
    show Tree.mk (((ns.length + (is.map (dualT d)).length : Nat) : Int) + 1 - (((ns.length + is.length : Nat) : Int) + 1 - thr)) ns ((is.map (dualT d)).map (dualT d)) = .mk thr ns is
    rw [List.length_map, List.map_map, show (dualT d ∘ dualT d) = id from funext (dual_dual d), List.map_id]
    congr 1; omega

section
variable {n : Int} {d : Nat} {T : Tree}
theorem sat_dual {s : Int} (hn : n ≤ 10) (w : WF n d T) (h0 : 0 ≤ s) (h1 : s < 1024) : satB d (dualT d T) s = blkB d T s := by
  rw [sat_in h0 h1, blk_in h0 h1]
  exact holdsT_dual (fun x x0 x1 => hasB_compl h0 h1 x0 (by omega)) d T w
theorem blk_dual {s : Int} (hn : n ≤ 10) (w : WF n d T) (h0 : 0 ≤ s) (h1 : s < 1024) : blkB d (dualT d T) s = satB d T s := by
  rw [sat_in h0 h1, blk_in h0 h1, holdsT_dual (p := hasB s) (fun x x0 x1 => by rw [hasB_compl h0 h1 x0 (by omega)]; simp) d T w]
  simp
end
end Go.Proofs.Ytmgiojdipheokaa
