/- Sizes and depths of trusts, and the contracts of the reference's Size and Depth. -/
import Derived.Test.YtfchdkgdbdnoiaaDoorMake
namespace Go.Proofs.YtfchdkgdbdnoiaaDoor
set_option linter.unusedVariables false
open Go.RowKit

def sizeT : Nat → Tree → Nat
  | 0, _ => 0
  | d + 1, .mk _ ns is => ns.length + is.length + (is.map (sizeT d)).sum

def depthT : Nat → Tree → Nat
  | 0, _ => 0
  | d + 1, .mk _ _ is => ((is.map (depthT d)).foldl max 0) + 1

theorem sum_take_succ {l : List Nat} {k : Nat} {x : Nat} (h : l[k]? = some x) : (l.take (k + 1)).sum = (l.take k).sum + x := by
  rw [List.take_add_one, h]; simp

theorem sum_take_le : ∀ (l : List Nat) (k : Nat), (l.take k).sum ≤ l.sum
  | [], k => by simp
  | x :: l, 0 => by simp
  | x :: l, k + 1 => by simp only [List.take_succ_cons, List.sum_cons]; have := sum_take_le l k; omega

theorem fmax_take_succ {l : List Nat} {k : Nat} {x : Nat} (h : l[k]? = some x) : (l.take (k + 1)).foldl max 0 = max ((l.take k).foldl max 0) x := by
  rw [List.take_add_one, h]; simp

theorem fmax_le {n : Nat} : ∀ (l : List Nat) (a : Nat), a ≤ n → (∀ x ∈ l, x ≤ n) → l.foldl max a ≤ n
  | [], a, h, _ => h
  | x :: l, a, h, hl => fmax_le l (max a x) (by have := hl x List.mem_cons_self; omega) (fun y hy => hl y (List.mem_cons_of_mem _ hy))

theorem depthT_le : ∀ (d : Nat) (T : Tree), depthT d T ≤ d
  | 0, _ => Nat.le_refl _
  | d + 1, .mk _ _ is => by
    unfold depthT
    have := fmax_le (n := d) (is.map (depthT d)) 0 (Nat.zero_le _) (fun x hx => by obtain ⟨T, _, rfl⟩ := List.mem_map.1 hx; exact depthT_le d T)
    omega

theorem sizeT_sub {d : Nat} {thr : Int} {ns : List Int} {is : List Tree} {k : Nat} {T : Tree} (h : is[k]? = some T) : sizeT d T ≤ sizeT (d + 1) (.mk thr ns is) := by
  have h1 : (is.map (sizeT d))[k]? = some (sizeT d T) := by rw [List.getElem?_map, h]; rfl
  have h2 := sum_take_le (is.map (sizeT d)) (k + 1)
  rw [sum_take_succ h1] at h2
  show _ ≤ ns.length + is.length + (is.map (sizeT d)).sum
  omega

end Go.Proofs.YtfchdkgdbdnoiaaDoor
