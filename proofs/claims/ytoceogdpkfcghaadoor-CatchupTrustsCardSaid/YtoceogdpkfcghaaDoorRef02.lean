/- The contracts of the reference's check and Valid, and of trustquorummake.Trust. -/
import Derived.Test.YtoceogdpkfcghaaDoorRef01
import Derived.Deep.CutRange
namespace Go.Proofs.YtoceogdpkfcghaaDoor
set_option linter.unusedVariables false
open Go.RowKit

theorem WF.inR {n : Int} (hn : n ≤ 10) {d : Nat} {thr : Int} {ns : List Int} {is : List Tree} (h : WF n (d + 1) (.mk thr ns is)) : InR ns := fun x hx => by
  have := h.2.2.2.2.1 x hx
  omega

theorem sum_le_mul : ∀ (l : List Nat) (B : Nat), (∀ x ∈ l, x ≤ B) → l.sum ≤ l.length * B
  | [], B, _ => by simp
  | x :: l, B, h => by
    have h1 := h x List.mem_cons_self
    have h2 := sum_le_mul l B (fun y hy => h y (List.mem_cons_of_mem _ hy))
    simp only [List.sum_cons, List.length_cons, Nat.add_mul, Nat.one_mul]
    omega

theorem WF.size {n : Int} : ∀ (d : Nat) (T : Tree), WF n d T → sizeT d T ≤ 16 * 4 ^ d
  | 0, _, h => h.elim
  | d + 1, .mk thr ns is, h => by
    obtain ⟨_, _, h5, h3, _, _, hi⟩ := h
    have h1 := sum_le_mul (is.map (sizeT d)) (16 * 4 ^ d) (fun x hx => by obtain ⟨T, hT, rfl⟩ := List.mem_map.1 hx; exact WF.size d T (hi T hT))
    rw [List.length_map] at h1
    have h2 : is.length * (16 * 4 ^ d) ≤ 3 * (16 * 4 ^ d) := Nat.mul_le_mul_right _ h3
    have h6 : 1 ≤ 4 ^ d := Nat.one_le_pow _ _ (by omega)
    show ns.length + is.length + (is.map (sizeT d)).sum ≤ 16 * 4 ^ (d + 1)
    rw [Nat.pow_succ]
    omega

theorem WF.size4 {n : Int} {d : Nat} {T : Tree} (h : WF n d T) (hd : d ≤ 4) : sizeT d T ≤ 4096 := by
  have h1 := WF.size d T h
  have h2 : 4 ^ d ≤ 4 ^ 4 := Nat.pow_le_pow_right (by omega) hd
  omega

/-- A trust as trustquorummake.Trust returns it. -/
def Fine (n : Int) (d : Nat) (T : Tree) : Prop := WF n d T ∧ sizeT d T ≤ 200

theorem Fine.single {n r : Int} {D : Nat} (h0 : 0 ≤ r) (h1 : r < n) : Fine n (D + 1) (.mk 1 [r] []) := by
  refine ⟨?_, by simp [sizeT]⟩
  show 1 ≤ (1 : Int) ∧ (1 : Int) ≤ (([r].length + ([] : List Tree).length : Nat) : Int) ∧ [r].length ≤ 10 ∧ ([] : List Tree).length ≤ 3 ∧ (∀ x ∈ [r], 0 ≤ x ∧ x < n) ∧ [r].Nodup ∧ ∀ T ∈ ([] : List Tree), WF n D T
  refine ⟨by omega, by simp, by simp, by simp, fun x hx => ?_, by simp, fun T hT => by simp at hT⟩
  rw [List.mem_singleton] at hx
  omega

end Go.Proofs.YtoceogdpkfcghaaDoor
