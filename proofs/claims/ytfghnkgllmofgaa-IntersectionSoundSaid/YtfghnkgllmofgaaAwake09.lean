/- The example of layer 9. -/
import Derived.Test.YtfghnkgllmofgaaClos3
namespace Go.Proofs.Ytfghnkgllmofgaa
set_option linter.unusedVariables false
set_option linter.unusedSimpArgs false
open Go.RowKit

def thT : Tree := .mk 2 [0, 1, 2] []

def thM : List Mem := [(true, thT), (true, thT), (true, thT)]

theorem nodes_bel {P : Nat → Prop} {w w' : World} {v : Value} {ns : List Int} (h : NodesAt P w v ns) (hb : Below w.heap.size w w') : NodesAt P w' v ns := by
  obtain ⟨A, c, h1, h2⟩ := h
  refine ⟨A, c, h1, fun k hk' => ?_⟩
  obtain ⟨b, off, e1, e2, e3⟩ := h2 k hk'
  exact ⟨b, off, e1, e2, (hb.cell (cell_lt e3)).trans e3⟩

theorem thM_decl : declS thM 3 = 7 := by decide

theorem thM_3 : ∀ k, k < 3 → uns 1 thM 3 k = false := by decide +kernel

theorem thM_7 : ∀ k, k < 3 → uns 1 thM 7 k = false := by decide +kernel

theorem thM_0 : ∀ k, k < 3 → uns 1 thM 0 k = false := by decide +kernel

theorem thM_1 : uns 1 thM 1 0 = true ∧ uns 1 thM 1 1 = false ∧ uns 1 thM 1 2 = false := by decide +kernel

theorem sub_antisymm {a b : Nat} (h1 : Sub a b) (h2 : Sub b a) : a = b := by
  apply Nat.eq_of_testBit_eq
  intro i
  rw [Bool.eq_iff_iff]
  exact ⟨h1 i, h2 i⟩

theorem gr_7 {G : Nat} (h : IsGr 1 thM 7 G) : G = 7 := sub_antisymm h.sub (h.most 7 (by omega) (fun _ h => h) (fun k hk => thM_7 k hk))

theorem gr_1 {G : Nat} (h : IsGr 1 thM 1 G) : G = 0 := by
  apply Nat.eq_of_testBit_eq
  intro i
  rw [Nat.zero_testBit]
  cases hb : G.testBit i
  · rfl
  · exfalso
    have h1 := h.sub i hb
    have hi : i = 0 := by
      rcases i with _ | i
      · rfl
      · simp [Nat.testBit_succ] at h1
    subst hi
    have hG1 : G = 1 := by
      apply sub_antisymm h.sub
      intro j hj
      have : j = 0 := by
        rcases j with _ | j
        · rfl
        · simp [Nat.testBit_succ] at hj
      rw [this]; exact hb
    rw [hG1] at h
    have := h.closed 0 (by decide)
    rw [thM_1.1] at this
    cases this

theorem el_1 {gs : List Int} {G : Nat} (h : ElimR 1 thM 1 gs G) (hG : G = 0) : gs = [0] := by
  cases gs with
  | nil =>
    have : G = 1 := h
    omega
  | cons x l =>
    obtain ⟨k, rfl, hk, hu, h2⟩ := h
    have hk0 : k = 0 := by
      have hk3 : k < 3 := hk
      match k, hk3, hu with
      | 0, _, _ => rfl
      | 1, _, hu => rw [thM_1.2.1] at hu; cases hu
      | 2, _, hu => rw [thM_1.2.2] at hu; cases hu
    subst hk0
    cases l with
    | nil => rfl
    | cons y l =>
      obtain ⟨k, _, hk, hu, _⟩ := h2
      have h0 := thM_0 k hk
      rw [show (1 : Nat) - 2 ^ 0 = 0 by decide, h0] at hu
      cases hu

end Go.Proofs.Ytfghnkgllmofgaa
