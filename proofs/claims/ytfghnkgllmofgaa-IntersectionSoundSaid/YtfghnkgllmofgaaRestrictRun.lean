/- The walk of the reference's Restrict. -/
import Derived.Test.YtfghnkgllmofgaaRestrict
namespace Go.Proofs.Ytfghnkgllmofgaa
set_option linter.unusedVariables false
set_option linter.unusedSimpArgs false
open Go.RowKit

theorem bit0_fact (S K : Nat) (h : S < 1024) (hK : K < 10) : (bits .and .i64 ((S : Int) / 2 ^ K) 1 == 0) = !S.testBit K := by
  have all : ∀ S : Fin 1024, ∀ K : Fin 10, (bits .and .i64 ((S.val : Int) / 2 ^ K.val) 1 == 0) = !S.val.testBit K.val := by decide +kernel
  exact all ⟨S, h⟩ ⟨K, hK⟩

/-- Members in a row of its own, with trusts that lie below B0. -/
def RowT (B0 B d : Nat) (W : World) (v : Value) (rs : List Mem) : Prop :=
  ∃ cs : List Value, W.ownsRow B 53 4 v rs.length cs ∧ ∀ k m, rs[k]? = some m → ∃ x0 x1 x2, cs[k * 4]? = some (.bool m.1) ∧ cs[k * 4 + 1]? = some x0 ∧ cs[k * 4 + 2]? = some x1 ∧ cs[k * 4 + 3]? = some x2 ∧ TAt (fun b => b < B0) d W x0 x1 x2 m.2

theorem RowT.app {B0 B d : Nat} {wo W5 : World} {v' x0 x1 x2 : Value} {rs : List Mem} {m : Mem} {cs : List Value}
    (hcl : ∀ k m, rs[k]? = some m → ∃ x0 x1 x2, cs[k * 4]? = some (.bool m.1) ∧ cs[k * 4 + 1]? = some x0 ∧ cs[k * 4 + 2]? = some x1 ∧ cs[k * 4 + 3]? = some x2 ∧ TAt (fun b => b < B0) d wo x0 x1 x2 m.2) (hcn : cs.length = rs.length * 4)
    (keep : ∀ q, q < B0 → q < wo.heap.size → W5.heap[q]? = wo.heap[q]?) (hT : TAt (fun b => b < B0) d wo x0 x1 x2 m.2) (hown5 : W5.ownsRow B 53 4 v' (rs.length + 1) (cs ++ [.bool m.1, x0, x1, x2])) : RowT B0 B d W5 v' (rs ++ [m]) := by
  refine ⟨cs ++ [.bool m.1, x0, x1, x2], by simpa using hown5, fun k S hS => ?_⟩
  rcases Nat.lt_or_ge k rs.length with hk | hk
  · rw [List.getElem?_append_left hk] at hS
    obtain ⟨y0, y1, y2, e0, e1, e2, e3, e4⟩ := hcl k S hS
    exact ⟨y0, y1, y2, by rw [List.getElem?_append_left (by omega)]; exact e0, by rw [List.getElem?_append_left (by omega)]; exact e1, by rw [List.getElem?_append_left (by omega)]; exact e2, by rw [List.getElem?_append_left (by omega)]; exact e3, e4.keep (fun q hq hP => keep q hP hq)⟩
  · have hk2 : k = rs.length := by
      have := (List.getElem?_eq_some_iff.1 hS).1
      simp at this; omega
    subst hk2
    have hS' : S = m := by simpa using hS.symm
    subst hS'
    refine ⟨x0, x1, x2, ?_, ?_, ?_, ?_, hT.keep (fun q hq hP => keep q hP hq)⟩
    · rw [List.getElem?_append_right (by omega)]; simp [hcn]
    · rw [List.getElem?_append_right (by omega), show rs.length * 4 + 1 - cs.length = 1 by omega]; rfl
    · rw [List.getElem?_append_right (by omega), show rs.length * 4 + 2 - cs.length = 2 by omega]; rfl
    · rw [List.getElem?_append_right (by omega), show rs.length * 4 + 3 - cs.length = 3 by omega]; rfl

theorem RowT.keep {B0 B d : Nat} {W W' : World} {v : Value} {rs : List Mem} (h : RowT B0 B d W v rs) (hk : ∀ q, q < W.heap.size → (q < B0 ∨ B ≤ q) → W'.heap[q]? = W.heap[q]?) : RowT B0 B d W' v rs := by
  obtain ⟨cs, h1, h2⟩ := h
  refine ⟨cs, own_keepG h1 (fun j _ hB hl => hk j hl (.inr hB)), fun k m hm => ?_⟩
  obtain ⟨x0, x1, x2, e0, e1, e2, e3, e4⟩ := h2 k m hm
  exact ⟨x0, x1, x2, e0, e1, e2, e3, e4.keep (fun q hq hP => hk q hq (.inl hP))⟩

theorem RowT.mems {B0 B d : Nat} {W : World} {v : Value} {rs : List Mem} (h : RowT B0 B d W v rs) : MemsAt (fun _ => True) d W v rs := by
  obtain ⟨cs, h1, h2⟩ := h
  rcases h1.2 with ⟨hv, h0⟩ | ⟨g, cap, cur, hv, hb, _⟩
  · exact ⟨none, 0, by rw [hv, h0], fun k T hT => by have := (List.getElem?_eq_some_iff.1 hT).1; omega⟩
  · refine ⟨some ⟨g, 0, none⟩, cap, hv, fun k m hm => ?_⟩
    obtain ⟨x0, x1, x2, e0, e1, e2, e3, e4⟩ := h2 k m hm
    have c : ∀ j u, cs[j]? = some u → W.cell? ⟨g, 0 + j, none⟩ = some u := fun j u hu => by
      have := h1.cells (g := g) (by rw [hv]; rfl) j u hu
      rwa [Addr.add_lit] at this
    exact ⟨g, 0, x0, x1, x2, rfl, trivial, c _ _ e0, by rw [Nat.add_assoc]; exact c _ _ e1, by rw [Nat.add_assoc]; exact c _ _ e2, by rw [Nat.add_assoc]; exact c _ _ e3, e4.imp (fun q _ hq => trivial)⟩

end Go.Proofs.Ytfghnkgllmofgaa
