/- The contracts of data.Flat, data.List over trusts, and threshold.Dual. -/
import Derived.Test.YtbbdmaakphoofaaDoorRef02
namespace Go.Proofs.YtbbdmaakphoofaaDoor
set_option linter.unusedVariables false
open Go.RowKit

/-- v is a slice of just these nodes, in blocks of which P holds. -/
def NodesAt (P : Nat → Prop) (w : World) (v : Value) (ns : List Int) : Prop :=
  ∃ A c, v = .slice A ns.length c ∧ ∀ k, k < ns.length → ∃ b off, A = some ⟨b, off, none⟩ ∧ P b ∧ w.cell? ⟨b, off + k, none⟩ = some (.int .i64 (ns.getD k 0))
theorem NodesAt.of_own {W : World} {B : Nat} {v : Value} {ns : List Int} (h : W.ownsRow B 3 1 v ns.length (ns.map (Value.int .i64))) : NodesAt (fun b => B ≤ b) W v ns := by
  rcases h.2 with ⟨hv, h0⟩ | ⟨g, cap, cur, hv, hb, _⟩
  · exact ⟨none, 0, by rw [hv, h0], fun k hk => by omega⟩
  · refine ⟨some ⟨g, 0, none⟩, cap, hv, fun k hk => ⟨g, 0, rfl, hb, ?_⟩⟩
    have := h.cells (g := g) (by rw [hv]; rfl) k (.int .i64 (ns.getD k 0)) (by
      rw [List.getElem?_map, List.getD_eq_getElem?_getD, List.getElem?_eq_getElem hk]; rfl)
    rw [Addr.add_lit] at this
    exact this

set_option maxHeartbeats 1000000 in
theorem flat_run (P : Nat → Prop) (v : Value) (ns : List Int) (w : World) (hn : ns.length ≤ 1000000) (h : NodesAt P w v ns) :
    Calls Tryd.prog 87 #[v] w fun e w' => ∃ v', e = .returned v' ∧ NodesAt (fun b => w.heap.size ≤ b) w' v' ns ∧ Below w.heap.size w w' := by
  obtain ⟨i0, hi, hz0, hz1, hz2⟩ := info_parts infoInt
  obtain ⟨A, c, rfl, h1⟩ := h
  rcases A with _ | ⟨b, off, p⟩
  · have h0 : ns.length = 0 := by
      rcases Nat.eq_zero_or_pos ns.length with h | h
      · exact h
      · obtain ⟨_, _, e, _⟩ := h1 0 h; cases e
    rw [List.eq_nil_of_length_eq_zero h0]
    go_enter Tryd.func87, Tryd.ntmps87
    go_wp2
    go_ret
    exact ⟨_, rfl, ⟨none, 0, rfl, fun k hk => by simp at hk⟩, bref _⟩
  · have hc : ∀ j (u : Value), (ns.map (Value.int .i64))[j]? = some u → w.cell? ((⟨b, off, p⟩ : Addr).add j) = some u := by
      intro j u hu
      rw [List.getElem?_map] at hu
      have hj : j < ns.length := by
        rcases Nat.lt_or_ge j ns.length with h | h
        · exact h
        · rw [List.getElem?_eq_none h] at hu; cases hu
      obtain ⟨b', off', e, _, e2⟩ := h1 j hj
      simp only [Option.some.injEq, Addr.mk.injEq] at e
      obtain ⟨rfl, rfl, rfl⟩ := e
      rw [Addr.add_lit, e2]
      rw [List.getElem?_eq_getElem hj] at hu
      rw [List.getD_eq_getElem?_getD, List.getElem?_eq_getElem hj]
      exact hu
    have HC := Lib.hid hc
    clear h1 hc
    go_enter Tryd.func87, Tryd.ntmps87
    go_wp2_with (at_builtin; refine wpList_append_own _ rfl _ _ 22 rfl w.heap.size 3 i0 (.int .i64 0) 1 8 Tryd.underlying22 hi hz0 hz1 hz2 rfl (by decide) _ _ _ rfl (World.ownsRow_nil _ _ _ _) ⟨b, off, p⟩ ns.length c (ns.map (Value.int .i64)) rfl (by simp) HC.out (fun u hu => by obtain ⟨x, _, rfl⟩ := List.mem_map.1 hu; rfl) (by unfold maxLen; omega) (by omega) (Nat.le_refl _) ?_; intro v' w1 hown' hgrow hnil)
    rw [Nat.zero_add, List.nil_append] at hown'
    have HO := Lib.hid hown'
    have HB := Lib.hid (Below.grown (bref w) hgrow (Nat.le_refl _) (fun j hj => by cases hj))
    clear hown' hgrow hnil
    go_wp2_with fail
    go_ret
    exact ⟨_, rfl, NodesAt.of_own HO.out, HB.out⟩
end Go.Proofs.YtbbdmaakphoofaaDoor
