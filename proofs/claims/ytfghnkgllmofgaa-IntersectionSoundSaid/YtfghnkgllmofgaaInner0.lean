/- Words for the making of trusts: the trust that is being made, its nodes, its inner trusts. -/
import Derived.Test.YtfghnkgllmofgaaOrderRun
import Derived.Test.YtfghnkgllmofgaaSat
import Derived.Deep.DeepCutAuto
namespace Go.Proofs.Ytfghnkgllmofgaa
set_option linter.unusedVariables false
set_option linter.unusedSimpArgs false
open Go.RowKit

theorem infoTrust : (Try.prog.info? 49).map (fun i => (i.zero, i.size, i.bytes)) = some (some (.agg #[.int .i64 0, .slice none 0 0, .slice none 0 0]), 3, 56) := by kernel_rfl

set_option maxHeartbeats 400000 in
theorem TPick_run (w : World) (sb g : Nat) (l : List Int) (n : Nat) (hn : l.length = n) (hn0 : 1 ≤ n) (hn1 : n ≤ 1000) (hc : ∀ j, j < n → w.cell? ⟨g, j, none⟩ = some (.int .i64 (l.getD j 0))) (hne : g ≠ sb) (hs : TapeOk w sb) :
    Calls Try.prog 34 #[.pointer (some ⟨sb, 0, none⟩), .slice (some ⟨g, 0, none⟩) n n] w fun e w' => ∃ j, j < n ∧ e = .returned (.int .i64 (l.getD j 0)) ∧ TapeOk w' sb ∧ w.grownBy w' (some sb) := by
  have HS := Lib.hid hs
  have HC := Lib.hid hc
  have HN := Lib.hid hn
  clear hs hc hn
  go_enter Try.func34, Try.ntmps34
  go_wp2_with fail
  refine (TN_run _ _ _ (by omega) (by omega) HS.out).mono ?_
  rintro e w1 ⟨r, r0, r1, rfl, hs1, hg1⟩
  obtain ⟨j, rfl⟩ := Int.eq_ofNat_of_zero_le r0
  have hj : j < n := by omega
  have hcell : w1.cell? ⟨g, j, none⟩ = some (.int .i64 (l.getD j 0)) := (World.cell?_of_block (hg1.block g (cell_lt (HC.out j hj)) (by simpa using hne))).trans (HC.out j hj)
  obtain ⟨x, hx⟩ : ∃ x, l.getD j 0 = x := ⟨_, rfl⟩
  rw [hx] at hcell
  have HX := Lib.hid hx
  clear hx
  have HS1 := Lib.hid hs1
  have HG1 := Lib.hid hg1
  clear hs1 hg1
  go_wp2_with fail
  go_ret
  exact ⟨j, hj, by rw [HX.out]; rfl, HS1.out, HG1.out⟩


/-- A trust as it is made: thresholds from 1 to the number of entries, nodes from 0 on below n, each once at its level. -/
def WF (n : Int) : Nat → Tree → Prop
  | 0, _ => False
  | d + 1, .mk thr ns is => 1 ≤ thr ∧ thr ≤ ((ns.length + is.length : Nat) : Int) ∧ ns.length ≤ 10 ∧ is.length ≤ 3 ∧ (∀ x ∈ ns, 0 ≤ x ∧ x < n) ∧ ns.Nodup ∧ ∀ T ∈ is, WF n d T

/-- Block o is the trust that is being made. -/
def OutAt (w : World) (o : Nat) (x : Int) (v1 v2 : Value) : Prop := w.heap[o]? = some (.cells #[.int .i64 x, v1, v2] 49 (0, 0))

theorem OutAt.lt {w : World} {o : Nat} {x : Int} {v1 v2 : Value} (h : OutAt w o x v1 v2) : o < w.heap.size := by
  rcases Nat.lt_or_ge o w.heap.size with h1 | h1
  · exact h1
  · unfold OutAt at h; rw [Array.getElem?_eq_none h1] at h; cases h

theorem OutAt.cs {w : World} {o : Nat} {x : Int} {v1 v2 : Value} (h : OutAt w o x v1 v2) : w.cell? ⟨o, 0, none⟩ = some (.int .i64 x) ∧ w.cell? ⟨o, 1, none⟩ = some v1 ∧ w.cell? ⟨o, 2, none⟩ = some v2 :=
  ⟨cell_of_row _ _ 0 _ _ (0, 0) h, cell_of_row _ _ 1 _ _ (0, 0) h, cell_of_row _ _ 2 _ _ (0, 0) h⟩

theorem OutAt.fr {w : World} {o : Nat} {x : Int} {v1 v2 : Value} (h : OutAt w o x v1 v2) (k : Nat) : w.frozen? ⟨o, k, none⟩ = false := by
  unfold OutAt at h
  simp [World.frozen?, h]

theorem OutAt.keep {w w' : World} {o : Nat} {x : Int} {v1 v2 : Value} (h : OutAt w o x v1 v2) (hk : w'.heap[o]? = w.heap[o]?) : OutAt w' o x v1 v2 := hk.trans h

theorem OutAt.set0 {w : World} {o : Nat} {x : Int} {v1 v2 : Value} (h : OutAt w o x v1 v2) (y : Int) : OutAt (w.setCell ⟨o, 0, none⟩ (.int .i64 y)) o y v1 v2 := by
  unfold OutAt at h ⊢
  simp [World.setCell, Array.getElem?_modify, h]

theorem OutAt.set1 {w : World} {o : Nat} {x : Int} {v1 v2 : Value} (h : OutAt w o x v1 v2) (y : Value) : OutAt (w.setCell ⟨o, 1, none⟩ y) o x y v2 := by
  unfold OutAt at h ⊢
  simp [World.setCell, Array.getElem?_modify, h]

theorem OutAt.set2 {w : World} {o : Nat} {x : Int} {v1 v2 : Value} (h : OutAt w o x v1 v2) (y : Value) : OutAt (w.setCell ⟨o, 2, none⟩ y) o x v1 y := by
  unfold OutAt at h ⊢
  simp [World.setCell, Array.getElem?_modify, h]

theorem gown {w a b : World} {r row : Option Nat} (h : w.grownBy a r) (k : a.grownBy b row) (hr : ∀ j, row = some j → w.heap.size ≤ j) : w.grownBy b r :=
  ⟨k.os.trans h.os, k.tape.trans h.tape, k.output.trans h.output, Nat.le_trans h.size k.size, fun n hn hne => (k.block n (Nat.lt_of_lt_of_le hn h.size) (fun e => by have := hr n e.symm; omega)).trans (h.block n hn hne)⟩

theorem gset1 (w : World) (p : Addr) (u : Value) : w.grownBy (w.setCell p u) (some p.block) :=
  ⟨rfl, rfl, rfl, by simp [World.setCell], fun k _ hne => Below.heap_setCell _ _ _ _ (fun e => hne (by rw [e]))⟩

theorem TapeOk.keepLow {w w' : World} {sb : Nat} (h : TapeOk w sb) (hk : ∀ k, k ≤ sb → w'.heap[k]? = w.heap[k]?) : TapeOk w' sb := by
  obtain ⟨a, len, cap, at_, hb, h1, h2, h3, h4⟩ := h
  refine ⟨a, len, cap, at_, (hk _ (Nat.le_refl _)).trans hb, h1, h2, h3, fun i hi => ?_⟩
  obtain ⟨b, off, z, e1, e2, e3, e4⟩ := h4 i hi
  exact ⟨b, off, z, e1, e2, (World.cell?_of_block (hk b (by omega))).trans e3, e4⟩

/-- The order as a list. -/
theorem OrdAt.list {w : World} {g n : Nat} {N : Int} (h : OrdAt w g n N) : ∃ zs : List Int, zs.length = n ∧ zs.Nodup ∧ (∀ x ∈ zs, 0 ≤ x ∧ x < N) ∧ ∀ k, k < n → w.cell? ⟨g, k, none⟩ = some (.int .i64 (zs.getD k 0)) := by
  obtain ⟨cur, h1, h2, h3, h4⟩ := h
  have hz : ∀ k, ∃ z : Int, k < n → cur[k]? = some (.int .i64 z) ∧ 0 ≤ z ∧ z < N := fun k => by
    by_cases hk : k < n
    · obtain ⟨z, e⟩ := h3 k hk
      exact ⟨z, fun _ => e⟩
    · exact ⟨0, fun h => absurd h hk⟩
  let f : Nat → Int := fun k => Classical.choose (hz k)
  have hf : ∀ k, k < n → cur[k]? = some (.int .i64 (f k)) ∧ 0 ≤ f k ∧ f k < N := fun k => Classical.choose_spec (hz k)
  have hget : ∀ k, k < n → ((List.range n).map f).getD k 0 = f k := fun k hk => by simp [List.getD, hk]
  refine ⟨(List.range n).map f, by simp, ?_, ?_, fun k hk => ?_⟩
  · rw [List.nodup_iff_pairwise_ne, List.pairwise_map]
    refine List.Pairwise.imp_of_mem ?_ (List.nodup_iff_pairwise_ne.1 (List.nodup_range (n := n)))
    intro a b ha hb hne e
    have ha' := hf a (List.mem_range.1 ha)
    have hb' := hf b (List.mem_range.1 hb)
    exact hne (h4 a b (f a) (List.mem_range.1 ha) (List.mem_range.1 hb) ha'.1 (by rw [hb'.1, e]))
  · intro x hx
    obtain ⟨k, hk, rfl⟩ := List.mem_map.1 hx
    exact (hf k (List.mem_range.1 hk)).2
  · rw [hget k hk]
    exact (cell_of_row _ _ k _ _ (0, 0) h1).trans (hf k hk).1

theorem gown_step {w : World} {v : Value} {k B : Nat} {zs : List Int} (hk : k < zs.length) (h : w.ownsRow B 3 1 v (k + 1) ((zs.take k).map (Value.int .i64) ++ [.int .i64 (zs.getD k 0)])) :
    w.ownsRow B 3 1 v (k + 1) ((zs.take (k + 1)).map (Value.int .i64)) := by
  have e : (zs.take (k + 1)).map (Value.int .i64) = (zs.take k).map (Value.int .i64) ++ [.int .i64 (zs.getD k 0)] := by
    rw [List.take_add_one, List.getElem?_eq_getElem hk, List.map_append, List.getD_eq_getElem?_getD, List.getElem?_eq_getElem hk]
    rfl
  rw [e]; exact h

end Go.Proofs.Ytfghnkgllmofgaa
