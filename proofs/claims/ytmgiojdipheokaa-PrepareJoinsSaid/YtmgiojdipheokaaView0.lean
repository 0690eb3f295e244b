/- The contract of prepare.View for node 0 alone. -/
import Derived.Test.YtmgiojdipheokaaPFlat
namespace Go.Proofs.Ytmgiojdipheokaa
set_option linter.unusedVariables false
set_option linter.unusedSimpArgs false
open Go.RowKit

theorem infoMem0 : (Try.prog.info? 87).map (fun i => (i.zero, i.size, i.bytes)) = some (some (.agg #[.bool false, .int .i64 0, .slice none 0 0, .slice none 0 0]), 4, 64) := by kernel_rfl

/-- What the drawn region of View keeps. -/
structure VS (P : Nat → Prop) (w : World) (g r d : Nat) (t : Int) (v1 v2 : Value) (T : Tree) (W : World) : Prop where
  tat : TAt P d W (.int .i64 t) v1 v2 T
  box : OutAt W g t v1 v2
  res : W.heap[g + 1]? = some (.cells #[.slice none 0 0] 84 (0, 0))
  cfg : W.heap[r]? = some (.cells #[.slice (some ⟨g + 1 + 1, 0, none⟩) 10 10] 84 (0, 0))
  row : ∃ cs, W.ownsRow (g + 2) 87 4 (.slice (some ⟨g + 1 + 1, 0, none⟩) 10 10) 10 cs
  bel : Below w.heap.size w W
theorem lt_of_heap {W : World} {q : Nat} {o : Obj} (h : W.heap[q]? = some o) : q < W.heap.size := by
  rcases Nat.lt_or_ge q W.heap.size with h1 | h1
  · exact h1
  · rw [Array.getElem?_eq_none h1] at h; cases h
theorem VS.below {P : Nat → Prop} {w W W' : World} {g r d : Nat} {t : Int} {v1 v2 : Value} {T : Tree} (h : VS P w g r d t v1 v2 T W) (hb : Below W.heap.size W W') : VS P w g r d t v1 v2 T W' := by
  obtain ⟨cs, hc⟩ := h.row
  exact ⟨h.tat.below hb, h.box.keep (hb.block _ h.box.lt), (hb.block _ (lt_of_heap h.res)).trans h.res, (hb.block _ (lt_of_heap h.cfg)).trans h.cfg, ⟨cs, hc.kept (grown_below (r := none) hb) (.inr (by simp [Value.ownBlock]))⟩, bstep h.bel hb⟩
theorem VS.facts {P : Nat → Prop} {w W : World} {g r d : Nat} {t : Int} {v1 v2 : Value} {T : Tree} (h : VS P w g r d t v1 v2 T W) :
    W.cell? ⟨g, 0, none⟩ = some (.int .i64 t) ∧ W.cell? ⟨g, 1, none⟩ = some v1 ∧ W.cell? ⟨g, 2, none⟩ = some v2 ∧ W.cell? ⟨r, 0, none⟩ = some (.slice (some ⟨g + 1 + 1, 0, none⟩) 10 10) ∧ VS P w g r d t v1 v2 T W :=
  ⟨h.box.cs.1, h.box.cs.2.1, h.box.cs.2.2, cell_of_row _ _ 0 _ _ (0, 0) h.cfg, h⟩
theorem vfT {P : Nat → Prop} {w W : World} {g r d : Nat} {t : Int} {v1 v2 : Value} {T : Tree} (h : W.cell? ⟨g, 0, none⟩ = some (.int .i64 t) ∧ W.cell? ⟨g, 1, none⟩ = some v1 ∧ W.cell? ⟨g, 2, none⟩ = some v2 ∧ W.cell? ⟨r, 0, none⟩ = some (.slice (some ⟨g + 1 + 1, 0, none⟩) 10 10) ∧ VS P w g r d t v1 v2 T W) : TAt P d W (.int .i64 t) v1 v2 T := h.2.2.2.2.tat
theorem vfB {P : Nat → Prop} {w W W' : World} {g r d : Nat} {t : Int} {v1 v2 : Value} {T : Tree} (h : W.cell? ⟨g, 0, none⟩ = some (.int .i64 t) ∧ W.cell? ⟨g, 1, none⟩ = some v1 ∧ W.cell? ⟨g, 2, none⟩ = some v2 ∧ W.cell? ⟨r, 0, none⟩ = some (.slice (some ⟨g + 1 + 1, 0, none⟩) 10 10) ∧ VS P w g r d t v1 v2 T W) (hb : Below W.heap.size W W') :
    W'.cell? ⟨g, 0, none⟩ = some (.int .i64 t) ∧ W'.cell? ⟨g, 1, none⟩ = some v1 ∧ W'.cell? ⟨g, 2, none⟩ = some v2 ∧ W'.cell? ⟨r, 0, none⟩ = some (.slice (some ⟨g + 1 + 1, 0, none⟩) 10 10) ∧ VS P w g r d t v1 v2 T W' := (h.2.2.2.2.below hb).facts
theorem VS.rowCells {P : Nat → Prop} {w W : World} {g r d : Nat} {t : Int} {v1 v2 : Value} {T : Tree} (h : VS P w g r d t v1 v2 T W) :
    (∃ x0 x1 x2 x3, W.cell? ⟨g + 1 + 1, 0, none⟩ = some x0 ∧ W.cell? ⟨g + 1 + 1, 1, none⟩ = some x1 ∧ W.cell? ⟨g + 1 + 1, 2, none⟩ = some x2 ∧ W.cell? ⟨g + 1 + 1, 3, none⟩ = some x3) ∧ W.frozen? ⟨g + 1 + 1, 0, none⟩ = false ∧ W.frozen? ⟨g + 1 + 1, 1, none⟩ = false ∧ W.frozen? ⟨g + 1 + 1, 2, none⟩ = false ∧ W.frozen? ⟨g + 1 + 1, 3, none⟩ = false := by
  obtain ⟨cs, hc⟩ := h.row
  have hl := hc.1
  have f := fun j (hj : j < 40) => hc.cellAt j (by omega)
  have e := fun j (hj : j < 40) => (f j hj).trans (List.getElem?_eq_getElem (by omega))
  exact ⟨⟨_, _, _, _, e 0 (by omega), e 1 (by omega), e 2 (by omega), e 3 (by omega)⟩, hc.frozenAt 0, hc.frozenAt 1, hc.frozenAt 2, hc.frozenAt 3⟩
theorem VS.set {P : Nat → Prop} {w W : World} {g r d : Nat} {t : Int} {v1 v2 : Value} {T : Tree} (h : VS P w g r d t v1 v2 T W) (hP : ∀ b, P b → b < g) (hr : g + 1 + 1 < r) (hg : w.heap.size = g) (o : Nat) (x : Value) : VS P w g r d t v1 v2 T (W.setCell ⟨g + 1 + 1, o, none⟩ x) := by
  obtain ⟨cs, hc⟩ := h.row
  have far : ∀ q, q ≠ g + 1 + 1 → (W.setCell ⟨g + 1 + 1, o, none⟩ x).heap[q]? = W.heap[q]? := fun q hq => Below.heap_setCell _ _ _ _ (by simpa using hq)
  exact ⟨TAt.keep (fun q _ hq => far q (by have := hP q hq; omega)) h.tat, h.box.keep (far _ (by omega)), (far _ (by omega)).trans h.res, (far _ (by omega)).trans h.cfg, ⟨_, (hc.stored o x).1⟩, bset h.bel (p := ⟨g + 1 + 1, o, none⟩) (by simp; omega) x⟩
theorem vfSet {P : Nat → Prop} {w W : World} {g r d : Nat} {t : Int} {v1 v2 : Value} {T : Tree} (h : W.cell? ⟨g, 0, none⟩ = some (.int .i64 t) ∧ W.cell? ⟨g, 1, none⟩ = some v1 ∧ W.cell? ⟨g, 2, none⟩ = some v2 ∧ W.cell? ⟨r, 0, none⟩ = some (.slice (some ⟨g + 1 + 1, 0, none⟩) 10 10) ∧ VS P w g r d t v1 v2 T W) (hP : ∀ b, P b → b < g) (hr : g + 1 + 1 < r) (hg : w.heap.size = g) (x0 x1 x2 x3 : Value) :
    ((((W.setCell ⟨g + 1 + 1, 0, none⟩ x0).setCell ⟨g + 1 + 1, 1, none⟩ x1).setCell ⟨g + 1 + 1, 2, none⟩ x2).setCell ⟨g + 1 + 1, 3, none⟩ x3).cell? ⟨g, 0, none⟩ = some (.int .i64 t) ∧ ((((W.setCell ⟨g + 1 + 1, 0, none⟩ x0).setCell ⟨g + 1 + 1, 1, none⟩ x1).setCell ⟨g + 1 + 1, 2, none⟩ x2).setCell ⟨g + 1 + 1, 3, none⟩ x3).cell? ⟨g, 1, none⟩ = some v1 ∧ ((((W.setCell ⟨g + 1 + 1, 0, none⟩ x0).setCell ⟨g + 1 + 1, 1, none⟩ x1).setCell ⟨g + 1 + 1, 2, none⟩ x2).setCell ⟨g + 1 + 1, 3, none⟩ x3).cell? ⟨g, 2, none⟩ = some v2 ∧ ((((W.setCell ⟨g + 1 + 1, 0, none⟩ x0).setCell ⟨g + 1 + 1, 1, none⟩ x1).setCell ⟨g + 1 + 1, 2, none⟩ x2).setCell ⟨g + 1 + 1, 3, none⟩ x3).cell? ⟨r, 0, none⟩ = some (.slice (some ⟨g + 1 + 1, 0, none⟩) 10 10) ∧ VS P w g r d t v1 v2 T ((((W.setCell ⟨g + 1 + 1, 0, none⟩ x0).setCell ⟨g + 1 + 1, 1, none⟩ x1).setCell ⟨g + 1 + 1, 2, none⟩ x2).setCell ⟨g + 1 + 1, 3, none⟩ x3) :=
  ((((h.2.2.2.2.set hP hr hg 0 x0).set hP hr hg 1 x1).set hP hr hg 2 x2).set hP hr hg 3 x3).facts

set_option maxRecDepth 100000 in
set_option maxHeartbeats 4000000 in
theorem view0_run (P : Nat → Prop) (d : Nat) (t : Int) (v1 v2 : Value) (T : Tree) (w : World) (h : TAt P d w (.int .i64 t) v1 v2 T) :
    Calls Try.prog 67 #[.int .i64 0, .agg #[.int .i64 t, v1, v2], .slice none 0 0] w fun e w' => ∃ q : Nat, e = .returned (.agg #[.slice (some ⟨q, 0, none⟩) 10 10]) ∧ w'.cell? ⟨q, 0, none⟩ = some (.bool true) ∧ Below w.heap.size w w' := by
  obtain ⟨i4, hi, hz0, hz1, hz2⟩ := info_parts infoMem0
  obtain ⟨t', A1, n1, c1, A2, n2, c2, h1, rfl, rfl⟩ := h.form
  have HT := Lib.hid h
  clear h h1
  go_enter Try.func67, Try.ntmps67
  go_upto_region 4 with (at_make; refine wpList_make_full _ rfl _ _ 82 rfl (w.heap.size + 2) 87 i4 (.agg #[.bool false, .int .i64 0, .slice none 0 0, .slice none 0 0]) 4 Try.underlying82 hi hz0 hz1 .i64 .i64 _ _ 10 rfl rfl rfl rfl (by rw [hz2]; omega) (by unfold maxLen; omega) (by simp) ?_; intro w1 hown hgrow)
  have hV : VS (fun b => b < w.heap.size) w w.heap.size w1.heap.size d t (.slice A1 n1 c1) (.slice A2 n2 c2) T (w1.alloc (.cells #[.slice (some ⟨w.heap.size + 1 + 1, 0, none⟩) 10 10] 84)) := by
    have hb := (balloc (balloc (bref w) (.cells #[.int .i64 t, .slice A1 n1 c1, .slice A2 n2 c2] 41)) (.cells #[.slice none 0 0] 84)).grown hgrow (by simp; omega) (fun j hj => by cases hj)
    have hb2 := balloc hb (.cells #[.slice (some ⟨w.heap.size + 1 + 1, 0, none⟩) 10 10] 84)
    have hsz := hgrow.size
    simp only [World.size_alloc] at hsz hown
    have e : ∀ q, q < w.heap.size + 2 → (w1.alloc (.cells #[.slice (some ⟨w.heap.size + 1 + 1, 0, none⟩) 10 10] 84)).heap[q]? = ((w.alloc (.cells #[.int .i64 t, .slice A1 n1 c1, .slice A2 n2 c2] 41)).alloc (.cells #[.slice none 0 0] 84)).heap[q]? := fun q hq =>
      (Below.heap_alloc _ _ _ (by omega)).trans (hgrow.block q (by simp; omega) (by simp))
    refine ⟨(TAt.imp (fun k hk _ => hk) HT.out).below hb2, ?_, ?_, heap_alloc_new _ _, ⟨_, hown.alloc _⟩, hb2⟩
    · exact (e _ (by omega)).trans ((Below.heap_alloc _ _ _ (by simp)).trans (heap_alloc_new _ _))
    · refine (e _ (by omega)).trans ?_
      have := heap_alloc_new (w.alloc (.cells #[.int .i64 t, .slice A1 n1 c1, .slice A2 n2 c2] 41)) (.cells #[.slice none 0 0] 84)
      simpa using this
  have hrr : w.heap.size + 1 + 1 < w1.heap.size := by have := (hown.lt _ rfl).2; simpa using this
  have HV := Lib.hid hV
  clear hV hown hgrow
  generalize w1.alloc (.cells #[.slice (some ⟨w.heap.size + 1 + 1, 0, none⟩) 10 10] 84) = W1 at *
  generalize w1.heap.size = r at *
  generalize hg : w.heap.size = g at *
  have HG := Lib.hid hg
  clear hg
  have hS6 := Lib.hid ((HV.out.below (W' := W1.drew) ⟨rfl, rfl, rfl, Nat.le_refl _, fun _ _ => rfl⟩).facts)
  go_region_held3 (fun W => W.cell? ⟨g, 0, none⟩ = some (.int .i64 t) ∧ W.cell? ⟨g, 1, none⟩ = some (.slice A1 n1 c1) ∧ W.cell? ⟨g, 2, none⟩ = some (.slice A2 n2 c2) ∧ W.cell? ⟨r, 0, none⟩ = some (.slice (some ⟨g + 1 + 1, 0, none⟩) 10 10) ∧ VS (fun b => b < g) w g r d t (.slice A1 n1 c1) (.slice A2 n2 c2) T W) (first | exact hS6.out | exact vfB (by assumption) hbK | exact hSK | exact vfSet (by assumption) (fun _ h => h) hrr HG.out _ _ _ _ | go_keep)
    (first
      | (go_at_call 100; refine (copy_one d _ T _ _ _ _ (by exact vfT (by assumption)) trivial).mono ?_; rintro e WK ⟨y0, y1, y2, rfl, hNf, hbK⟩; obtain ⟨t3, A3, n3, c3, A4, n4, c4, rfl, rfl, rfl⟩ := hNf.form; have hSK := vfB (by assumption) hbK; obtain ⟨⟨x0, x1, x2, x3, p0, p1, p2, p3⟩, pf0, pf1, pf2, pf3⟩ := VS.rowCells hSK.2.2.2.2))
  have q0 : ((((WK.setCell ⟨g + 1 + 1, 0, none⟩ (.bool true)).setCell ⟨g + 1 + 1, 1, none⟩ (.int .i64 t3)).setCell ⟨g + 1 + 1, 2, none⟩ (.slice A3 n3 c3)).setCell ⟨g + 1 + 1, 3, none⟩ (.slice A4 n4 c4)).cell? ⟨g + 1 + 1, 0, none⟩ = some (.bool true) := by go_simp
  have HV2 := Lib.hid (vfSet hSK (fun _ h => h) hrr HG.out (.bool true) (.int .i64 t3) (.slice A3 n3 c3) (.slice A4 n4 c4)).2.2.2.2
  clear hSK p0 p1 p2 p3 pf0 pf1 pf2 pf3 hS6 hbK hNf HV
  generalize (((WK.setCell ⟨g + 1 + 1, 0, none⟩ (.bool true)).setCell ⟨g + 1 + 1, 1, none⟩ (.int .i64 t3)).setCell ⟨g + 1 + 1, 2, none⟩ (.slice A3 n3 c3)).setCell ⟨g + 1 + 1, 3, none⟩ (.slice A4 n4 c4) = W2 at *
  have d0 := (HV2.out.facts).2.2.2.1
  have e0 : W2.cell? ⟨g + 1, 0, none⟩ = some (.slice none 0 0) := cell_of_row _ _ 0 _ _ (0, 0) HV2.out.res
  have f0 : W2.frozen? ⟨g + 1, 0, none⟩ = false := by have := HV2.out.res; simp [World.frozen?, this]
  have hbd := bset HV2.out.bel (p := ⟨g + 1, 0, none⟩) (by have := HG.out; simp; omega) (.slice (some ⟨g + 1 + 1, 0, none⟩) 10 10)
  have HBD := Lib.hid hbd
  clear hbd
  go_wp2_with fail
  go_loop [28] (fun i => i = .int .i64 0) (fun i => 0)
  case atStart => rfl
  case round =>
    subst hrel
    go_wp2_with fail
    refine bodyPost_ret (v := .agg #[.slice (some ⟨g + 1 + 1, 0, none⟩) 10 10]) ?_ rfl ⟨g + 1 + 1, rfl, ?_, HBD.out⟩
    · simp [results, Try.results67, go_sem, e0]
    · go_simp
end Go.Proofs.Ytmgiojdipheokaa
