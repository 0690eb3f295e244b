/- The contracts of intersection.Size, Holds, Disjoint, Prove, Check. -/
import Derived.Test.YtfghnkgllmofgaaRight12
namespace Go.Proofs.Ytfghnkgllmofgaa
set_option linter.unusedVariables false
set_option linter.unusedSimpArgs false
open Go.RowKit

set_option maxRecDepth 100000 in
set_option maxHeartbeats 4000000 in
theorem size12_run (Q : Nat → Prop) : ∀ (T : Tr) (x0 x1 x2 : Value) (w : World), sizeTr T ≤ 1000000 → TrAt Q w T x0 x1 x2 →
    Calls Try.prog 25 #[.agg #[x0, x1, x2]] w fun e w' => e = .returned (.int .i64 ((sizeTr T : Nat) : Int)) ∧ Below w.heap.size w w' := by
  intro T
  induction T with
  | none =>
    intro x0 x1 x2 w hs hT
    obtain ⟨rfl, rfl, rfl⟩ := hT
    have HB := Lib.hid (balloc (bref w) (.cells #[.int .i64 1, .int .i64 0, .slice none 0 0] 31))
    go_enter Try.func25, Try.ntmps25
    go_wp2_with fail
    go_loop [3, 9] (fun n t => n = .int .i64 1 ∧ t = .int .i64 0) (fun _ _ => 0)
    case atStart => exact ⟨rfl, rfl⟩
    case round =>
      obtain ⟨rfl, rfl⟩ := hrel
      go_wp2_with fail
      go_ret
      exact ⟨rfl, HB.out⟩
  | alone =>
    intro x0 x1 x2 w hs hT
    obtain ⟨rfl, rfl, rfl⟩ := hT
    have HB := Lib.hid (balloc (bref w) (.cells #[.int .i64 2, .int .i64 0, .slice none 0 0] 31))
    go_enter Try.func25, Try.ntmps25
    go_wp2_with fail
    go_loop [3, 9] (fun n t => n = .int .i64 1 ∧ t = .int .i64 0) (fun _ _ => 0)
    case atStart => exact ⟨rfl, rfl⟩
    case round =>
      obtain ⟨rfl, rfl⟩ := hrel
      go_wp2_with fail
      go_ret
      exact ⟨rfl, HB.out⟩
  | split nd a b iha ihb =>
    intro x0 x1 x2 w hs hT
    obtain ⟨rfl, rfl, q, off, u0, u1, u2, y0, y1, y2, rfl, hQ, e0, e1, e2, e3, e4, e5, ha, hb⟩ := hT
    obtain ⟨K1, N1, A1, m1, c1, rfl, rfl, rfl⟩ := ha.form
    obtain ⟨K2, N2, A2, m2, c2, rfl, rfl, rfl⟩ := hb.form
    have hsz : sizeTr (.split nd a b) = 1 + sizeTr a + sizeTr b := rfl
    have hsa : sizeTr a ≤ 1000000 := by omega
    have hsb : sizeTr b ≤ 1000000 := by omega
    have hb1 := balloc (bref w) (.cells #[.int .i64 3, .int .i64 (nd : Int), .slice (some ⟨q, off, none⟩) 2 2] 31)
    have hTa := ha.below hb1
    have hTb := hb.below hb1
    have E0 := (hb1.cell (cell_lt e0)).trans e0
    have E1 := (hb1.cell (cell_lt e1)).trans e1
    have E2 := (hb1.cell (cell_lt e2)).trans e2
    have E3 := (hb1.cell (cell_lt e3)).trans e3
    have E4 := (hb1.cell (cell_lt e4)).trans e4
    have E5 := (hb1.cell (cell_lt e5)).trans e5
    have HB := Lib.hid hb1
    have IHA := Lib.hid (fun w => iha (.int .i64 K1) (.int .i64 N1) (.slice A1 m1 c1) w hsa)
    have IHB := Lib.hid (fun w => ihb (.int .i64 K2) (.int .i64 N2) (.slice A2 m2 c2) w hsb)
    have HTA := Lib.hid hTa
    have HTB := Lib.hid hTb
    have HSZ := Lib.hid hsz
    clear hb1 iha ihb ha hb e0 e1 e2 e3 e4 e5 hTa hTb hsz
    go_enter Try.func25, Try.ntmps25
    go_upto_region 1 with fail
    have k0 : (w.alloc (.cells #[.int .i64 3, .int .i64 (nd : Int), .slice (some ⟨q, off, none⟩) 2 2] 31)).heap[w.heap.size]? = some (.cells #[.int .i64 3, .int .i64 (nd : Int), .slice (some ⟨q, off, none⟩) 2 2] 31 (0, 0)) := alloc_at rfl
    generalize (w.alloc (.cells #[.int .i64 3, .int .i64 (nd : Int), .slice (some ⟨q, off, none⟩) 2 2] 31)) = W1 at *
    generalize hg : w.heap.size = g at *
    have HG := Lib.hid hg
    clear hg
    have t2 : W1.cell? ⟨g, 2, none⟩ = some (.slice (some ⟨q, off, none⟩) 2 2) := cell_of_row _ _ 2 _ _ (0, 0) k0
    have HBw := Lib.hid (show Below w.heap.size w W1 by rw [HG.out]; exact HB.out)
    clear k0
    generalize hsaq : sizeTr a = sa at *
    generalize hsbq : sizeTr b = sb at *
    clear hsaq hsbq
    go_wp2_with fail
    go_loopw [3, 9] (fun n t W => ∃ j : Nat, j ≤ 2 ∧ t = .int .i64 j ∧ n = .int .i64 (((if j = 0 then 1 else if j = 1 then 1 + sa else 1 + sa + sb : Nat) : Nat) : Int) ∧ Hid (Below W1.heap.size W1 W)) (fun _ t _ => 2 - (intOf t).toNat)
    case atStart => exact ⟨0, by omega, rfl, rfl, Lib.hid (bref _)⟩
    case round =>
      obtain ⟨j, hj, rfl, rfl, hB⟩ := hrel
      have d0 := (hB.out.cell (cell_lt E0)).trans E0
      have d1 := (hB.out.cell (cell_lt E1)).trans E1
      have d2 := (hB.out.cell (cell_lt E2)).trans E2
      have d3 := (hB.out.cell (cell_lt E3)).trans E3
      have d4 := (hB.out.cell (cell_lt E4)).trans E4
      have d5 := (hB.out.cell (cell_lt E5)).trans E5
      have hj3 : j = 0 ∨ j = 1 ∨ j = 2 := by omega
      rcases hj3 with rfl | rfl | rfl
      · have hTr := Lib.hid ((HTA.out.below hB.out).below (balloc (bref wr) (.cells #[.int .i64 K1, .int .i64 N1, .slice A1 m1 c1] 31)))
        rw [if_pos rfl]
        go_wp2_with fail
        refine (IHA.out _ hTr.out).mono ?_
        rintro e w2 ⟨rfl, hb2⟩
        have HB2 := Lib.hid (bstep (balloc hB.out (.cells #[.int .i64 K1, .int .i64 N1, .slice A1 m1 c1] 31)) hb2)
        clear hb2 d0 d1 d2 d3 d4 d5
        go_wp2_with fail
        go_roundw
        case rel => exact ⟨1, by omega, rfl, by simp, HB2⟩
        case measure => simp [intOf]
      · have hTr := Lib.hid ((HTB.out.below hB.out).below (balloc (bref wr) (.cells #[.int .i64 K2, .int .i64 N2, .slice A2 m2 c2] 31)))
        rw [if_neg (by omega), if_pos rfl]
        go_wp2_with fail
        refine (IHB.out _ hTr.out).mono ?_
        rintro e w2 ⟨rfl, hb2⟩
        have HB2 := Lib.hid (bstep (balloc hB.out (.cells #[.int .i64 K2, .int .i64 N2, .slice A2 m2 c2] 31)) hb2)
        clear hb2 d0 d1 d2 d3 d4 d5
        go_wp2_with fail
        go_roundw
        case rel => exact ⟨2, by omega, rfl, by simp, HB2⟩
        case measure => simp [intOf]
      · have HZ := Lib.hid (bstep HBw.out hB.out)
        rw [if_neg (by omega), if_neg (by omega)]
        clear d0 d1 d2 d3 d4 d5
        go_wp2_with fail
        go_ret
        exact ⟨by rw [HSZ.out]; rfl, HZ.out⟩

/-- What Holds returns. -/
def HoldsOk (d : Nat) (ms : List Mem) (e : Ending) : Prop := (e = .returned (.tuple #[.bool true, .int .i64 0]) ∧ ∀ t, t < 2 ^ ms.length → ¬ Apart d ms t) ∨ (e = .returned (.tuple #[.bool false, .int .i64 0]) ∧ ∃ t, t < 2 ^ ms.length ∧ Apart d ms t)

/-- What Disjoint returns. -/
def DisjOk (d : Nat) (ms : List Mem) (e : Ending) : Prop := (∃ i a b : Nat, e = .returned (.tuple #[.int .i64 (a : Int), .int .i64 (b : Int), .int .i64 0]) ∧ (ordN ms.length)[i]? = some a ∧ Apart d ms a ∧ IsGr d ms (outS ms.length a &&& declS ms ms.length) b ∧ b < 1024 ∧ (∀ j t : Nat, j < i → (ordN ms.length)[j]? = some t → ¬ Apart d ms t)) ∨
  (e = .returned (.tuple #[.int .i64 0, .int .i64 0, .int .i64 11]) ∧ ∀ t, t < 2 ^ ms.length → ¬ Apart d ms t)

set_option maxHeartbeats 2000000 in
theorem holds12_run (P : Nat → Prop) (ms : List Mem) (v : Value) (w : World) (hl : ms.length ≤ 10) (h : MemsAt P 2 w v ms) (hok : MemsOk ms.length ms) :
    Calls Try.prog 19 #[.agg #[v]] w fun e w' => HoldsOk 2 ms e ∧ Below w.heap.size w w' := by
  obtain ⟨A, c, rfl⟩ := h.slice
  have hb1 : Below w.heap.size w (w.alloc (.cells #[.slice A ms.length c] 27)) := balloc (bref w) _
  have k0 : (w.alloc (.cells #[.slice A ms.length c] 27)).heap[w.heap.size]? = some (.cells #[.slice A ms.length c] 27 (0, 0)) := alloc_at rfl
  have H := Lib.hid (h.below hb1)
  have HB := Lib.hid hb1
  have K0 := Lib.hid k0
  clear h hb1 k0
  go_enter Try.func19, Try.ntmps19
  go_upto_region 1 with fail
  generalize w.alloc (.cells #[.slice A ms.length c] 27) = W1 at *
  generalize hg : w.heap.size = g at *
  have HG := Lib.hid hg
  clear hg
  have c0 : W1.cell? ⟨g, 0, none⟩ = some (.slice A ms.length c) := cell_of_row _ _ 0 _ _ (0, 0) K0.out
  have HBw := Lib.hid (show Below w.heap.size w W1 by rw [HG.out]; exact HB.out)
  go_wp2_with fail
  refine (cvalid_run P ms _ _ hl H.out hok).mono ?_
  rintro e W2 ⟨rfl, hb2⟩
  have c2 := (hb2.cell (cell_lt c0)).trans c0
  have HB2 := Lib.hid (bstep HBw.out hb2)
  have H2 := Lib.hid (H.out.below hb2)
  clear hb2 c0
  go_wp2_with fail
  refine (pair_run P 2 ms _ _ hl H2.out).mono ?_
  rintro e W3 ⟨hp, hb3⟩
  have HB3 := Lib.hid (bstep HB2.out hb3)
  clear hb3 c2
  rcases hp with ⟨i, a, b, rfl, hi, hA, _, _, _⟩ | ⟨rfl, hno⟩
  · have HA := Lib.hid (show ∃ t, t < 2 ^ ms.length ∧ Apart 2 ms t from ⟨a, ord_lt _ hl _ (List.mem_of_getElem? hi), hA⟩)
    clear hi hA
    go_wp2_with fail
    go_ret2
    exact ⟨Or.inr ⟨rfl, HA.out⟩, HB3.out⟩
  · have HN := Lib.hid hno
    clear hno
    go_wp2_with fail
    go_ret2
    exact ⟨Or.inl ⟨rfl, HN.out⟩, HB3.out⟩

set_option maxHeartbeats 2000000 in
theorem disjoint12_run (P : Nat → Prop) (ms : List Mem) (v : Value) (w : World) (hl : ms.length ≤ 10) (h : MemsAt P 2 w v ms) (hok : MemsOk ms.length ms) :
    Calls Try.prog 28 #[.agg #[v]] w fun e w' => DisjOk 2 ms e ∧ Below w.heap.size w w' := by
  obtain ⟨A, c, rfl⟩ := h.slice
  have hb1 : Below w.heap.size w (w.alloc (.cells #[.slice A ms.length c] 27)) := balloc (bref w) _
  have k0 : (w.alloc (.cells #[.slice A ms.length c] 27)).heap[w.heap.size]? = some (.cells #[.slice A ms.length c] 27 (0, 0)) := alloc_at rfl
  have H := Lib.hid (h.below hb1)
  have HB := Lib.hid hb1
  have K0 := Lib.hid k0
  clear h hb1 k0
  go_enter Try.func28, Try.ntmps28
  go_upto_region 1 with fail
  generalize w.alloc (.cells #[.slice A ms.length c] 27) = W1 at *
  generalize hg : w.heap.size = g at *
  have HG := Lib.hid hg
  clear hg
  have c0 : W1.cell? ⟨g, 0, none⟩ = some (.slice A ms.length c) := cell_of_row _ _ 0 _ _ (0, 0) K0.out
  have HBw := Lib.hid (show Below w.heap.size w W1 by rw [HG.out]; exact HB.out)
  go_wp2_with fail
  refine (cvalid_run P ms _ _ hl H.out hok).mono ?_
  rintro e W2 ⟨rfl, hb2⟩
  have c2 := (hb2.cell (cell_lt c0)).trans c0
  have HB2 := Lib.hid (bstep HBw.out hb2)
  have H2 := Lib.hid (H.out.below hb2)
  clear hb2 c0
  go_wp2_with fail
  refine (pair_run P 2 ms _ _ hl H2.out).mono ?_
  rintro e W3 ⟨hp, hb3⟩
  have HB3 := Lib.hid (bstep HB2.out hb3)
  clear hb3 c2
  rcases hp with ⟨i, a, b, rfl, hi, hA, hgr, hbl, hno⟩ | ⟨rfl, hno⟩
  · have HA := Lib.hid (And.intro hi (And.intro hA (And.intro hgr (And.intro hbl hno))))
    clear hi hA hgr hno
    go_wp2_with fail
    go_ret3
    exact ⟨Or.inl ⟨i, a, b, rfl, HA.out⟩, HB3.out⟩
  · have HN := Lib.hid hno
    clear hno
    go_wp2_with fail
    go_ret3
    exact ⟨Or.inr ⟨rfl, HN.out⟩, HB3.out⟩

set_option maxHeartbeats 2000000 in
theorem check12_run (P Q : Nat → Prop) (ms : List Mem) (v : Value) (T : Tr) (x0 x1 x2 : Value) (w : World) (hl : ms.length ≤ 10) (h : MemsAt P 2 w v ms) (hok : MemsOk ms.length ms) (hT : TrAt Q w T x0 x1 x2) (hr : RightT 2 ms T 0 0) :
    Calls Try.prog 9 #[.agg #[v], .agg #[x0, x1, x2]] w fun e w' => e = .returned (.bool true) ∧ Below w.heap.size w w' := by
  obtain ⟨A, c, rfl⟩ := h.slice
  obtain ⟨K1, N1, A1, m1, c1, rfl, rfl, rfl⟩ := hT.form
  have hb1 : Below w.heap.size w ((w.alloc (.cells #[.slice A ms.length c] 27)).alloc (.cells #[.int .i64 K1, .int .i64 N1, .slice A1 m1 c1] 31)) := balloc (balloc (bref w) _) _
  have k0 : ((w.alloc (.cells #[.slice A ms.length c] 27)).alloc (.cells #[.int .i64 K1, .int .i64 N1, .slice A1 m1 c1] 31)).heap[w.heap.size]? = some (.cells #[.slice A ms.length c] 27 (0, 0)) := alloc_on (alloc_at rfl)
  have k1 : ((w.alloc (.cells #[.slice A ms.length c] 27)).alloc (.cells #[.int .i64 K1, .int .i64 N1, .slice A1 m1 c1] 31)).heap[w.heap.size + 1]? = some (.cells #[.int .i64 K1, .int .i64 N1, .slice A1 m1 c1] 31 (0, 0)) := alloc_at (alloc_sz _ _)
  have H := Lib.hid (h.below hb1)
  have HT := Lib.hid (hT.below hb1)
  have HB := Lib.hid hb1
  have K0 := Lib.hid k0
  have K1' := Lib.hid k1
  have HRT := Lib.hid hr
  have hsl := size_le hl hr
  clear h hb1 k0 k1 hT hr
  go_enter Try.func9, Try.ntmps9
  go_upto_region 1 with fail
  generalize ((w.alloc (.cells #[.slice A ms.length c] 27)).alloc (.cells #[.int .i64 K1, .int .i64 N1, .slice A1 m1 c1] 31)) = W1 at *
  generalize hg : w.heap.size = g at *
  have HG := Lib.hid hg
  clear hg
  have c0 : W1.cell? ⟨g, 0, none⟩ = some (.slice A ms.length c) := cell_of_row _ _ 0 _ _ (0, 0) K0.out
  have t0 : TOut W1 (g + 1) (.int .i64 K1) (.int .i64 N1) (.slice A1 m1 c1) := K1'.out
  have HTO := Lib.hid t0
  have HBw := Lib.hid (show Below w.heap.size w W1 by rw [HG.out]; exact HB.out)
  clear t0
  go_wp2_with fail
  refine (cvalid_run P ms _ _ hl H.out hok).mono ?_
  rintro e W2 ⟨rfl, hb2⟩
  have c2 := (hb2.cell (cell_lt c0)).trans c0
  obtain ⟨p0, p1, p2⟩ := HTO.out.cs
  have d0 := (hb2.cell (cell_lt p0)).trans p0
  have d1 := (hb2.cell (cell_lt p1)).trans p1
  have d2 := (hb2.cell (cell_lt p2)).trans p2
  have HB2 := Lib.hid (bstep HBw.out hb2)
  have H2 := Lib.hid (H.out.below hb2)
  have HT2 := Lib.hid (HT.out.below hb2)
  clear hb2 c0 p0 p1 p2
  go_wp2_with fail
  refine (right12_run P Q 2 ms _ hl T _ _ _ 0 0 _ (by omega) (by omega) H2.out HT2.out HRT.out).mono ?_
  rintro e W3 ⟨rfl, hb3⟩
  have q0 := (hb3.cell (cell_lt d0)).trans d0
  have q1 := (hb3.cell (cell_lt d1)).trans d1
  have q2 := (hb3.cell (cell_lt d2)).trans d2
  have HB3 := Lib.hid (bstep HB2.out hb3)
  have HT3 := Lib.hid (HT2.out.below hb3)
  clear hb3 c2 d0 d1 d2
  go_wp2_with fail
  refine (size12_run Q T _ _ _ _ (by omega) HT3.out).mono ?_
  rintro e W4 ⟨rfl, hb4⟩
  have HB4 := Lib.hid (bstep HB3.out hb4)
  have hle : ((sizeTr T : Nat) : Int) ≤ 20000 := by omega
  clear hb4 q0 q1 q2
  go_wp2_with fail
  go_ret
  exact ⟨rfl, HB4.out⟩

end Go.Proofs.Ytfghnkgllmofgaa
