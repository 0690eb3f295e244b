/- The contract of data.SameTrust, for two trusts that are equal. -/
import Derived.Test.YtfghnkgllmofgaaFits
import Derived.BigQuiet
namespace Go.Proofs.Ytfghnkgllmofgaa
set_option linter.unusedVariables false
set_option linter.unusedSimpArgs false
open Go.RowKit

set_option maxHeartbeats 1000000 in
theorem eqNodes_run (P Q : Nat → Prop) (v u : Value) (ns : List Int) (w : World) (hn : ns.length ≤ 1000000) (h : NodesAt P w v ns) (h2 : NodesAt Q w u ns) :
    Calls Try.prog 80 #[v, u] w fun e w' => e = .returned (.bool true) ∧ Below w.heap.size w w' := by
  obtain ⟨A, c, rfl, hA⟩ := h
  obtain ⟨B, c', rfl, hB⟩ := h2
  have HA := Lib.hid hA
  have HB := Lib.hid hB
  clear hA hB
  go_enter Try.func80, Try.ntmps80
  go_wp2_with fail
  go_loopw [13] (fun t wr => ∃ k : Nat, k ≤ ns.length ∧ t = .int .i64 k ∧ Hid (Below w.heap.size w wr)) (fun t _ => ns.length - (intOf t).toNat)
  case atStart => exact ⟨0, by omega, rfl, Lib.hid (bref _)⟩
  case round =>
    obtain ⟨k, hk, rfl, hBr⟩ := hrel
    by_cases hlt : k < ns.length
    · obtain ⟨b, off, rfl, _, hc⟩ := HA.out k hlt
      obtain ⟨b', off', rfl, _, hc'⟩ := HB.out k hlt
      have d1 := (hBr.out.cell (cell_lt hc)).trans hc
      have d2 := (hBr.out.cell (cell_lt hc')).trans hc'
      clear hc hc'
      generalize ns.getD k 0 = x at *
      have hxx : (x == x) = true := by simp
      go_wp2_with fail
      go_quiet (fail)
      go_wp2_with fail
      go_roundw
      case rel => exact ⟨k + 1, by omega, by go_num, Lib.hid (bdrewN hBr.out _)⟩
      case measure => simp [intOf]; omega
    · obtain rfl : k = ns.length := by omega
      go_wp2_with fail
      go_ret
      exact ⟨rfl, hBr.out⟩

/-- What SameTrust is to return. -/
def SameC (d : Nat) : Prop := ∀ (P Q : Nat → Prop) (T : Tree) (v0 v1 v2 u0 u1 u2 : Value) (w : World), TAt P d w v0 v1 v2 T → TAt Q d w u0 u1 u2 T →
    Calls Try.prog 74 #[.agg #[v0, v1, v2], .agg #[u0, u1, u2]] w fun e w' => e = .returned (.bool true) ∧ Below w.heap.size w w'

set_option maxRecDepth 100000 in
set_option maxHeartbeats 2000000 in
theorem eqInner_run (d : Nat) (ih : SameC d) (P Q : Nat → Prop) (v u : Value) (is : List Tree) (w : World) (hn : is.length ≤ 1000000) (h : ListT P d w v is) (h2 : ListT Q d w u is) :
    Calls Try.prog 81 #[v, u, .func (.func 74) #[] #[]] w fun e w' => e = .returned (.bool true) ∧ Below w.heap.size w w' := by
  obtain ⟨A, c, rfl, hA⟩ := h
  obtain ⟨B, c', rfl, hB⟩ := h2
  have HA := Lib.hid hA
  have HB := Lib.hid hB
  have HI := Lib.hid ih
  clear hA hB ih
  go_enter Try.func81, Try.ntmps81
  go_wp2_with fail
  go_loopw [17] (fun t wr => ∃ k : Nat, k ≤ is.length ∧ t = .int .i64 k ∧ Hid (Below w.heap.size w wr)) (fun t _ => is.length - (intOf t).toNat)
  case atStart => exact ⟨0, by omega, rfl, Lib.hid (bref _)⟩
  case round =>
    obtain ⟨k, hk, rfl, hBr⟩ := hrel
    by_cases hlt : k < is.length
    · obtain ⟨T, hT⟩ : ∃ T, is[k]? = some T := ⟨_, List.getElem?_eq_getElem hlt⟩
      obtain ⟨b, off, x0, x1, x2, rfl, _, e0, e1, e2, hTk⟩ := HA.out k T hT
      obtain ⟨b', off', y0, y1, y2, rfl, _, f0, f1, f2, hTk'⟩ := HB.out k T hT
      obtain ⟨t', A', n', ca, B', m', cb, rfl, rfl, rfl⟩ := hTk.form
      obtain ⟨t'', A'', n'', ca', B'', m'', cb', rfl, rfl, rfl⟩ := hTk'.form
      have d0 := (hBr.out.cell (cell_lt e0)).trans e0
      have d1 := (hBr.out.cell (cell_lt e1)).trans e1
      have d2 := (hBr.out.cell (cell_lt e2)).trans e2
      have d3 := (hBr.out.cell (cell_lt f0)).trans f0
      have d4 := (hBr.out.cell (cell_lt f1)).trans f1
      have d5 := (hBr.out.cell (cell_lt f2)).trans f2
      have l1 : b' < wr.heap.size := Nat.lt_of_lt_of_le (cell_lt f0) hBr.out.size
      have hBa := Lib.hid (balloc (balloc hBr.out (.cells #[.int .i64 t', .slice A' n' ca, .slice B' m' cb] 49)) (.cells #[.int .i64 t'', .slice A'' n'' ca', .slice B'' m'' cb'] 49))
      have hT1 := Lib.hid (hTk.below hBa.out)
      have hT2 := Lib.hid (hTk'.below hBa.out)
      clear e0 e1 e2 f0 f1 f2 hTk hTk' hT
      go_wp2_with fail
      refine (HI.out _ _ T _ _ _ _ _ _ _ hT1.out hT2.out).mono ?_
      rintro e W2 ⟨rfl, hb2⟩
      have hB2 := Lib.hid (bstep hBa.out hb2)
      clear hb2
      go_wp2_with fail
      go_roundw
      case rel => exact ⟨k + 1, by omega, by go_num, hB2⟩
      case measure => simp [intOf]; omega
    · obtain rfl : k = is.length := by omega
      go_wp2_with fail
      go_ret
      exact ⟨rfl, hBr.out⟩

set_option maxRecDepth 100000 in
set_option maxHeartbeats 2000000 in
theorem same_run : ∀ d, SameC d := by
  intro d
  induction d with
  | zero => intro P Q T v0 v1 v2 u0 u1 u2 w h; exact h.elim
  | succ d ih =>
    intro P Q T v0 v1 v2 u0 u1 u2 w h h'
    obtain ⟨thr, ns, is⟩ := T
    obtain ⟨rfl, hn, hi, hN, hL⟩ := h.parts
    obtain ⟨rfl, _, _, hN', hL'⟩ := h'.parts
    obtain ⟨A, c, rfl⟩ := hN.slice
    obtain ⟨B, c', rfl⟩ := hL.slice
    obtain ⟨A', ca, rfl⟩ := hN'.slice
    obtain ⟨B', cb, rfl⟩ := hL'.slice
    have hb2 : Below w.heap.size w ((w.alloc (.cells #[.int .i64 thr, .slice A ns.length c, .slice B is.length c'] 49)).alloc (.cells #[.int .i64 thr, .slice A' ns.length ca, .slice B' is.length cb] 49)) := balloc (balloc (bref w) _) _
    have k0 : ((w.alloc (.cells #[.int .i64 thr, .slice A ns.length c, .slice B is.length c'] 49)).alloc (.cells #[.int .i64 thr, .slice A' ns.length ca, .slice B' is.length cb] 49)).heap[w.heap.size]? = some (.cells #[.int .i64 thr, .slice A ns.length c, .slice B is.length c'] 49 (0, 0)) := alloc_on (alloc_at rfl)
    have k1 : ((w.alloc (.cells #[.int .i64 thr, .slice A ns.length c, .slice B is.length c'] 49)).alloc (.cells #[.int .i64 thr, .slice A' ns.length ca, .slice B' is.length cb] 49)).heap[w.heap.size + 1]? = some (.cells #[.int .i64 thr, .slice A' ns.length ca, .slice B' is.length cb] 49 (0, 0)) := alloc_at (alloc_sz _ _)
    have HI := Lib.hid ih
    have HB := Lib.hid hb2
    have K0 := Lib.hid k0
    have K1 := Lib.hid k1
    have HN := Lib.hid (hN.below hb2)
    have HL := Lib.hid (hL.below hb2)
    have HN' := Lib.hid (hN'.below hb2)
    have HL' := Lib.hid (hL'.below hb2)
    clear ih h h' hN hL hN' hL' hb2 k0 k1
    go_enter Try.func74, Try.ntmps74
    go_upto_region 1 with fail
    generalize ((w.alloc (.cells #[.int .i64 thr, .slice A ns.length c, .slice B is.length c'] 49)).alloc (.cells #[.int .i64 thr, .slice A' ns.length ca, .slice B' is.length cb] 49)) = W2 at *
    generalize hg : w.heap.size = g at *
    have HG := Lib.hid hg
    clear hg
    have c0 : W2.cell? ⟨g, 0, none⟩ = some (.int .i64 thr) := cell_of_row _ _ 0 _ _ (0, 0) K0.out
    have c1 : W2.cell? ⟨g, 1, none⟩ = some (.slice A ns.length c) := cell_of_row _ _ 1 _ _ (0, 0) K0.out
    have c2 : W2.cell? ⟨g, 2, none⟩ = some (.slice B is.length c') := cell_of_row _ _ 2 _ _ (0, 0) K0.out
    have d0 : W2.cell? ⟨g + 1, 0, none⟩ = some (.int .i64 thr) := cell_of_row _ _ 0 _ _ (0, 0) K1.out
    have d1 : W2.cell? ⟨g + 1, 1, none⟩ = some (.slice A' ns.length ca) := cell_of_row _ _ 1 _ _ (0, 0) K1.out
    have d2 : W2.cell? ⟨g + 1, 2, none⟩ = some (.slice B' is.length cb) := cell_of_row _ _ 2 _ _ (0, 0) K1.out
    have l0 := cell_lt c0
    have l1 := cell_lt d0
    go_wp2_with fail
    refine (eqNodes_run _ _ _ _ ns _ hn HN.out HN'.out).mono ?_
    rintro e W3 ⟨rfl, hb3⟩
    have e2 := (hb3.cell l0).trans c2
    have e5 := (hb3.cell l1).trans d2
    have HL3 := Lib.hid (HL.out.below hb3)
    have HL3' := Lib.hid (HL'.out.below hb3)
    have HB3 := Lib.hid hb3
    clear hb3 c0 c1 c2 d0 d1 d2
    go_wp2_with fail
    refine (eqInner_run d HI.out _ _ _ _ is _ hi HL3.out HL3'.out).mono ?_
    rintro e W4 ⟨rfl, hb4⟩
    have HB4 := Lib.hid (bstep HB3.out hb4)
    clear hb4
    go_wp2_with fail
    go_ret
    exact ⟨rfl, by have h1 := HB.out; rw [← HG.out] at h1; exact bstep h1 HB4.out⟩

set_option maxHeartbeats 1000000 in
theorem psame_run (d : Nat) (P Q : Nat → Prop) (T : Tree) (v0 v1 v2 u0 u1 u2 : Value) (w : World) (h : TAt P d w v0 v1 v2 T) (h' : TAt Q d w u0 u1 u2 T) :
    Calls Try.prog 63 #[.agg #[v0, v1, v2], .agg #[u0, u1, u2]] w fun e w' => e = .returned (.bool true) ∧ Below w.heap.size w w' := by
  obtain ⟨t', A', n', ca, B', m', cb, rfl, rfl, rfl⟩ := h.form
  obtain ⟨t'', A'', n'', ca', B'', m'', cb', rfl, rfl, rfl⟩ := h'.form
  have hb2 : Below w.heap.size w ((w.alloc (.cells #[.int .i64 t', .slice A' n' ca, .slice B' m' cb] 49)).alloc (.cells #[.int .i64 t'', .slice A'' n'' ca', .slice B'' m'' cb'] 49)) := balloc (balloc (bref w) _) _
  have H := Lib.hid (h.below hb2)
  have H' := Lib.hid (h'.below hb2)
  have HB := Lib.hid hb2
  clear h h' hb2
  go_enter Try.func63, Try.ntmps63
  go_wp2_with fail
  refine (same_run d _ _ T _ _ _ _ _ _ _ H.out H'.out).mono ?_
  rintro e W3 ⟨rfl, hb3⟩
  have HB3 := Lib.hid (bstep HB.out hb3)
  clear hb3
  go_wp2_with fail
  go_ret
  exact ⟨rfl, HB3.out⟩

end Go.Proofs.Ytfghnkgllmofgaa
