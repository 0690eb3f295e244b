/- The contract of data.Trust: a copy of a trust. -/
import Derived.Test.YtmgiojdipheokaaDual2
namespace Go.Proofs.Ytmgiojdipheokaa
set_option linter.unusedVariables false
open Go.RowKit

set_option maxRecDepth 100000 in
set_option maxHeartbeats 4000000 in
theorem copy_one : ∀ (d : Nat), OneC 100 d (fun _ => True) (fun T => T)
  | 0 => fun P T x0 x1 x2 w h _ => h.elim
  | d + 1 => by
    have ih := copy_one d
    intro P T x0 x1 x2 w h hW
    obtain ⟨thr, ns, is⟩ := T
    obtain ⟨A, c, B, c', rfl, rfl, rfl, hn, hi, hbx⟩ := h.boxed
    obtain ⟨_, _, _, hN, hL⟩ := h.parts
    have HIH := Lib.hid ih
    have hb2 := balloc (balloc (bref w) (.cells #[.int .i64 thr, .slice A ns.length c, .slice B is.length c'] 41)) (.cells #[.int .i64 0, .slice none 0 0, .slice none 0 0] 41)
    have hS0 : CopyS w w.heap.size (w.heap.size + 1) thr (.slice A ns.length c) (.slice B is.length c') d ns is ((w.alloc (.cells #[.int .i64 thr, .slice A ns.length c, .slice B is.length c'] 41)).alloc (.cells #[.int .i64 0, .slice none 0 0, .slice none 0 0] 41)) := by
      refine ⟨⟨0, .slice none 0 0, .slice none 0 0, ?_⟩, (hN.both (fun _ _ _ => rfl) (fun k hk _ => hk)).below hb2, (hL.both (fun _ _ _ => rfl) (fun k hk _ => hk)).below hb2, ?_, hb2⟩
      · have := heap_alloc_new (w.alloc (.cells #[.int .i64 thr, .slice A ns.length c, .slice B is.length c'] 41)) (.cells #[.int .i64 0, .slice none 0 0, .slice none 0 0] 41)
        show _ = _
        simpa using this
      · exact (Below.heap_alloc _ _ _ hbx.lt).trans hbx.heap
    have HS0 := Lib.hid hS0
    clear h hbx ih hN hL hW hb2 hS0
    go_enter Try.func100, Try.ntmps100
    go_upto_region 1 with fail
    generalize (w.alloc (.cells #[.int .i64 thr, .slice A ns.length c, .slice B is.length c'] 41)).alloc (.cells #[.int .i64 0, .slice none 0 0, .slice none 0 0] 41) = W1 at *
    generalize hgg : w.heap.size = g at *
    have HGG := Lib.hid hgg
    clear hgg
    have hr1 : g + 1 < W1.heap.size := by
      obtain ⟨⟨y, u1, u2, h1⟩, _⟩ := HS0.out
      exact h1.lt
    have hS6 := Lib.hid (show W1.drew.cell? ⟨g, 0, none⟩ = some (.int .i64 thr) ∧ W1.drew.cell? ⟨g, 1, none⟩ = some (.slice A ns.length c) ∧ W1.drew.cell? ⟨g, 2, none⟩ = some (.slice B is.length c') ∧ CopyS w g (g + 1) thr (.slice A ns.length c) (.slice B is.length c') d ns is W1.drew from ⟨HS0.out.2.2.2.1.cs.1, HS0.out.2.2.2.1.cs.2.1, HS0.out.2.2.2.1.cs.2.2, copyS_drew HS0.out⟩)
    go_region_held3 (fun W => W.cell? ⟨g, 0, none⟩ = some (.int .i64 thr) ∧ W.cell? ⟨g, 1, none⟩ = some (.slice A ns.length c) ∧ W.cell? ⟨g, 2, none⟩ = some (.slice B is.length c') ∧ CopyS w g (g + 1) thr (.slice A ns.length c) (.slice B is.length c') d ns is W) (first | exact hS6.out | exact copyB (by assumption) hbK | exact copySet (by assumption) (by omega) (by rw [HGG.out]; omega) _ _ _ | go_keep)
      (first
        | (go_at_call 90; refine (flat_run _ _ ns _ hn (by exact copyN (by assumption))).mono ?_; rintro e WK ⟨vf, rfl, hNf, hbK⟩; obtain ⟨Af, cf, rfl⟩ := hNf.slice; have hSK := copyB (by assumption) hbK; obtain ⟨⟨y', u1', u2', hOK⟩, _⟩ := hSK.2.2.2; obtain ⟨p0, p1, p2⟩ := hOK.cs; have pf0 := hOK.fr 0; have pf1 := hOK.fr 1; have pf2 := hOK.fr 2; have hzf := hOK.lt)
        | (go_at_call 91; refine (listTrust_run d (fun _ => True) (fun T => T) HIH.out _ _ is _ hi (by exact copyL (by assumption)) (fun _ _ => trivial)).mono ?_; rintro e WK ⟨vl, rfl, hLl, hbK⟩; obtain ⟨Al, cl, rfl⟩ := hLl.slice; have hSK := copyB (by assumption) hbK; obtain ⟨⟨y', u1', u2', hOK⟩, _⟩ := hSK.2.2.2; obtain ⟨p0, p1, p2⟩ := hOK.cs; have pf0 := hOK.fr 0; have pf1 := hOK.fr 1; have pf2 := hOK.fr 2))
    have hF : WK.cell? ⟨g, 0, none⟩ = some (.int .i64 thr) ∧ WK.cell? ⟨g, 1, none⟩ = some (.slice A ns.length c) ∧ WK.cell? ⟨g, 2, none⟩ = some (.slice B is.length c') ∧ CopyS w g (g + 1) thr (.slice A ns.length c) (.slice B is.length c') d ns is WK := hSK
    have hbF : Below w.heap.size w WK := hF.2.2.2.2.2.2.2
    have hNF := NodesAt.both (Q := fun b => g ≤ b ∧ b ≠ g + 1) (NodesAt.below hNf hbK) (fun _ _ _ => rfl) (fun k hk hP => by have : W1.heap.size ≤ k := hP; omega)
    have hLF := ListT.both (Q := fun b => g ≤ b ∧ b ≠ g + 1) hLl (fun _ _ _ => rfl) (fun k hk hP => by omega)
    have far : ∀ q, q ≠ g + 1 → (((WK.setCell ⟨g + 1, 0, none⟩ (.int .i64 thr)).setCell ⟨g + 1, 1, none⟩ (.slice Af ns.length cf)).setCell ⟨g + 1, 2, none⟩ (.slice Al is.length cl)).heap[q]? = WK.heap[q]? := fun q hq =>
      (Below.heap_setCell _ _ _ _ (by simpa using hq)).trans ((Below.heap_setCell _ _ _ _ (by simpa using hq)).trans (Below.heap_setCell _ _ _ _ (by simpa using hq)))
    have hNF2 := NodesAt.both (Q := fun b => g ≤ b) hNF (fun k _ hk => far k hk.2) (fun k _ hk => hk.1)
    have hLF2 := ListT.both (Q := fun b => g ≤ b) hLF (fun k _ hk => far k hk.2) (fun k _ hk => hk.1)
    have hbF2 := bset (bset (bset hbF (p := ⟨g + 1, 0, none⟩) (by rw [HGG.out]; simp) (.int .i64 thr)) (p := ⟨g + 1, 1, none⟩) (by rw [HGG.out]; simp) (.slice Af ns.length cf)) (p := ⟨g + 1, 2, none⟩) (by rw [HGG.out]; simp) (.slice Al is.length cl)
    have HOK := Lib.hid hOK
    have HNF2 := Lib.hid hNF2
    have HLF2 := Lib.hid hLF2
    have HBF2 := Lib.hid hbF2
    clear hNF hLF far hNF2 hLF2 hbF2 hF hSK hbF
    go_wp2_with fail
    refine bodyPost_ret (v := .agg #[.int .i64 thr, .slice Af ns.length cf, .slice Al is.length cl]) ?_ rfl ⟨_, _, _, rfl, ?_, HBF2.out⟩
    · simp [results, Try.results100, go_sem, p0, p1, p2]
    · rw [HGG.out]
      have h := TAt.of_parts (thr := thr) hn (by simpa using hi) HNF2.out HLF2.out
      simpa using h
end Go.Proofs.Ytmgiojdipheokaa
