/- The contract of threshold.Dual. -/
import Derived.Test.YtmgiojdipheokaaList
import Derived.Deep.RegionHeld3
namespace Go.Proofs.Ytmgiojdipheokaa
set_option linter.unusedVariables false
open Go.RowKit

theorem NodesAt.both {P Q : Nat → Prop} {w w' : World} {v : Value} {ns : List Int} (h : NodesAt P w v ns) (hk : ∀ k, k < w.heap.size → P k → w'.heap[k]? = w.heap[k]?) (hq : ∀ k, k < w.heap.size → P k → Q k) : NodesAt Q w' v ns := by
  obtain ⟨A, c, h1, h2⟩ := h
  refine ⟨A, c, h1, fun k hk' => ?_⟩
  obtain ⟨b, off, e1, e2, e3⟩ := h2 k hk'
  exact ⟨b, off, e1, hq _ (cell_lt e3) e2, (World.cell?_of_block (hk _ (cell_lt e3) e2)).trans e3⟩
theorem ListT.both {P Q : Nat → Prop} {w w' : World} {d : Nat} {v : Value} {is : List Tree} (h : ListT P d w v is) (hk : ∀ k, k < w.heap.size → P k → w'.heap[k]? = w.heap[k]?) (hq : ∀ k, k < w.heap.size → P k → Q k) : ListT Q d w' v is := by
  obtain ⟨A, c, h1, h2⟩ := h
  refine ⟨A, c, h1, fun k T hT => ?_⟩
  obtain ⟨b, off, x0, x1, x2, e1, e2, e3, e4, e5, e6⟩ := h2 k T hT
  exact ⟨b, off, x0, x1, x2, e1, hq _ (cell_lt e3) e2, (World.cell?_of_block (hk _ (cell_lt e3) e2)).trans e3, (World.cell?_of_block (hk _ (cell_lt e4) e2)).trans e4, (World.cell?_of_block (hk _ (cell_lt e5) e2)).trans e5, TAt.both hk hq _ _ _ _ _ e6⟩
theorem NodesAt.below {P : Nat → Prop} {w w' : World} {v : Value} {ns : List Int} (h : NodesAt P w v ns) (hb : Below w.heap.size w w') : NodesAt P w' v ns := h.both (fun k hk _ => hb.block k hk) (fun _ _ h => h)
theorem ListT.below {P : Nat → Prop} {w w' : World} {d : Nat} {v : Value} {is : List Tree} (h : ListT P d w v is) (hb : Below w.heap.size w w') : ListT P d w' v is := h.both (fun k hk _ => hb.block k hk) (fun _ _ h => h)
theorem NodesAt.slice {P : Nat → Prop} {w : World} {v : Value} {ns : List Int} (h : NodesAt P w v ns) : ∃ A c, v = .slice A ns.length c := by
  obtain ⟨A, c, h1, _⟩ := h; exact ⟨A, c, h1⟩
theorem ListT.slice {P : Nat → Prop} {w : World} {d : Nat} {v : Value} {is : List Tree} (h : ListT P d w v is) : ∃ A c, v = .slice A is.length c := by
  obtain ⟨A, c, h1, _⟩ := h; exact ⟨A, c, h1⟩
theorem TAt.parts {P : Nat → Prop} {w : World} {d : Nat} {v0 v1 v2 : Value} {thr : Int} {ns : List Int} {is : List Tree} (h : TAt P (d + 1) w v0 v1 v2 (.mk thr ns is)) :
    v0 = .int .i64 thr ∧ ns.length ≤ 1000000 ∧ is.length ≤ 1000000 ∧ NodesAt P w v1 ns ∧ ListT P d w v2 is := h
theorem TAt.of_parts {P : Nat → Prop} {w : World} {d : Nat} {v1 v2 : Value} {thr : Int} {ns : List Int} {is : List Tree} (h1 : ns.length ≤ 1000000) (h2 : is.length ≤ 1000000) (h3 : NodesAt P w v1 ns) (h4 : ListT P d w v2 is) : TAt P (d + 1) w (.int .i64 thr) v1 v2 (.mk thr ns is) := ⟨rfl, h1, h2, h3, h4⟩

/-- What the drawn region of a function that copies a trust keeps: the box of the argument, the block of the result, the argument's parts. -/
def CopyS (w : World) (g r : Nat) (thr : Int) (v1 v2 : Value) (d : Nat) (ns : List Int) (is : List Tree) (W : World) : Prop :=
  (∃ y u1 u2, OutAt W r y u1 u2) ∧ NodesAt (fun b => b < w.heap.size) W v1 ns ∧ ListT (fun b => b < w.heap.size) d W v2 is ∧ OutAt W g thr v1 v2 ∧ Below w.heap.size w W
theorem CopyS.below {w W W' : World} {g r : Nat} {thr : Int} {v1 v2 : Value} {d : Nat} {ns : List Int} {is : List Tree} (h : CopyS w g r thr v1 v2 d ns is W) (hb : Below W.heap.size W W') : CopyS w g r thr v1 v2 d ns is W' := by
  obtain ⟨⟨y, u1, u2, h1⟩, h2, h3, h4, h5⟩ := h
  exact ⟨⟨y, u1, u2, h1.keep (hb.block _ h1.lt)⟩, h2.below hb, h3.below hb, h4.keep (hb.block _ h4.lt), bstep h5 hb⟩
theorem CopyS.set {w W : World} {g r : Nat} {thr : Int} {v1 v2 : Value} {d : Nat} {ns : List Int} {is : List Tree} (h : CopyS w g r thr v1 v2 d ns is W) (hg : g ≠ r) (hr : w.heap.size ≤ r) (y : Int) (u1 u2 : Value) :
    CopyS w g r thr v1 v2 d ns is (((W.setCell ⟨r, 0, none⟩ (.int .i64 y)).setCell ⟨r, 1, none⟩ u1).setCell ⟨r, 2, none⟩ u2) := by
  obtain ⟨⟨y', u1', u2', h1⟩, h2, h3, h4, h5⟩ := h
  have far : ∀ q, q ≠ r → (((W.setCell ⟨r, 0, none⟩ (.int .i64 y)).setCell ⟨r, 1, none⟩ u1).setCell ⟨r, 2, none⟩ u2).heap[q]? = W.heap[q]? := fun q hq =>
    (Below.heap_setCell _ _ _ _ (by simpa using hq)).trans ((Below.heap_setCell _ _ _ _ (by simpa using hq)).trans (Below.heap_setCell _ _ _ _ (by simpa using hq)))
  exact ⟨⟨_, _, _, ((h1.set0 y).set1 u1).set2 u2⟩, h2.both (fun k _ hk => far k (by omega)) (fun _ _ h => h), h3.both (fun k _ hk => far k (by omega)) (fun _ _ h => h), h4.keep (far g hg), bset (bset (bset h5 (p := ⟨r, 0, none⟩) hr _) (p := ⟨r, 1, none⟩) hr _) (p := ⟨r, 2, none⟩) hr _⟩

theorem copyS_drew {w W : World} {g r : Nat} {thr : Int} {v1 v2 : Value} {d : Nat} {ns : List Int} {is : List Tree} (h : CopyS w g r thr v1 v2 d ns is W) : CopyS w g r thr v1 v2 d ns is W.drew :=
  h.below ⟨rfl, rfl, rfl, Nat.le_refl _, fun _ _ => rfl⟩
theorem copyB {w W W' : World} {g r : Nat} {thr : Int} {v1 v2 : Value} {d : Nat} {ns : List Int} {is : List Tree}
    (h : W.cell? ⟨g, 0, none⟩ = some (.int .i64 thr) ∧ W.cell? ⟨g, 1, none⟩ = some v1 ∧ W.cell? ⟨g, 2, none⟩ = some v2 ∧ CopyS w g r thr v1 v2 d ns is W) (hb : Below W.heap.size W W') :
    W'.cell? ⟨g, 0, none⟩ = some (.int .i64 thr) ∧ W'.cell? ⟨g, 1, none⟩ = some v1 ∧ W'.cell? ⟨g, 2, none⟩ = some v2 ∧ CopyS w g r thr v1 v2 d ns is W' := by
  have k := h.2.2.2.below hb
  exact ⟨k.2.2.2.1.cs.1, k.2.2.2.1.cs.2.1, k.2.2.2.1.cs.2.2, k⟩
theorem copySet {w W : World} {g r : Nat} {thr : Int} {v1 v2 : Value} {d : Nat} {ns : List Int} {is : List Tree}
    (h : W.cell? ⟨g, 0, none⟩ = some (.int .i64 thr) ∧ W.cell? ⟨g, 1, none⟩ = some v1 ∧ W.cell? ⟨g, 2, none⟩ = some v2 ∧ CopyS w g r thr v1 v2 d ns is W) (hg : g ≠ r) (hr : w.heap.size ≤ r) (y : Int) (u1 u2 : Value) :
    (((W.setCell ⟨r, 0, none⟩ (.int .i64 y)).setCell ⟨r, 1, none⟩ u1).setCell ⟨r, 2, none⟩ u2).cell? ⟨g, 0, none⟩ = some (.int .i64 thr) ∧ (((W.setCell ⟨r, 0, none⟩ (.int .i64 y)).setCell ⟨r, 1, none⟩ u1).setCell ⟨r, 2, none⟩ u2).cell? ⟨g, 1, none⟩ = some v1 ∧ (((W.setCell ⟨r, 0, none⟩ (.int .i64 y)).setCell ⟨r, 1, none⟩ u1).setCell ⟨r, 2, none⟩ u2).cell? ⟨g, 2, none⟩ = some v2 ∧
      CopyS w g r thr v1 v2 d ns is (((W.setCell ⟨r, 0, none⟩ (.int .i64 y)).setCell ⟨r, 1, none⟩ u1).setCell ⟨r, 2, none⟩ u2) := by
  have k := h.2.2.2.set hg hr y u1 u2
  exact ⟨k.2.2.2.1.cs.1, k.2.2.2.1.cs.2.1, k.2.2.2.1.cs.2.2, k⟩
theorem copyN {w W : World} {g r : Nat} {thr : Int} {v1 v2 : Value} {d : Nat} {ns : List Int} {is : List Tree}
    (h : W.cell? ⟨g, 0, none⟩ = some (.int .i64 thr) ∧ W.cell? ⟨g, 1, none⟩ = some v1 ∧ W.cell? ⟨g, 2, none⟩ = some v2 ∧ CopyS w g r thr v1 v2 d ns is W) : NodesAt (fun b => b < w.heap.size) W v1 ns := h.2.2.2.2.1
theorem copyL {w W : World} {g r : Nat} {thr : Int} {v1 v2 : Value} {d : Nat} {ns : List Int} {is : List Tree}
    (h : W.cell? ⟨g, 0, none⟩ = some (.int .i64 thr) ∧ W.cell? ⟨g, 1, none⟩ = some v1 ∧ W.cell? ⟨g, 2, none⟩ = some v2 ∧ CopyS w g r thr v1 v2 d ns is W) : ListT (fun b => b < w.heap.size) d W v2 is := h.2.2.2.2.2.1

/-- The dual. -/
def dualT : Nat → Tree → Tree
  | 0, T => T
  | d + 1, .mk thr ns is => .mk (((ns.length + is.length : Nat) : Int) + 1 - thr) ns (is.map (dualT d))

set_option maxRecDepth 100000 in
set_option maxHeartbeats 4000000 in
theorem dual_one (n : Int) : ∀ (d : Nat), OneC 54 d (WF n d) (dualT d)
  | 0 => fun P T x0 x1 x2 w h _ => h.elim
  | d + 1 => by
    have ih := dual_one n d
    intro P T x0 x1 x2 w h hW
    obtain ⟨thr, ns, is⟩ := T
    obtain ⟨A, c, B, c', rfl, rfl, rfl, hn, hi, hbx⟩ := h.boxed
    obtain ⟨_, _, _, hN, hL⟩ := h.parts
    obtain ⟨ht0, ht1, hl5, hl3, _, _, hWi⟩ := hW
    have HWI := Lib.hid hWi
    have HIH := Lib.hid ih
    have hthr : thr ≤ (ns.length : Int) + (is.length : Int) := by push_cast at ht1; exact ht1
    have hb2 := balloc (balloc (bref w) (.cells #[.int .i64 thr, .slice A ns.length c, .slice B is.length c'] 41)) (.cells #[.int .i64 0, .slice none 0 0, .slice none 0 0] 41)
    have hS0 : CopyS w w.heap.size (w.heap.size + 1) thr (.slice A ns.length c) (.slice B is.length c') d ns is ((w.alloc (.cells #[.int .i64 thr, .slice A ns.length c, .slice B is.length c'] 41)).alloc (.cells #[.int .i64 0, .slice none 0 0, .slice none 0 0] 41)) := by
      refine ⟨⟨0, .slice none 0 0, .slice none 0 0, ?_⟩, (hN.both (fun _ _ _ => rfl) (fun k hk _ => hk)).below hb2, (hL.both (fun _ _ _ => rfl) (fun k hk _ => hk)).below hb2, ?_, hb2⟩
      · have := heap_alloc_new (w.alloc (.cells #[.int .i64 thr, .slice A ns.length c, .slice B is.length c'] 41)) (.cells #[.int .i64 0, .slice none 0 0, .slice none 0 0] 41)
        show _ = _
        simpa using this
      · exact (Below.heap_alloc _ _ _ hbx.lt).trans hbx.heap
    have HS0 := Lib.hid hS0
    clear h hbx ih hN hL ht1 hWi hb2 hS0
    go_enter Try.func54, Try.ntmps54
    go_upto_region 1 with fail
    generalize (w.alloc (.cells #[.int .i64 thr, .slice A ns.length c, .slice B is.length c'] 41)).alloc (.cells #[.int .i64 0, .slice none 0 0, .slice none 0 0] 41) = W1 at *
    generalize hgg : w.heap.size = g at *
    have HGG := Lib.hid hgg
    clear hgg
    have hr1 : g + 1 < W1.heap.size := by
      obtain ⟨⟨y, u1, u2, h1⟩, _⟩ := HS0.out
      exact h1.lt
    have hw1 : IntKind.i64.wrap ((ns.length : Int) + (is.length : Int)) = (ns.length : Int) + (is.length : Int) := IntWalk.i64_in _ (by omega)
    have hw2 : IntKind.i64.wrap ((ns.length : Int) + (is.length : Int) + 1) = (ns.length : Int) + (is.length : Int) + 1 := IntWalk.i64_in _ (by omega)
    have hw3 : IntKind.i64.wrap ((ns.length : Int) + (is.length : Int) + 1 - thr) = (ns.length : Int) + (is.length : Int) + 1 - thr := IntWalk.i64_in _ (by omega)
    have hS6 := Lib.hid (show W1.drew.cell? ⟨g, 0, none⟩ = some (.int .i64 thr) ∧ W1.drew.cell? ⟨g, 1, none⟩ = some (.slice A ns.length c) ∧ W1.drew.cell? ⟨g, 2, none⟩ = some (.slice B is.length c') ∧ CopyS w g (g + 1) thr (.slice A ns.length c) (.slice B is.length c') d ns is W1.drew from ⟨HS0.out.2.2.2.1.cs.1, HS0.out.2.2.2.1.cs.2.1, HS0.out.2.2.2.1.cs.2.2, copyS_drew HS0.out⟩)
    go_region_held3 (fun W => W.cell? ⟨g, 0, none⟩ = some (.int .i64 thr) ∧ W.cell? ⟨g, 1, none⟩ = some (.slice A ns.length c) ∧ W.cell? ⟨g, 2, none⟩ = some (.slice B is.length c') ∧ CopyS w g (g + 1) thr (.slice A ns.length c) (.slice B is.length c') d ns is W) (first | exact hS6.out | exact copyB (by assumption) hbK | exact copySet (by assumption) (by omega) (by rw [HGG.out]; omega) _ _ _ | go_keep)
      (first
        | (go_at_call 90; refine (flat_run _ _ ns _ hn (by exact copyN (by assumption))).mono ?_; rintro e WK ⟨vf, rfl, hNf, hbK⟩; obtain ⟨Af, cf, rfl⟩ := hNf.slice; have hSK := copyB (by assumption) hbK; obtain ⟨⟨y', u1', u2', hOK⟩, _⟩ := hSK.2.2.2; obtain ⟨p0, p1, p2⟩ := hOK.cs; have pf0 := hOK.fr 0; have pf1 := hOK.fr 1; have pf2 := hOK.fr 2; have hzf := hOK.lt)
        | (go_at_call 91; refine (listDual_run d (WF n d) (dualT d) HIH.out _ _ is _ hi (by exact copyL (by assumption)) HWI.out).mono ?_; rintro e WK ⟨vl, rfl, hLl, hbK⟩; obtain ⟨Al, cl, rfl⟩ := hLl.slice; have hSK := copyB (by assumption) hbK; obtain ⟨⟨y', u1', u2', hOK⟩, _⟩ := hSK.2.2.2; obtain ⟨p0, p1, p2⟩ := hOK.cs; have pf0 := hOK.fr 0; have pf1 := hOK.fr 1; have pf2 := hOK.fr 2))
    have hF : WK.cell? ⟨g, 0, none⟩ = some (.int .i64 thr) ∧ WK.cell? ⟨g, 1, none⟩ = some (.slice A ns.length c) ∧ WK.cell? ⟨g, 2, none⟩ = some (.slice B is.length c') ∧ CopyS w g (g + 1) thr (.slice A ns.length c) (.slice B is.length c') d ns is WK := hSK
    have hbF : Below w.heap.size w WK := hF.2.2.2.2.2.2.2
    have hNF := NodesAt.both (Q := fun b => g ≤ b ∧ b ≠ g + 1) (NodesAt.below hNf hbK) (fun _ _ _ => rfl) (fun k hk hP => by have : W1.heap.size ≤ k := hP; omega)
    have hLF := ListT.both (Q := fun b => g ≤ b ∧ b ≠ g + 1) hLl (fun _ _ _ => rfl) (fun k hk hP => by omega)
    have far : ∀ q, q ≠ g + 1 → (((WK.setCell ⟨g + 1, 0, none⟩ (.int .i64 ((ns.length : Int) + (is.length : Int) + 1 - thr))).setCell ⟨g + 1, 1, none⟩ (.slice Af ns.length cf)).setCell ⟨g + 1, 2, none⟩ (.slice Al is.length cl)).heap[q]? = WK.heap[q]? := fun q hq =>
      (Below.heap_setCell _ _ _ _ (by simpa using hq)).trans ((Below.heap_setCell _ _ _ _ (by simpa using hq)).trans (Below.heap_setCell _ _ _ _ (by simpa using hq)))
    have hNF2 := NodesAt.both (Q := fun b => g ≤ b) hNF (fun k _ hk => far k hk.2) (fun k _ hk => hk.1)
    have hLF2 := ListT.both (Q := fun b => g ≤ b) hLF (fun k _ hk => far k hk.2) (fun k _ hk => hk.1)
    have hbF2 := bset (bset (bset hbF (p := ⟨g + 1, 0, none⟩) (by rw [HGG.out]; simp) (.int .i64 ((ns.length : Int) + (is.length : Int) + 1 - thr))) (p := ⟨g + 1, 1, none⟩) (by rw [HGG.out]; simp) (.slice Af ns.length cf)) (p := ⟨g + 1, 2, none⟩) (by rw [HGG.out]; simp) (.slice Al is.length cl)
    have HOK := Lib.hid hOK
    have HNF2 := Lib.hid hNF2
    have HLF2 := Lib.hid hLF2
    have HBF2 := Lib.hid hbF2
    clear hNF hLF far hNF2 hLF2 hbF2 hF hSK hbF
    go_wp2_with fail
    refine bodyPost_ret (v := .agg #[.int .i64 ((ns.length : Int) + (is.length : Int) + 1 - thr), .slice Af ns.length cf, .slice Al is.length cl]) ?_ rfl ⟨_, _, _, rfl, ?_, HBF2.out⟩
    · simp [results, Try.results54, go_sem, p0, p1, p2]
    · rw [HGG.out]
      have h := TAt.of_parts (thr := (ns.length : Int) + (is.length : Int) + 1 - thr) hn (by simpa using hi) HNF2.out HLF2.out
      rw [show dualT (d + 1) (.mk thr ns is) = .mk ((ns.length : Int) + (is.length : Int) + 1 - thr) ns (is.map (dualT d)) by unfold dualT; push_cast; rfl]
      simpa using h
end Go.Proofs.Ytmgiojdipheokaa
