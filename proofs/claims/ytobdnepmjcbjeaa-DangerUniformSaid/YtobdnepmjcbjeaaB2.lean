/- What the laws of this seat share: part 2. -/
import Derived.Test.YtobdnepmjcbjeaaB1
import Derived.Deep.RegionHeld3
import Derived.Sort.Grow
import Derived.Deep.WholeRow
import Derived.Shelf.SlSortCmp.NoneTotal
import Derived.Shelf.SlGeneric
import Derived.Ground.SlsfProg
import Derived.Test.YtobdnepmjcbjeaaProg
import Derived.Sort.OwnSortedInts

namespace Go.Proofs.Ytobdnepmjcbjeaa
set_option linter.unusedVariables false
set_option linter.unusedSimpArgs false
open Go.RowKit

theorem keepT {W W' : World} {P : Nat → Prop} {d g : Nat} {v : Value} {u : Obj} {ms : List Mem} (h : W.cell? ⟨g, 0, none⟩ = some v ∧ W.heap[g + 1]? = some u ∧ MemsAt P d W v ms) (hb : Below W.heap.size W W') : W'.cell? ⟨g, 0, none⟩ = some v ∧ W'.heap[g + 1]? = some u ∧ MemsAt P d W' v ms := by
  refine ⟨(hb.cell (cell_lt h.1)).trans h.1, (hb.block _ ?_).trans h.2.1, h.2.2.below hb⟩
  rcases Nat.lt_or_ge (g + 1) W.heap.size with h1 | h1
  · exact h1
  · have := h.2.1; rw [Array.getElem?_eq_none h1] at this; cases this

theorem memsT {W : World} {P : Nat → Prop} {d g : Nat} {v : Value} {u : Obj} {ms : List Mem} (h : W.cell? ⟨g, 0, none⟩ = some v ∧ W.heap[g + 1]? = some u ∧ MemsAt P d W v ms) : MemsAt P d W v ms := h.2.2

theorem TrAt.both {P Q : Nat → Prop} {w w' : World} (hk : ∀ q, q < w.heap.size → P q → w'.heap[q]? = w.heap[q]?) (hq : ∀ q, P q → Q q) : ∀ {T : Tr} {k n s : Value}, TrAt P w T k n s → TrAt Q w' T k n s
  | .none, _, _, _, h => h
  | .alone, _, _, _, h => h
  | .split nd a b, k, n, s, h => by
    obtain ⟨h1, h2, q, off, x0, x1, x2, y0, y1, y2, h3, hP, e0, e1, e2, e3, e4, e5, ha, hb'⟩ := h
    have lw := hk q (cell_lt e0) hP
    exact ⟨h1, h2, q, off, x0, x1, x2, y0, y1, y2, h3, hq q hP, (World.cell?_of_block (a := ⟨q, off, none⟩) lw).trans e0, (World.cell?_of_block (a := ⟨q, off + 1, none⟩) lw).trans e1, (World.cell?_of_block (a := ⟨q, off + 2, none⟩) lw).trans e2, (World.cell?_of_block (a := ⟨q, off + 3, none⟩) lw).trans e3, (World.cell?_of_block (a := ⟨q, off + 4, none⟩) lw).trans e4, (World.cell?_of_block (a := ⟨q, off + 5, none⟩) lw).trans e5, TrAt.both hk hq ha, TrAt.both hk hq hb'⟩

theorem minus_bitT (a b j : Nat) : (a ^^^ (a &&& b)).testBit j = (a.testBit j && !b.testBit j) := by
  rw [Nat.testBit_xor, Nat.testBit_and]
  cases a.testBit j <;> cases b.testBit j <;> rfl

theorem xor_and_le (a b : Nat) : a ^^^ (a &&& b) ≤ a := by
  have e : (a ^^^ (a &&& b)) &&& a = a ^^^ (a &&& b) := by
    apply Nat.eq_of_testBit_eq
    intro j
    rw [Nat.testBit_and, minus_bitT]
    cases a.testBit j <;> cases b.testBit j <;> rfl
  rw [← e]
  exact Nat.and_le_right

theorem or_factT (s K : Nat) (hs : s < 1024) (hK : K < 10) : bits .or .i64 (s : Int) (IntKind.i64.wrap (2 ^ K)) = ((s ||| 2 ^ K : Nat) : Int) := by
  have all : ∀ S : Fin 1024, ∀ K : Fin 10, bits .or .i64 (S.val : Int) (IntKind.i64.wrap (2 ^ K.val)) = ((S.val ||| 2 ^ K.val : Nat) : Int) := by decide +kernel
  exact all ⟨s, hs⟩ ⟨K, hK⟩

theorem bdrewT (W : World) : Below W.heap.size W W.drew := ⟨rfl, rfl, rfl, Nat.le_refl _, fun _ _ => rfl⟩

theorem bit_lt {s k n : Nat} (h : s.testBit k = true) (hs : s < 2 ^ n) : k < n := by
  rcases Nat.lt_or_ge k n with h1 | h1
  · exact h1
  · rw [Nat.testBit_lt_two_pow (Nat.lt_of_lt_of_le hs (Nat.pow_le_pow_right (by omega) h1))] at h; cases h

end Go.Proofs.Ytobdnepmjcbjeaa

namespace Go.Proofs.Ytobdnepmjcbjeaa
set_option linter.unusedVariables false
set_option linter.unusedSimpArgs false
open Go.RowKit

theorem keep9 {W W' : World} {a0 a1 a2 a3 a4 a5 a6 a7 a8 : Addr} {v0 v1 v2 v3 v4 v5 v6 v7 v8 : Value} (h : W.cell? a0 = some v0 ∧ W.cell? a1 = some v1 ∧ W.cell? a2 = some v2 ∧ W.cell? a3 = some v3 ∧ W.cell? a4 = some v4 ∧ W.cell? a5 = some v5 ∧ W.cell? a6 = some v6 ∧ W.cell? a7 = some v7 ∧ W.cell? a8 = some v8) (hb : Below W.heap.size W W') : W'.cell? a0 = some v0 ∧ W'.cell? a1 = some v1 ∧ W'.cell? a2 = some v2 ∧ W'.cell? a3 = some v3 ∧ W'.cell? a4 = some v4 ∧ W'.cell? a5 = some v5 ∧ W'.cell? a6 = some v6 ∧ W'.cell? a7 = some v7 ∧ W'.cell? a8 = some v8 :=
  ⟨(hb.cell (cell_lt h.1)).trans h.1, (hb.cell (cell_lt h.2.1)).trans h.2.1, (hb.cell (cell_lt h.2.2.1)).trans h.2.2.1, (hb.cell (cell_lt h.2.2.2.1)).trans h.2.2.2.1, (hb.cell (cell_lt h.2.2.2.2.1)).trans h.2.2.2.2.1, (hb.cell (cell_lt h.2.2.2.2.2.1)).trans h.2.2.2.2.2.1, (hb.cell (cell_lt h.2.2.2.2.2.2.1)).trans h.2.2.2.2.2.2.1, (hb.cell (cell_lt h.2.2.2.2.2.2.2.1)).trans h.2.2.2.2.2.2.2.1, (hb.cell (cell_lt h.2.2.2.2.2.2.2.2)).trans h.2.2.2.2.2.2.2.2⟩

theorem size_le2 : ∀ (T : Tr), 1 ≤ sizeTr T
  | .none => Nat.le_refl _
  | .alone => Nat.le_refl _
  | .split _ a b => by show 1 ≤ 1 + sizeTr a + sizeTr b; omega

end Go.Proofs.Ytobdnepmjcbjeaa

namespace Go.Proofs.Ytobdnepmjcbjeaa
set_option linter.unusedVariables false
set_option linter.unusedSimpArgs false
open Go.RowKit

/-- What Holds returns. -/
def HoldsOk (d : Nat) (ms : List Mem) (e : Ending) : Prop := (e = .returned (.tuple #[.bool true, .int .i64 0]) ∧ ∀ t, t < 2 ^ ms.length → ¬ Apart d ms t) ∨ (e = .returned (.tuple #[.bool false, .int .i64 0]) ∧ ∃ t, t < 2 ^ ms.length ∧ Apart d ms t)

/-- What Disjoint returns. -/
def DisjOk (d : Nat) (ms : List Mem) (e : Ending) : Prop := (∃ i a b : Nat, e = .returned (.tuple #[.int .i64 (a : Int), .int .i64 (b : Int), .int .i64 0]) ∧ (ordN ms.length)[i]? = some a ∧ Apart d ms a ∧ IsGr d ms (outS ms.length a &&& declS ms ms.length) b ∧ b < 1024 ∧ (∀ j t : Nat, j < i → (ordN ms.length)[j]? = some t → ¬ Apart d ms t)) ∨
  (e = .returned (.tuple #[.int .i64 0, .int .i64 0, .int .i64 11]) ∧ ∀ t, t < 2 ^ ms.length → ¬ Apart d ms t)

set_option maxHeartbeats 2000000 in
theorem holds12_run (P : Nat → Prop) (ms : List Mem) (v : Value) (w : World) (hl : ms.length ≤ 10) (h : MemsAt P 2 w v ms) (hok : MemsOk ms.length ms) :
    Calls Try.prog 20 #[.agg #[v]] w fun e w' => HoldsOk 2 ms e ∧ Below w.heap.size w w' := by
  obtain ⟨A, c, rfl⟩ := h.slice
  have hb1 : Below w.heap.size w (w.alloc (.cells #[.slice A ms.length c] 24)) := balloc (bref w) _
  have k0 : (w.alloc (.cells #[.slice A ms.length c] 24)).heap[w.heap.size]? = some (.cells #[.slice A ms.length c] 24 (0, 0)) := alloc_at rfl
  have H := Lib.hid (h.below hb1)
  have HB := Lib.hid hb1
  have K0 := Lib.hid k0
  clear h hb1 k0
  go_enter Try.func20, Try.ntmps20
  go_upto_region 1 with fail
  generalize w.alloc (.cells #[.slice A ms.length c] 24) = W1 at *
  generalize hg : w.heap.size = g at *
  have HG := Lib.hid hg
  clear hg
  have c0 : W1.cell? ⟨g, 0, none⟩ = some (.slice A ms.length c) := cell_of_row _ _ 0 _ _ (0, 0) K0.out
  have HBw := Lib.hid (show Below w.heap.size w W1 by rw [HG.out]; exact HB.out)
  go_wp2_with fail
  refine (cvalid_run P ms _ _ hl H.out hok).mono ?_
  rintro e W2 ⟨rfl, hb2⟩
  have c2 := (hb2.cell (cell_lt c0)).trans c0
  have HB2 := Lib.hid (bstep HBw.out hb2)
  have H2 := Lib.hid (H.out.below hb2)
  clear hb2 c0
  go_wp2_with fail
  refine (pair_run P 2 ms _ _ hl H2.out).mono ?_
  rintro e W3 ⟨hp, hb3⟩
  have HB3 := Lib.hid (bstep HB2.out hb3)
  clear hb3 c2
  rcases hp with ⟨i, a, b, rfl, hi, hA, _, _, _⟩ | ⟨rfl, hno⟩
  · have HA := Lib.hid (show ∃ t, t < 2 ^ ms.length ∧ Apart 2 ms t from ⟨a, ord_lt _ hl _ (List.mem_of_getElem? hi), hA⟩)
    clear hi hA
    go_wp2_with fail
    go_ret2
    exact ⟨Or.inr ⟨rfl, HA.out⟩, HB3.out⟩
  · have HN := Lib.hid hno
    clear hno
    go_wp2_with fail
    go_ret2
    exact ⟨Or.inl ⟨rfl, HN.out⟩, HB3.out⟩

end Go.Proofs.Ytobdnepmjcbjeaa

namespace Go.Proofs.Ytobdnepmjcbjeaa
set_option linter.unusedVariables false
open Go.RowKit

set_option maxRecDepth 100000 in
set_option maxHeartbeats 4000000 in
theorem copy_one : ∀ (d : Nat), OneC 55 d (fun _ => True) (fun T => T)
  | 0 => fun P T x0 x1 x2 w h _ => h.elim
  | d + 1 => by
    have ih := copy_one d
    intro P T x0 x1 x2 w h hW
    obtain ⟨thr, ns, is⟩ := T
    obtain ⟨A, c, B, c', rfl, rfl, rfl, hn, hi, hbx⟩ := h.boxed
    obtain ⟨_, _, _, hN, hL⟩ := h.parts
    have HIH := Lib.hid ih
    have hb2 := balloc (balloc (bref w) (.cells #[.int .i64 thr, .slice A ns.length c, .slice B is.length c'] 37)) (.cells #[.int .i64 0, .slice none 0 0, .slice none 0 0] 37)
    have hS0 : CopyS w w.heap.size (w.heap.size + 1) thr (.slice A ns.length c) (.slice B is.length c') d ns is ((w.alloc (.cells #[.int .i64 thr, .slice A ns.length c, .slice B is.length c'] 37)).alloc (.cells #[.int .i64 0, .slice none 0 0, .slice none 0 0] 37)) := by
      refine ⟨⟨0, .slice none 0 0, .slice none 0 0, ?_⟩, (hN.both (fun _ _ _ => rfl) (fun k hk _ => hk)).below hb2, (hL.both (fun _ _ _ => rfl) (fun k hk _ => hk)).below hb2, ?_, hb2⟩
      · have := heap_alloc_new (w.alloc (.cells #[.int .i64 thr, .slice A ns.length c, .slice B is.length c'] 37)) (.cells #[.int .i64 0, .slice none 0 0, .slice none 0 0] 37)
        show _ = _
        simpa using this
      · exact (Below.heap_alloc _ _ _ hbx.lt).trans hbx.heap
    have HS0 := Lib.hid hS0
    clear h hbx ih hN hL hW hb2 hS0
    go_enter Try.func55, Try.ntmps55
    go_upto_region 1 with fail
    generalize (w.alloc (.cells #[.int .i64 thr, .slice A ns.length c, .slice B is.length c'] 37)).alloc (.cells #[.int .i64 0, .slice none 0 0, .slice none 0 0] 37) = W1 at *
    generalize hgg : w.heap.size = g at *
    have HGG := Lib.hid hgg
    clear hgg
    have hr1 : g + 1 < W1.heap.size := by
      obtain ⟨⟨y, u1, u2, h1⟩, _⟩ := HS0.out
      exact h1.lt
    have hS6 := Lib.hid (show W1.drew.cell? ⟨g, 0, none⟩ = some (.int .i64 thr) ∧ W1.drew.cell? ⟨g, 1, none⟩ = some (.slice A ns.length c) ∧ W1.drew.cell? ⟨g, 2, none⟩ = some (.slice B is.length c') ∧ CopyS w g (g + 1) thr (.slice A ns.length c) (.slice B is.length c') d ns is W1.drew from ⟨HS0.out.2.2.2.1.cs.1, HS0.out.2.2.2.1.cs.2.1, HS0.out.2.2.2.1.cs.2.2, copyS_drew HS0.out⟩)
    go_region_held3 (fun W => W.cell? ⟨g, 0, none⟩ = some (.int .i64 thr) ∧ W.cell? ⟨g, 1, none⟩ = some (.slice A ns.length c) ∧ W.cell? ⟨g, 2, none⟩ = some (.slice B is.length c') ∧ CopyS w g (g + 1) thr (.slice A ns.length c) (.slice B is.length c') d ns is W) (first | exact hS6.out | exact copyB (by assumption) hbK | exact copySet (by assumption) (by omega) (by rw [HGG.out]; omega) _ _ _ | go_keep)
      (first
        | (go_at_call 73; refine (flat_run _ _ ns _ hn (by exact copyN (by assumption))).mono ?_; rintro e WK ⟨vf, rfl, hNf, hbK⟩; obtain ⟨Af, cf, rfl⟩ := hNf.slice; have hSK := copyB (by assumption) hbK; obtain ⟨⟨y', u1', u2', hOK⟩, _⟩ := hSK.2.2.2; obtain ⟨p0, p1, p2⟩ := hOK.cs; have pf0 := hOK.fr 0; have pf1 := hOK.fr 1; have pf2 := hOK.fr 2; have hzf := hOK.lt)
        | (go_at_call 74; refine (listTrust_run d (fun _ => True) (fun T => T) HIH.out _ _ is _ hi (by exact copyL (by assumption)) (fun _ _ => trivial)).mono ?_; rintro e WK ⟨vl, rfl, hLl, hbK⟩; obtain ⟨Al, cl, rfl⟩ := hLl.slice; have hSK := copyB (by assumption) hbK; obtain ⟨⟨y', u1', u2', hOK⟩, _⟩ := hSK.2.2.2; obtain ⟨p0, p1, p2⟩ := hOK.cs; have pf0 := hOK.fr 0; have pf1 := hOK.fr 1; have pf2 := hOK.fr 2))
    have hF : WK.cell? ⟨g, 0, none⟩ = some (.int .i64 thr) ∧ WK.cell? ⟨g, 1, none⟩ = some (.slice A ns.length c) ∧ WK.cell? ⟨g, 2, none⟩ = some (.slice B is.length c') ∧ CopyS w g (g + 1) thr (.slice A ns.length c) (.slice B is.length c') d ns is WK := hSK
    have hbF : Below w.heap.size w WK := hF.2.2.2.2.2.2.2
    have hNF := NodesAt.both (Q := fun b => g ≤ b ∧ b ≠ g + 1) (NodesAt.below hNf hbK) (fun _ _ _ => rfl) (fun k hk hP => by have : W1.heap.size ≤ k := hP; omega)
    have hLF := ListT.both (Q := fun b => g ≤ b ∧ b ≠ g + 1) hLl (fun _ _ _ => rfl) (fun k hk hP => by omega)
    have far : ∀ q, q ≠ g + 1 → (((WK.setCell ⟨g + 1, 0, none⟩ (.int .i64 thr)).setCell ⟨g + 1, 1, none⟩ (.slice Af ns.length cf)).setCell ⟨g + 1, 2, none⟩ (.slice Al is.length cl)).heap[q]? = WK.heap[q]? := fun q hq =>
      (Below.heap_setCell _ _ _ _ (by simpa using hq)).trans ((Below.heap_setCell _ _ _ _ (by simpa using hq)).trans (Below.heap_setCell _ _ _ _ (by simpa using hq)))
    have hNF2 := NodesAt.both (Q := fun b => g ≤ b) hNF (fun k _ hk => far k hk.2) (fun k _ hk => hk.1)
    have hLF2 := ListT.both (Q := fun b => g ≤ b) hLF (fun k _ hk => far k hk.2) (fun k _ hk => hk.1)
    have hbF2 := bset (bset (bset hbF (p := ⟨g + 1, 0, none⟩) (by rw [HGG.out]; simp) (.int .i64 thr)) (p := ⟨g + 1, 1, none⟩) (by rw [HGG.out]; simp) (.slice Af ns.length cf)) (p := ⟨g + 1, 2, none⟩) (by rw [HGG.out]; simp) (.slice Al is.length cl)
    have HOK := Lib.hid hOK
    have HNF2 := Lib.hid hNF2
    have HLF2 := Lib.hid hLF2
    have HBF2 := Lib.hid hbF2
    clear hNF hLF far hNF2 hLF2 hbF2 hF hSK hbF
    go_wp2_with fail
    refine bodyPost_ret (v := .agg #[.int .i64 thr, .slice Af ns.length cf, .slice Al is.length cl]) ?_ rfl ⟨_, _, _, rfl, ?_, HBF2.out⟩
    · simp [results, Try.results55, go_sem, p0, p1, p2]
    · rw [HGG.out]
      have h := TAt.of_parts (thr := thr) hn (by simpa using hi) HNF2.out HLF2.out
      simpa using h

end Go.Proofs.Ytobdnepmjcbjeaa

namespace Go.Proofs.Ytobdnepmjcbjeaa
set_option linter.unusedVariables false
set_option linter.unusedSimpArgs false
open Go.RowKit

theorem and_self_sub {a b : Nat} : a &&& b = a ↔ Sub a b := by
  constructor
  · intro h k hk
    rw [← h, Nat.testBit_and, Bool.and_eq_true] at hk
    exact hk.2
  · intro h
    apply Nat.eq_of_testBit_eq
    intro k
    rw [Nat.testBit_and]
    cases hb : a.testBit k
    · rfl
    · rw [h k hb]; rfl

end Go.Proofs.Ytobdnepmjcbjeaa

namespace Go.Proofs.Ytobdnepmjcbjeaa
set_option linter.unusedVariables false
set_option linter.unusedSimpArgs false
open Go.RowKit

theorem rsub64 (r k : Nat) (hr : r < 1024) (hk : k < 10) (hb : r.testBit k = true) : wrap64 ((r : Int) - wrap64 (2 ^ k)) = ((r - 2 ^ k : Nat) : Int) := by
  have all : ∀ r : Fin 1024, ∀ k : Fin 10, r.val.testBit k.val = true → wrap64 ((r.val : Int) - wrap64 (2 ^ k.val)) = ((r.val - 2 ^ k.val : Nat) : Int) := by decide +kernel
  exact all ⟨r, hr⟩ ⟨k, hk⟩ hb

def elimM (a : Value) (r : Int) : Nat := match a with
  | .bool true => r.toNat + 1
  | _ => 0

end Go.Proofs.Ytobdnepmjcbjeaa

namespace Go.Proofs.Ytobdnepmjcbjeaa
set_option linter.unusedVariables false
set_option linter.unusedSimpArgs false
open Go.RowKit

def popk (s k : Nat) : Nat := (List.range k).countP (fun i => s.testBit i)

theorem popk_succ (s k : Nat) : popk s (k + 1) = popk s k + (s / 2 ^ k) % 2 := by
  unfold popk
  rw [List.range_succ, List.countP_append, List.countP_singleton, Nat.testBit_eq_decide_div_mod_eq]
  congr 1
  rcases Nat.mod_two_eq_zero_or_one (s / 2 ^ k) with h | h <;> simp [h]

theorem popk_le (s k : Nat) : popk s k ≤ k := by unfold popk; exact Nat.le_trans List.countP_le_length (by simp)

theorem popc_mono {a b : Nat} (h : Sub a b) : popc a ≤ popc b := by
  unfold popc
  exact List.countP_mono_left (fun i _ hi => h i hi)

theorem add_bit (s r k : Nat) (hs : s < 1024) (hr : r ≤ 10) : wrap64 ((r : Int) + bits .and .i64 ((s : Int) / 2 ^ k) 1) = ((r + (s / 2 ^ k) % 2 : Nat) : Int) := by
  have e : ((s : Int) / 2 ^ k) = ((s / 2 ^ k : Nat) : Int) := by
    rw [Int.natCast_ediv, Int.natCast_pow]; rfl
  have hq := Nat.div_le_self s (2 ^ k)
  have h1 := i64_and_nat (s / 2 ^ k) 1 (by omega) (by omega)
  rw [e, show (1 : Int) = ((1 : Nat) : Int) from rfl, h1, Nat.and_one_is_mod]
  unfold wrap64
  omega

set_option maxHeartbeats 2000000 in
theorem rsetSize_run (s : Nat) (hs : s < 1024) (w : World) : Calls Try.prog 8 #[.int .i64 (s : Int)] w fun e w' => e = .returned (.int .i64 (popc s : Nat)) ∧ w = w' := by
  have hsv := Lib.hid (show setB (s : Int) = true from setB_iff.2 ⟨by omega, by omega⟩)
  go_enter Try.func8, Try.ntmps8
  go_wp2_with fail
  go_loop [3, 4] (fun v t => ∃ k : Nat, k ≤ 10 ∧ v = .int .i64 (popk s k : Nat) ∧ t = .int .i64 k) (fun _ t => 10 - (intOf t).toNat)
  case atStart => exact ⟨0, by omega, rfl, rfl⟩
  case round =>
    obtain ⟨k, hk, rfl, rfl⟩ := hrel
    by_cases hlt : k < 10
    · have HA := Lib.hid (add_bit s (popk s k) k hs (Nat.le_trans (popk_le s k) hk))
      rw [← popk_succ] at HA
      go_wp2_with fail
      refine (rsetValid_run _ _).mono ?_
      rintro e w2 ⟨rfl, rfl⟩
      rw [hsv.out]
      go_wp2_with fail
      rw [HA.out]
      go_round
      case rel => exact ⟨k + 1, by omega, rfl, by go_num⟩
      case measure => simp [intOf]; omega
    · obtain rfl : k = 10 := by omega
      go_wp2_with fail
      go_ret
      exact ⟨rfl, rfl⟩

/-- The subsets of s among the sets before x of size n. -/
def SubL (s n x : Nat) (l : List Int) : Prop := l.length ≤ 1024 * n + x ∧ ∀ t : Int, t ∈ l ↔ ∃ q : Nat, t = (q : Int) ∧ Sub q s ∧ q ≤ s ∧ (popc q < n ∨ (popc q = n ∧ q < x))

theorem SubL.nil (s : Nat) : SubL s 0 0 [] := ⟨by simp, fun t => by
  constructor
  · intro h; cases h
  · rintro ⟨q, _, _, _, h | ⟨_, h⟩⟩ <;> omega⟩

theorem SubL.turn {s n : Nat} {l : List Int} (hs : s < 1024) (h : SubL s n (s + 1) l) : SubL s (n + 1) 0 l := ⟨by have := h.1; omega, fun t => by
  rw [h.2 t]
  constructor
  · rintro ⟨q, e, hq, hle, h⟩; exact ⟨q, e, hq, hle, by omega⟩
  · rintro ⟨q, e, hq, hle, h⟩; exact ⟨q, e, hq, hle, by omega⟩⟩

theorem SubL.skip {s n x : Nat} {l : List Int} (h : SubL s n x l) (hn : ¬ (Sub x s ∧ popc x = n)) : SubL s n (x + 1) l := ⟨by have := h.1; omega, fun t => by
  rw [h.2 t]
  constructor
  · rintro ⟨q, e, hq, hle, h⟩; exact ⟨q, e, hq, hle, by omega⟩
  · rintro ⟨q, e, hq, hle, h⟩
    refine ⟨q, e, hq, hle, ?_⟩
    rcases h with h | ⟨h1, h2⟩
    · exact .inl h
    · by_cases hx : q = x
      · subst hx; exact (hn ⟨hq, h1⟩).elim
      · exact .inr ⟨h1, by omega⟩⟩

theorem SubL.take {s n x : Nat} {l : List Int} (h : SubL s n x l) (hx : x ≤ s) (h1 : Sub x s) (h2 : popc x = n) : SubL s n (x + 1) (l ++ [(x : Int)]) := ⟨by have := h.1; simp; omega, fun t => by
  rw [List.mem_append, h.2 t, List.mem_singleton]
  constructor
  · rintro (⟨q, e, hq, hle, h⟩ | rfl)
    · exact ⟨q, e, hq, hle, by omega⟩
    · exact ⟨x, rfl, h1, hx, .inr ⟨h2, by omega⟩⟩
  · rintro ⟨q, e, hq, hle, h⟩
    by_cases hqx : q = x ∧ popc q = n
    · right; rw [e, hqx.1]
    · left; exact ⟨q, e, hq, hle, by omega⟩⟩

theorem SubL.full {s : Nat} {l : List Int} (h : SubL s (popc s + 1) 0 l) : ∀ t : Int, t ∈ l ↔ ∃ q : Nat, t = (q : Int) ∧ Sub q s := fun t => by
  rw [h.2 t]
  constructor
  · rintro ⟨q, e, hq, _, _⟩; exact ⟨q, e, hq⟩
  · rintro ⟨q, e, hq⟩
    refine ⟨q, e, hq, ?_, .inl ?_⟩
    · rw [← and_self_sub.2 hq]; exact Nat.and_le_right
    · have := popc_mono hq; omega

end Go.Proofs.Ytobdnepmjcbjeaa

namespace Go.Proofs.Ytobdnepmjcbjeaa
set_option linter.unusedVariables false
set_option linter.unusedSimpArgs false
open Go.RowKit

theorem outS_sub (n s : Nat) (hn : n ≤ 10) (hs : s ≤ 2 ^ n - 1) : IntKind.i64.wrap (((2 ^ n - 1 : Nat) : Int) - (s : Int)) = ((outS n s : Nat) : Int) := by
  have all : ∀ n : Fin 11, ∀ s : Fin 1024, s.val ≤ 2 ^ n.val - 1 → 2 ^ n.val - 1 - s.val = outS n.val s.val := by decide +kernel
  have hp2 : 2 ^ n ≤ 2 ^ 10 := Nat.pow_le_pow_right (by omega) hn
  have e : 2 ^ n - 1 - s = outS n s := all ⟨n, by omega⟩ ⟨s, by omega⟩ hs
  rw [← e]
  exact (IntWalk.i64_in _ (by omega)).trans (by omega)

theorem sub_ones {n s : Nat} (hn : n ≤ 10) : Sub s (2 ^ n - 1) → s ≤ 2 ^ n - 1 := fun h => by
  rw [← and_self_sub.2 h]; exact Nat.and_le_right

theorem sub_all {n s : Nat} (h : ∀ k, s.testBit k = true → k < n) : Sub s (2 ^ n - 1) := fun k hk => by
  rw [Nat.testBit_two_pow_sub_one, decide_eq_true (h k hk)]

/-- What the reference's apart returns. -/
def RApart (d : Nat) (ms : List Mem) (e : Ending) : Prop := (∃ a b : Nat, e = .returned (.tuple #[.int .i64 (a : Int), .int .i64 (b : Int)]) ∧ Apart d ms a) ∨
  (e = .returned (.tuple #[.int .i64 0, .int .i64 0]) ∧ ∀ t, ¬ Apart d ms t)

end Go.Proofs.Ytobdnepmjcbjeaa

namespace Go.Proofs.Ytobdnepmjcbjeaa
set_option linter.unusedVariables false
set_option linter.unusedSimpArgs false
open Go.RowKit

theorem pow11' (L : Nat) (hL : L ≤ 11) : IntKind.i64.wrap (2 ^ L) = ((2 ^ L : Nat) : Int) := by
  have all : ∀ L : Fin 12, IntKind.i64.wrap (2 ^ L.val) = ((2 ^ L.val : Nat) : Int) := by decide +kernel
  exact all ⟨L, by omega⟩

theorem ltpow_of_bits (U n : Nat) (h : ∀ k, U.testBit k = true → k < n) : U < 2 ^ n := Nat.lt_pow_two_of_testBit U (fun i hi => by
  cases hb : U.testBit i
  · rfl
  · have := h i hb; omega)

theorem stKeep {W1 W W' : World} {g b off m c r n1 c1 n2 c2 : Nat} {t : Int} {A1 A2 : Option Addr} {P : Nat → Prop} {T : Tree} (h : W.cell? ⟨g, 0, none⟩ = some (.slice (some ⟨b, off, none⟩) m c) ∧ W.cell? ⟨r, 1, none⟩ = some (.int .i64 t) ∧ W.cell? ⟨r, 2, none⟩ = some (.slice A1 n1 c1) ∧ W.cell? ⟨r, 3, none⟩ = some (.slice A2 n2 c2) ∧ TAt P 2 W (.int .i64 t) (.slice A1 n1 c1) (.slice A2 n2 c2) T ∧ Below W1.heap.size W1 W) (hb : Below W.heap.size W W') : W'.cell? ⟨g, 0, none⟩ = some (.slice (some ⟨b, off, none⟩) m c) ∧ W'.cell? ⟨r, 1, none⟩ = some (.int .i64 t) ∧ W'.cell? ⟨r, 2, none⟩ = some (.slice A1 n1 c1) ∧ W'.cell? ⟨r, 3, none⟩ = some (.slice A2 n2 c2) ∧ TAt P 2 W' (.int .i64 t) (.slice A1 n1 c1) (.slice A2 n2 c2) T ∧ Below W1.heap.size W1 W' :=
  ⟨(hb.cell (cell_lt h.1)).trans h.1, (hb.cell (cell_lt h.2.1)).trans h.2.1, (hb.cell (cell_lt h.2.2.1)).trans h.2.2.1, (hb.cell (cell_lt h.2.2.2.1)).trans h.2.2.2.1, h.2.2.2.2.1.below hb, bstep h.2.2.2.2.2 hb⟩

theorem stT {W1 W : World} {g b off m c r n1 c1 n2 c2 : Nat} {t : Int} {A1 A2 : Option Addr} {P : Nat → Prop} {T : Tree} (h : W.cell? ⟨g, 0, none⟩ = some (.slice (some ⟨b, off, none⟩) m c) ∧ W.cell? ⟨r, 1, none⟩ = some (.int .i64 t) ∧ W.cell? ⟨r, 2, none⟩ = some (.slice A1 n1 c1) ∧ W.cell? ⟨r, 3, none⟩ = some (.slice A2 n2 c2) ∧ TAt P 2 W (.int .i64 t) (.slice A1 n1 c1) (.slice A2 n2 c2) T ∧ Below W1.heap.size W1 W) : TAt P 2 W (.int .i64 t) (.slice A1 n1 c1) (.slice A2 n2 c2) T := h.2.2.2.2.1

/-- What the reference's Holds returns. -/
def RHolds (ms : List Mem) (e : Ending) : Prop := ∃ b : Bool, e = .returned (.tuple #[.bool b, .int .i64 0]) ∧ (b = true ↔ ∀ t, ¬ Apart 2 ms t)

end Go.Proofs.Ytobdnepmjcbjeaa

namespace Go.Proofs.Ytobdnepmjcbjeaa
set_option linter.unusedVariables false
set_option linter.unusedSimpArgs false
open Go.RowKit

/-- A set without a node. -/
def offS (s k : Nat) : Nat := s ^^^ (s &&& 2 ^ k)

theorem offS_bit (s k j : Nat) : (offS s k).testBit j = (s.testBit j && j != k) := by
  unfold offS
  rw [Nat.testBit_xor, Nat.testBit_and, Nat.testBit_two_pow]
  by_cases h : k = j
  · subst h; cases s.testBit k <;> simp
  · have h1 : j ≠ k := fun e => h e.symm
    have h2 : (j != k) = true := by simpa using h1
    rw [h2, decide_eq_false h]
    cases s.testBit j <;> rfl

theorem lt_of_bits {a b n : Nat} (h : ∀ k, a.testBit k = true → b.testBit k = true) (hb : b < n) : a < n := by
  have e : a &&& b = a := by
    apply Nat.eq_of_testBit_eq
    intro k
    rw [Nat.testBit_and]
    cases ha : a.testBit k
    · rfl
    · rw [h k ha]; rfl
  rw [← e]
  exact Nat.lt_of_le_of_lt Nat.and_le_right hb

theorem offS_lt {s k n : Nat} (h : s < n) : offS s k < n := lt_of_bits (fun j hj => by rw [offS_bit, Bool.and_eq_true] at hj; exact hj.1) h

theorem off_fact (s k : Nat) (hs : s < 1024) (hk : k < 10) : bits .andNot .i64 (s : Int) (wrap64 (2 ^ k)) = ((offS s k : Nat) : Int) := by
  have all : ∀ s : Fin 1024, ∀ k : Fin 10, bits .andNot .i64 (s.val : Int) (wrap64 (2 ^ k.val)) = ((offS s.val k.val : Nat) : Int) := by decide +kernel
  exact all ⟨s, hs⟩ ⟨k, hk⟩

theorem off_fact' (s k : Nat) (hs : s < 1024) (hk : k < 10) : bits .andNot .i64 (s : Int) (IntKind.i64.wrap (2 ^ k)) = ((offS s k : Nat) : Int) := by
  have all : ∀ s : Fin 1024, ∀ k : Fin 10, bits .andNot .i64 (s.val : Int) (IntKind.i64.wrap (2 ^ k.val)) = ((offS s.val k.val : Nat) : Int) := by decide +kernel
  exact all ⟨s, hs⟩ ⟨k, hk⟩

/-- Does s block member k? -/
def blkM (d : Nat) (ms : List Mem) (s k : Nat) : Bool := (declS ms ms.length).testBit k && blkB d (trOf ms k) ((offS s k : Nat) : Int)

theorem hasB_compl {n : Nat} (hn : n < 1024) (x : Int) : hasB (1023 - (n : Int)) x = (nodeB x && !n.testBit x.toNat) := by
  have h1 : setB (1023 - (n : Int)) = true := setB_iff.2 ⟨by omega, by omega⟩
  have e : (1023 - (n : Int)).toNat = 2 ^ 10 - (n + 1) := by omega
  unfold hasB
  rw [h1, e, Bool.true_and, Nat.testBit_two_pow_sub_succ (by omega)]
  cases hx : nodeB x
  · rfl
  · obtain ⟨h0, h2⟩ := nodeB_iff.1 hx
    have h3 : decide (x.toNat < 10) = true := decide_eq_true (by omega)
    rw [h3]; rfl

theorem blkB_sub {d : Nat} {T : Tree} {a b : Nat} (hb : b < 1024) (h : Sub a b) (h1 : blkB d T (a : Int) = true) : blkB d T (b : Int) = true := by
  have ha : a < 1024 := lt_of_bits h hb
  unfold blkB at h1 ⊢
  rw [Bool.and_eq_true] at h1 ⊢
  refine ⟨setB_iff.2 ⟨by omega, by omega⟩, ?_⟩
  have h2 := h1.2
  cases hx : holdsT d (hasB (1023 - (b : Int))) T
  · rfl
  · rw [holdsT_monoA (p := hasB (1023 - (b : Int))) (q := hasB (1023 - (a : Int))) (fun x hx => ?_) d T hx] at h2
    · cases h2
    · rw [hasB_compl hb, Bool.and_eq_true] at hx
      rw [hasB_compl ha, Bool.and_eq_true]
      refine ⟨hx.1, ?_⟩
      cases ht : a.testBit x.toNat
      · rfl
      · rw [h _ ht] at hx; simp at hx

theorem blkM_sub {d : Nat} {ms : List Mem} {a b k : Nat} (hb : b < 1024) (h : Sub a b) (h1 : blkM d ms a k = true) : blkM d ms b k = true := by
  unfold blkM at h1 ⊢
  rw [Bool.and_eq_true] at h1 ⊢
  refine ⟨h1.1, blkB_sub (offS_lt hb) (fun j hj => ?_) h1.2⟩
  rw [offS_bit, Bool.and_eq_true] at hj ⊢
  exact ⟨h j hj.1, hj.2⟩

/-- Is k in a closed set in S? -/
noncomputable def rdyB (d : Nat) (ms : List Mem) (S k : Nat) : Bool := @decide (∃ Q, Q < 1024 ∧ Sub Q S ∧ Closed d ms Q ∧ Q.testBit k = true) (Classical.propDecidable _)

theorem rdyB_iff {d : Nat} {ms : List Mem} {S k : Nat} : rdyB d ms S k = true ↔ ∃ Q, Q < 1024 ∧ Sub Q S ∧ Closed d ms Q ∧ Q.testBit k = true := by unfold rdyB; exact @decide_eq_true_iff _ (Classical.propDecidable _)

theorem rdyB_gr {d : Nat} {ms : List Mem} {S G k : Nat} (hG : G < 1024) (h : IsGr d ms S G) : rdyB d ms S k = G.testBit k := by
  rw [Bool.eq_iff_iff, rdyB_iff]
  exact ⟨fun ⟨Q, h1, h2, h3, h4⟩ => h.most Q h1 h2 h3 k h4, fun h1 => ⟨G, hG, h.sub, h.closed, h1⟩⟩

theorem rdyB_sub {d : Nat} {ms : List Mem} {S S' k : Nat} (h : Sub S S') (h1 : rdyB d ms S k = true) : rdyB d ms S' k = true := by
  obtain ⟨Q, h2, h3, h4, h5⟩ := rdyB_iff.1 h1
  exact rdyB_iff.2 ⟨Q, h2, fun j hj => h j (h3 j hj), h4, h5⟩

/-- May k accept, by votes and acceptances? -/
noncomputable def accB (d : Nat) (ms : List Mem) (k a b : Nat) : Bool := blkM d ms b k || rdyB d ms ((a ||| b) &&& declS ms ms.length) k

noncomputable def cnfB (d : Nat) (ms : List Mem) (k b : Nat) : Bool := rdyB d ms (b &&& declS ms ms.length) k

theorem sub_and_and {a b D : Nat} (h : Sub a b) : Sub (a &&& D) (b &&& D) := fun k hk => by
  rw [Nat.testBit_and, Bool.and_eq_true] at hk ⊢
  exact ⟨h k hk.1, hk.2⟩

theorem accB_sub {d : Nat} {ms : List Mem} {k a b x y : Nat} (hy : y < 1024) (h1 : Sub a x) (h2 : Sub b y) (h : accB d ms k a b = true) : accB d ms k x y = true := by
  unfold accB at h ⊢
  rw [Bool.or_eq_true] at h ⊢
  rcases h with h | h
  · exact .inl (blkM_sub hy h2 h)
  · refine .inr (rdyB_sub (sub_and_and (fun j hj => ?_)) h)
    rw [Nat.testBit_or, Bool.or_eq_true] at hj ⊢
    exact hj.elim (fun h => .inl (h1 j h)) (fun h => .inr (h2 j h))

theorem cnfB_sub {d : Nat} {ms : List Mem} {k b y : Nat} (h : Sub b y) (h1 : cnfB d ms k b = true) : cnfB d ms k y = true := rdyB_sub (sub_and_and h) h1

theorem cnf_acc1 {d : Nat} {ms : List Mem} {k b : Nat} (h1 : cnfB d ms k b = true) : accB d ms k 0 b = true := by
  unfold accB
  rw [Bool.or_eq_true, Nat.zero_or]
  exact .inr h1

theorem cnf_acc2 {d : Nat} {ms : List Mem} {k b : Nat} (h1 : cnfB d ms k b = true) : accB d ms k b 0 = true := by
  unfold accB
  rw [Bool.or_eq_true, Nat.or_zero]
  exact .inr h1

theorem sub_orL {a b : Nat} : Sub a (a ||| b) := fun k hk => by rw [Nat.testBit_or, hk]; rfl

end Go.Proofs.Ytobdnepmjcbjeaa

namespace Go.Proofs.Ytobdnepmjcbjeaa
set_option linter.unusedVariables false
set_option linter.unusedSimpArgs false
open Go.RowKit

def thrOf : Tree → Int | .mk t _ _ => t

def deadT (T : Tree) : Bool := decide (thrOf T ≤ 0)

/-- A trust without the nodes of a set. -/
def lessT (s : Nat) : Nat → Tree → Tree
  | 0, T => T
  | d + 1, .mk thr ns is => .mk ((thr.toNat - cnt (hasB (s : Int)) ns - cnt deadT (is.map (lessT s d)) : Nat) : Int) (ns.filter (fun k => !hasB (s : Int) k)) ((is.map (lessT s d)).filter (fun T => !deadT T))

/-- A trust after the deletion of a set at a node. -/
def delT (s k d : Nat) (T : Tree) : Tree := if deadT (lessT s d T) then .mk 1 [(k : Int)] [] else lessT s d T

def delOne (s k : Nat) (m : Mem) : Mem := if hasB (s : Int) (k : Int) then (false, .mk 0 [] []) else if m.1 then (true, delT s k 2 m.2) else m

def delM (s : Nat) (ms : List Mem) : List Mem := ms.mapIdx (fun k m => delOne s k m)

theorem delM_len (s : Nat) (ms : List Mem) : (delM s ms).length = ms.length := by unfold delM; simp

theorem delM_get {s : Nat} {ms : List Mem} {k : Nat} {m : Mem} (h : ms[k]? = some m) : (delM s ms)[k]? = some (delOne s k m) := by
  unfold delM
  rw [List.getElem?_mapIdx, h]; rfl

theorem cnt_split {α β : Type} (P : α → Bool) (f : α → β) (dead good : β → Bool) : ∀ (l : List α), (∀ x ∈ l, P x = true → dead (f x) = true ∨ good (f x) = true) → cnt P l ≤ cnt dead (l.map f) + cnt good ((l.map f).filter (fun y => !dead y))
  | [], _ => by simp [cnt]
  | x :: l, h => by
    have ih := cnt_split P f dead good l (fun y hy => h y (List.mem_cons_of_mem _ hy))
    have h1 := h x List.mem_cons_self
    unfold cnt at *
    rw [List.map_cons, List.filter_cons, List.filter_cons, List.filter_cons]
    cases hd : dead (f x)
    · cases hp : P x
      · simp
        cases hg : good (f x) <;> simp [List.filter_cons, hg] <;> simp at ih <;> omega
      · have hg : good (f x) = true := by
          rcases h1 hp with h2 | h2
          · rw [hd] at h2; cases h2
          · exact h2
        simp [List.filter_cons, hg]
        simp at ih
        omega
    · cases hp : P x
      · simp; simp at ih; omega
      · simp; simp at ih; omega

theorem cnt_two {α : Type} (p : α → Bool) (l : List α) : cnt p l + (l.filter (fun x => !p x)).length = l.length := by
  induction l with
  | nil => rfl
  | cons x l ih =>
    unfold cnt at *
    rw [List.filter_cons, List.filter_cons]
    cases hp : p x
    · simp; omega
    · simp; omega

theorem less_holds {n : Int} {s : Nat} {p q : Int → Bool} (h : ∀ x, p x = true → hasB (s : Int) x = false → q x = true) : ∀ (d : Nat) (T : Tree), WF n d T → holdsT d p T = true → deadT (lessT s d T) = true ∨ holdsT d q (lessT s d T) = true
  | 0, T, w, _ => w.elim
  | d + 1, .mk thr ns is, w, hh => by
    obtain ⟨h1, _, _, _, _, _, hi⟩ := w
    have hh : thr ≤ ((cnt p ns + cnt (holdsT d p) is : Nat) : Int) := of_decide_eq_true hh
    have e1 := cnt_split p id (hasB (s : Int)) q ns (fun x _ hp => by
      cases hb : hasB (s : Int) x
      · exact .inr (h x hp hb)
      · exact .inl hb)
    have e2 := cnt_split (holdsT d p) (lessT s d) deadT (holdsT d q) is (fun T hT hp => less_holds h d T (hi T hT) hp)
    rw [List.map_id] at e1
    show decide ((((thr.toNat - cnt (hasB (s : Int)) ns - cnt deadT (is.map (lessT s d)) : Nat)) : Int) ≤ 0) = true ∨ decide ((((thr.toNat - cnt (hasB (s : Int)) ns - cnt deadT (is.map (lessT s d)) : Nat)) : Int) ≤ ((cnt q (ns.filter (fun k => !hasB (s : Int) k)) + cnt (holdsT d q) ((is.map (lessT s d)).filter (fun T => !deadT T)) : Nat) : Int)) = true
    right
    refine decide_eq_true ?_
    omega

theorem less_wf {n : Int} {s : Nat} : ∀ (d : Nat) (T : Tree), WF n d T → deadT (lessT s d T) = false → WF n d (lessT s d T)
  | 0, T, w, _ => w.elim
  | d + 1, .mk thr ns is, w, hd => by
    obtain ⟨h1, h2, h3, h4, h5, h6, hi⟩ := w
    have hd : ¬ (((thr.toNat - cnt (hasB (s : Int)) ns - cnt deadT (is.map (lessT s d)) : Nat)) : Int) ≤ 0 := of_decide_eq_false hd
    have e1 := cnt_two (hasB (s : Int)) ns
    have e2 := cnt_two deadT (is.map (lessT s d))
    rw [List.length_map] at e2
    refine ⟨by omega, by omega, Nat.le_trans (List.length_filter_le _ _) h3, by omega, fun x hx => h5 x (List.mem_filter.1 hx).1, h6.filter _, fun T hT => ?_⟩
    obtain ⟨hm, hdt⟩ := List.mem_filter.1 hT
    obtain ⟨T0, h0, rfl⟩ := List.mem_map.1 hm
    exact less_wf d T0 (hi T0 h0) (by simpa using hdt)

theorem delT_wf {n : Int} {s k d : Nat} {T : Tree} (hk : (k : Int) < n) (h : WF n (d + 1) T) : WF n (d + 1) (delT s k (d + 1) T) := by
  unfold delT
  cases hd : deadT (lessT s (d + 1) T)
  · exact less_wf _ _ h hd
  · exact (Fine.single (D := d) (n := n) (r := (k : Int)) (by omega) hk).1

theorem delM_ok {s : Nat} {ms : List Mem} (h : MemsOk ms.length ms) : MemsOk (delM s ms).length (delM s ms) := by
  intro x hx
  obtain ⟨k, hk, he⟩ := List.getElem_of_mem hx
  rw [delM_len] at hk ⊢
  have hm : ms[k]? = some ms[k] := List.getElem?_eq_getElem hk
  have h1 := delM_get (s := s) hm
  rw [List.getElem?_eq_getElem (by rw [delM_len]; exact hk), he] at h1
  have hx1 : x = delOne s k ms[k] := Option.some.inj h1
  have h0 := h ms[k] (List.getElem_mem hk)
  rw [hx1]
  unfold delOne
  cases hb : hasB (s : Int) (k : Int)
  · simp only [Bool.false_eq_true, if_false]
    cases hd : ms[k].1
    · simp only [Bool.false_eq_true, if_false]; exact h0
    · simp only [if_true]
      exact ⟨fun _ => delT_wf (by omega) (h0.1 hd), fun h => (by cases h)⟩
  · simp only [if_true]
    exact ⟨fun h => (by cases h), fun _ => trivial⟩

theorem declS_iff {ms : List Mem} (k : Nat) : ∀ (n : Nat), (declS ms n).testBit k = (decide (k < n) && (ms.getD k (false, .mk 0 [] [])).1)
  | 0 => by simp [declS]
  | n + 1 => by
    have ih := declS_iff (ms := ms) k n
    unfold declS
    by_cases hkn : k = n
    · subst hkn
      cases hd : (ms.getD k (false, .mk 0 [] [])).1
      · rw [if_neg (by simp), ih]; simp [hd]
      · rw [if_pos rfl, Nat.testBit_or, Nat.testBit_two_pow_self]; simp
    · have e : decide (k < n + 1) = decide (k < n) := by rw [decide_eq_decide]; omega
      rw [e]
      split
      · rw [Nat.testBit_or, ih, Nat.testBit_two_pow_of_ne (by omega)]; simp
      · exact ih

def minS (q s : Nat) : Nat := q ^^^ (q &&& s)

theorem minS_bit (q s k : Nat) : (minS q s).testBit k = (q.testBit k && !s.testBit k) := by
  unfold minS
  rw [Nat.testBit_xor, Nat.testBit_and]
  cases q.testBit k <;> cases s.testBit k <;> rfl

theorem minS_lt {q s : Nat} (h : q < 1024) : minS q s < 1024 := Nat.xor_lt_two_pow (n := 10) h (Nat.lt_of_le_of_lt Nat.and_le_left h)

/-- A closed set of a configuration that differs from another one only in a set is, without it, closed after its deletion. -/
theorem shown_closed {ms xs : List Mem} {s Q : Nat} (hl : ms.length ≤ 10) (hx : xs.length = ms.length) (hs : s < 1024) (hQ : Q < 1024) (hok : MemsOk ms.length ms)
    (hsame : ∀ k, k < ms.length → s.testBit k = false → xs[k]? = ms[k]?) (hsub : Sub Q (declS xs xs.length)) (hc : Closed 2 xs Q) :
    Sub (minS Q s) (declS (delM s ms) (delM s ms).length) ∧ Closed 2 (delM s ms) (minS Q s) := by
  have key : ∀ k, (minS Q s).testBit k = true → k < ms.length ∧ ∃ m, ms[k]? = some m ∧ xs[k]? = some m ∧ m.1 = true ∧ hasB (s : Int) (k : Int) = false ∧ Q.testBit k = true := by
    intro k hk
    rw [minS_bit, Bool.and_eq_true, Bool.not_eq_true'] at hk
    have h1 := hsub k hk.1
    rw [declS_iff, Bool.and_eq_true, decide_eq_true_eq, hx] at h1
    have hm : ms[k]? = some ms[k] := List.getElem?_eq_getElem h1.1
    have hxk := (hsame k h1.1 hk.2).trans hm
    have h2 := h1.2
    rw [List.getD_eq_getElem?_getD, hxk] at h2
    exact ⟨h1.1, ms[k], hm, hxk, h2, by rw [hasB_bit hs (by omega)]; exact hk.2, hk.1⟩
  constructor
  · intro k hk
    obtain ⟨h1, m, hm, _, hd, hb, _⟩ := key k hk
    rw [declS_iff, Bool.and_eq_true, decide_eq_true_eq, delM_len, List.getD_eq_getElem?_getD, delM_get hm]
    refine ⟨h1, ?_⟩
    show (delOne s k m).1 = true
    unfold delOne
    rw [hb, hd]; rfl
  · intro k hk
    rw [delM_len] at hk
    unfold uns
    cases hbk : (minS Q s).testBit k
    · rw [hasB_bit (minS_lt hQ) (by omega), hbk]; rfl
    · obtain ⟨_, m, hm, hxm, hd, hb, hQk⟩ := key k hbk
      have ht : trOf (delM s ms) k = delT s k 2 m.2 := by
        unfold trOf
        rw [List.getD_eq_getElem?_getD, delM_get hm]
        show (delOne s k m).2 = _
        unfold delOne
        rw [hb, hd]; rfl
      have hcx := hc k (by omega)
      unfold uns at hcx
      have htx : trOf xs k = m.2 := by unfold trOf; rw [List.getD_eq_getElem?_getD, hxm]; rfl
      rw [htx, hasB_bit hQ (by omega), hQk, Bool.true_and, Bool.not_eq_false'] at hcx
      rw [ht]
      have hsat : satB 2 (delT s k 2 m.2) ((minS Q s : Nat) : Int) = true := by
        have hv : setB ((minS Q s : Nat) : Int) = true := setB_iff.2 ⟨by omega, by have := minS_lt (s := s) hQ; omega⟩
        unfold satB at hcx ⊢
        rw [Bool.and_eq_true] at hcx ⊢
        refine ⟨hv, ?_⟩
        have hpq : ∀ x : Int, hasB (Q : Int) x = true → hasB (s : Int) x = false → hasB ((minS Q s : Nat) : Int) x = true := by
          intro x hx1 hx2
          have hx1' := hx1
          unfold hasB at hx1
          rw [Bool.and_eq_true, Bool.and_eq_true] at hx1
          obtain ⟨h0, h10⟩ := nodeB_iff.1 hx1.2.1
          obtain ⟨X, rfl⟩ := Int.eq_ofNat_of_zero_le h0
          rw [hasB_bit hQ (by omega)] at hx1'
          rw [hasB_bit hs (by omega)] at hx2
          rw [hasB_bit (minS_lt hQ) (by omega), minS_bit, hx1', hx2]; rfl
        have hw := (hok m (List.mem_of_getElem? hm)).1 hd
        unfold delT
        cases hdd : deadT (lessT s 2 m.2)
        · rw [if_neg (by simp)]
          rcases less_holds hpq 2 m.2 hw hcx.2 with h3 | h3
          · rw [hdd] at h3; cases h3
          · exact h3
        · rw [if_pos rfl]
          refine decide_eq_true ?_
          have hkb : hasB ((minS Q s : Nat) : Int) (k : Int) = true := by rw [hasB_bit (minS_lt hQ) (by omega)]; exact hbk
          have : cnt (hasB ((minS Q s : Nat) : Int)) [(k : Int)] = 1 := by unfold cnt; rw [List.filter_cons, hkb]; rfl
          rw [this]
          simp
          omega
      rw [hsat]; simp

/-- T1. -/
theorem fed_safe {ms xs ys : List Mem} {s v w a b : Nat} (hl : ms.length ≤ 10) (hx : xs.length = ms.length) (hy : ys.length = ms.length) (hs : s < 1024) (hok : MemsOk ms.length ms)
    (hxs : ∀ k, k < ms.length → s.testBit k = false → xs[k]? = ms[k]?) (hys : ∀ k, k < ms.length → s.testBit k = false → ys[k]? = ms[k]?)
    (hno : ∀ t, ¬ Apart 2 (delM s ms) t) (hv : s.testBit v = false) (hw : s.testBit w = false) (h1 : cnfB 2 xs v a = true) (h2 : cnfB 2 ys w b = true) :
    ∃ k, a.testBit k = true ∧ b.testBit k = true ∧ s.testBit k = false := by
  obtain ⟨Q, hQ, q1, q2, q3⟩ := rdyB_iff.1 h1
  obtain ⟨R, hR, r1, r2, r3⟩ := rdyB_iff.1 h2
  obtain ⟨c1, c2⟩ := shown_closed hl hx hs hQ hok hxs (fun k hk => by have := q1 k hk; rw [Nat.testBit_and, Bool.and_eq_true] at this; exact this.2) q2
  obtain ⟨c3, c4⟩ := shown_closed hl hy hs hR hok hys (fun k hk => by have := r1 k hk; rw [Nat.testBit_and, Bool.and_eq_true] at this; exact this.2) r2
  refine Classical.byContradiction (fun hn => hno (minS Q s) ⟨⟨?_, c1, c2⟩, minS R s, minS_lt hR, ?_, ?_, c4⟩)
  · intro h0
    have : (minS Q s).testBit v = true := by rw [minS_bit, q3, hv]; rfl
    rw [h0] at this; simp at this
  · intro h0
    have : (minS R s).testBit w = true := by rw [minS_bit, r3, hw]; rfl
    rw [h0] at this; simp at this
  · intro k hk
    have hd := c3 k hk
    have hkl := declS_bit hd
    rw [Nat.testBit_and, Bool.and_eq_true, outS_bit, Bool.and_eq_true, decide_eq_true_eq, Bool.not_eq_true']
    refine ⟨⟨hkl, ?_⟩, hd⟩
    cases hq : (minS Q s).testBit k
    · rfl
    · exfalso
      rw [minS_bit, Bool.and_eq_true, Bool.not_eq_true'] at hq hk
      have e1 := q1 k hq.1
      have e2 := r1 k hk.1
      rw [Nat.testBit_and, Bool.and_eq_true] at e1 e2
      exact hn ⟨k, e1.1, e2.1, hq.2⟩

end Go.Proofs.Ytobdnepmjcbjeaa

namespace Go.Proofs.Ytobdnepmjcbjeaa
set_option linter.unusedVariables false
open Go.RowKit

/-- Member k of the restricted configuration. -/
def resM (s : Nat) (ms : List Mem) (k : Nat) : Mem := if s.testBit k then ms.getD k (false, .mk 0 [] []) else (false, .mk 0 [] [])

def restM (s : Nat) (ms : List Mem) (n : Nat) : List Mem := (List.range n).map (resM s ms)

theorem restM_len (s : Nat) (ms : List Mem) (n : Nat) : (restM s ms n).length = n := by unfold restM; rw [List.length_map, List.length_range]

theorem restM_succ (s : Nat) (ms : List Mem) (n : Nat) : restM s ms (n + 1) = restM s ms n ++ [resM s ms n] := by unfold restM; rw [List.range_succ, List.map_append]; rfl

theorem restM_get (s : Nat) (ms : List Mem) (n k : Nat) (h : k < n) : (restM s ms n)[k]? = some (resM s ms k) := by
  unfold restM; rw [List.getElem?_map, List.getElem?_range h]; rfl

theorem restM_decl (s : Nat) (ms : List Mem) (n : Nat) (hn : n = ms.length) : ∀ k, k ≤ n → declS (restM s ms n) k = declS ms k &&& s
  | 0, _ => by unfold declS; simp
  | k + 1, h => by
    have ih := restM_decl s ms n hn k (by omega)
    have hg : (restM s ms n).getD k (false, .mk 0 [] []) = resM s ms k := by rw [List.getD_eq_getElem?_getD, restM_get s ms n k (by omega)]; rfl
    show (if ((restM s ms n).getD k (false, .mk 0 [] [])).1 then declS (restM s ms n) k ||| 2 ^ k else declS (restM s ms n) k) = (if (ms.getD k (false, .mk 0 [] [])).1 then declS ms k ||| 2 ^ k else declS ms k) &&& s
    rw [hg, ih]
    unfold resM
    by_cases hb : s.testBit k = true
    · rw [if_pos hb]
      split
      · apply Nat.eq_of_testBit_eq
        intro j
        simp only [Nat.testBit_or, Nat.testBit_and, Nat.testBit_two_pow]
        by_cases hj : k = j
        · subst hj; simp [hb]
        · simp [hj]
      · rfl
    · rw [if_neg hb]
      simp only [Bool.false_eq_true, if_false]
      split
      · apply Nat.eq_of_testBit_eq
        intro j
        simp only [Nat.testBit_or, Nat.testBit_and, Nat.testBit_two_pow]
        by_cases hj : k = j
        · subst hj; simp [hb]
        · simp [hj]
      · rfl

/-- Within the set the restricted configuration says the same. -/
theorem restM_uns {d s : Nat} {ms : List Mem} {q k : Nat} (hk : k < ms.length) (hl : ms.length ≤ 10) (hq : q < 1024) (hs : Sub q s) : uns d (restM s ms ms.length) q k = uns d ms q k := by
  unfold uns
  rw [hasB_bit hq (by omega)]
  cases hb : q.testBit k
  · rfl
  · have h1 : trOf (restM s ms ms.length) k = trOf ms k := by
      unfold trOf
      rw [List.getD_eq_getElem?_getD, restM_get s ms ms.length k hk]
      show (resM s ms k).2 = _
      unfold resM
      rw [if_pos (hs k hb)]
    rw [h1]

theorem restM_closed {d s : Nat} {ms : List Mem} {q : Nat} (hl : ms.length ≤ 10) (hq : q < 1024) (hs : Sub q s) : Closed d (restM s ms ms.length) q ↔ Closed d ms q := by
  unfold Closed
  rw [restM_len]
  exact ⟨fun h k hk => by rw [← restM_uns hk hl hq hs]; exact h k hk, fun h k hk => by rw [restM_uns hk hl hq hs]; exact h k hk⟩

/-- The greatest closed set in y of the restricted one is that in the common part. -/
theorem restM_gr {d x y D : Nat} {ms : List Mem} {G H : Nat} (hl : ms.length ≤ 10) (hG : G < 1024) (hH : H < 1024) (h1 : IsGr d (restM x ms ms.length) (y &&& (D &&& x)) G) (h2 : IsGr d ms ((x &&& y) &&& D) H) : G = H := by
  have g1 := (sub_and.1 (sub_and.1 h1.sub).2)
  have g2 := (sub_and.1 h1.sub).1
  have k1 := sub_and.1 h2.sub
  have k2 := sub_and.1 k1.1
  exact sub_antisymm (h2.most G hG (sub_and.2 ⟨sub_and.2 ⟨g1.2, g2⟩, g1.1⟩) ((restM_closed hl hG g1.2).1 h1.closed))
    (h1.most H hH (sub_and.2 ⟨k2.2, sub_and.2 ⟨k1.2, k2.1⟩⟩) ((restM_closed hl hH k2.1).2 h2.closed))

end Go.Proofs.Ytobdnepmjcbjeaa

namespace Go.Proofs.Ytobdnepmjcbjeaa
set_option linter.unusedVariables false
open Go.RowKit

theorem bit0_fact (S K : Nat) (h : S < 1024) (hK : K < 10) : (bits .and .i64 ((S : Int) / 2 ^ K) 1 == 0) = !S.testBit K := by
  have all : ∀ S : Fin 1024, ∀ K : Fin 10, (bits .and .i64 ((S.val : Int) / 2 ^ K.val) 1 == 0) = !S.val.testBit K.val := by decide +kernel
  exact all ⟨S, h⟩ ⟨K, hK⟩

/-- Members in a row of its own, with trusts that lie below B0. -/
def RowT (B0 B d : Nat) (W : World) (v : Value) (rs : List Mem) : Prop :=
  ∃ cs : List Value, W.ownsRow B 39 4 v rs.length cs ∧ ∀ k m, rs[k]? = some m → ∃ x0 x1 x2, cs[k * 4]? = some (.bool m.1) ∧ cs[k * 4 + 1]? = some x0 ∧ cs[k * 4 + 2]? = some x1 ∧ cs[k * 4 + 3]? = some x2 ∧ TAt (fun b => b < B0) d W x0 x1 x2 m.2

theorem RowT.app {B0 B d : Nat} {wo W5 : World} {v' x0 x1 x2 : Value} {rs : List Mem} {m : Mem} {cs : List Value}
    (hcl : ∀ k m, rs[k]? = some m → ∃ x0 x1 x2, cs[k * 4]? = some (.bool m.1) ∧ cs[k * 4 + 1]? = some x0 ∧ cs[k * 4 + 2]? = some x1 ∧ cs[k * 4 + 3]? = some x2 ∧ TAt (fun b => b < B0) d wo x0 x1 x2 m.2) (hcn : cs.length = rs.length * 4)
    (keep : ∀ q, q < B0 → q < wo.heap.size → W5.heap[q]? = wo.heap[q]?) (hT : TAt (fun b => b < B0) d wo x0 x1 x2 m.2) (hown5 : W5.ownsRow B 39 4 v' (rs.length + 1) (cs ++ [.bool m.1, x0, x1, x2])) : RowT B0 B d W5 v' (rs ++ [m]) := by
  refine ⟨cs ++ [.bool m.1, x0, x1, x2], by simpa using hown5, fun k S hS => ?_⟩
  rcases Nat.lt_or_ge k rs.length with hk | hk
  · rw [List.getElem?_append_left hk] at hS
    obtain ⟨y0, y1, y2, e0, e1, e2, e3, e4⟩ := hcl k S hS
    exact ⟨y0, y1, y2, by rw [List.getElem?_append_left (by omega)]; exact e0, by rw [List.getElem?_append_left (by omega)]; exact e1, by rw [List.getElem?_append_left (by omega)]; exact e2, by rw [List.getElem?_append_left (by omega)]; exact e3, e4.keep (fun q hq hP => keep q hP hq)⟩
  · have hk2 : k = rs.length := by
      have := (List.getElem?_eq_some_iff.1 hS).1
      simp at this; omega
    subst hk2
    have hS' : S = m := by simpa using hS.symm
    subst hS'
    refine ⟨x0, x1, x2, ?_, ?_, ?_, ?_, hT.keep (fun q hq hP => keep q hP hq)⟩
    · rw [List.getElem?_append_right (by omega)]; simp [hcn]
    · rw [List.getElem?_append_right (by omega), show rs.length * 4 + 1 - cs.length = 1 by omega]; rfl
    · rw [List.getElem?_append_right (by omega), show rs.length * 4 + 2 - cs.length = 2 by omega]; rfl
    · rw [List.getElem?_append_right (by omega), show rs.length * 4 + 3 - cs.length = 3 by omega]; rfl

theorem RowT.keep {B0 B d : Nat} {W W' : World} {v : Value} {rs : List Mem} (h : RowT B0 B d W v rs) (hk : ∀ q, q < W.heap.size → (q < B0 ∨ B ≤ q) → W'.heap[q]? = W.heap[q]?) : RowT B0 B d W' v rs := by
  obtain ⟨cs, h1, h2⟩ := h
  refine ⟨cs, own_keepG h1 (fun j _ hB hl => hk j hl (.inr hB)), fun k m hm => ?_⟩
  obtain ⟨x0, x1, x2, e0, e1, e2, e3, e4⟩ := h2 k m hm
  exact ⟨x0, x1, x2, e0, e1, e2, e3, e4.keep (fun q hq hP => hk q hq (.inl hP))⟩

theorem RowT.mems {B0 B d : Nat} {W : World} {v : Value} {rs : List Mem} (h : RowT B0 B d W v rs) : MemsAt (fun _ => True) d W v rs := by
  obtain ⟨cs, h1, h2⟩ := h
  rcases h1.2 with ⟨hv, h0⟩ | ⟨g, cap, cur, hv, hb, _⟩
  · exact ⟨none, 0, by rw [hv, h0], fun k T hT => by have := (List.getElem?_eq_some_iff.1 hT).1; omega⟩
  · refine ⟨some ⟨g, 0, none⟩, cap, hv, fun k m hm => ?_⟩
    obtain ⟨x0, x1, x2, e0, e1, e2, e3, e4⟩ := h2 k m hm
    have c : ∀ j u, cs[j]? = some u → W.cell? ⟨g, 0 + j, none⟩ = some u := fun j u hu => by
      have := h1.cells (g := g) (by rw [hv]; rfl) j u hu
      rwa [Addr.add_lit] at this
    exact ⟨g, 0, x0, x1, x2, rfl, trivial, c _ _ e0, by rw [Nat.add_assoc]; exact c _ _ e1, by rw [Nat.add_assoc]; exact c _ _ e2, by rw [Nat.add_assoc]; exact c _ _ e3, e4.imp (fun q _ hq => trivial)⟩

end Go.Proofs.Ytobdnepmjcbjeaa

namespace Go.Proofs.Ytobdnepmjcbjeaa
set_option linter.unusedVariables false
set_option linter.unusedSimpArgs false
open Go.RowKit

def fN (s : Nat) (l : List Int) : List Int := l.filter (fun k => !hasB (s : Int) k)

def fI (s d : Nat) (l : List Tree) : List Tree := (l.map (lessT s d)).filter (fun T => !deadT T)

theorem fN_len (s : Nat) (l : List Int) : (fN s l).length ≤ l.length := List.length_filter_le _ _

theorem fI_len (s d : Nat) (l : List Tree) : (fI s d l).length ≤ l.length := Nat.le_trans (List.length_filter_le _ _) (by simp)

theorem take_one {α : Type} {l : List α} {j : Nat} {x : α} (h : l[j]? = some x) : l.take (j + 1) = l.take j ++ [x] := by
  rw [List.take_add_one, h]; rfl

theorem fN_take {s : Nat} {l : List Int} {j : Nat} {x : Int} (h : l[j]? = some x) : fN s (l.take (j + 1)) = fN s (l.take j) ++ (if hasB (s : Int) x then [] else [x]) := by
  unfold fN
  rw [take_one h, List.filter_append]
  cases hb : hasB (s : Int) x <;> simp [List.filter_cons, hb]

theorem fI_take {s d : Nat} {l : List Tree} {j : Nat} {x : Tree} (h : l[j]? = some x) : fI s d (l.take (j + 1)) = fI s d (l.take j) ++ (if deadT (lessT s d x) then [] else [lessT s d x]) := by
  unfold fI
  rw [take_one h, List.map_append, List.filter_append]
  cases hb : deadT (lessT s d x) <;> simp [List.filter_cons, hb]

theorem cnt_take1 {α : Type} {p : α → Bool} {l : List α} {j : Nat} {x : α} (h : l[j]? = some x) : cnt p (l.take (j + 1)) = cnt p (l.take j) + (if p x then 1 else 0) := cnt_take_succ p l j x h

theorem TAt.thr {P : Nat → Prop} {d : Nat} {w : World} {t : Int} {v1 v2 : Value} {T : Tree} (h : TAt P d w (.int .i64 t) v1 v2 T) : thrOf T = t := by
  cases d with
  | zero => exact h.elim
  | succ d =>
    obtain ⟨thr, ns, is⟩ := T
    obtain ⟨h1, _⟩ := h.parts
    injection h1 with _ h2
    exact h2.symm

end Go.Proofs.Ytobdnepmjcbjeaa

namespace Go.Proofs.Ytobdnepmjcbjeaa
set_option linter.unusedVariables false
set_option linter.unusedSimpArgs false
open Go.RowKit

/-- Members in a row of its own from B on, with trusts in blocks of Q. -/
def GRow (Q : Nat → Prop) (B d : Nat) (W : World) (v : Value) (ms : List Mem) : Prop :=
  ∃ cs : List Value, W.ownsRow B 39 4 v ms.length cs ∧ ∀ k m, ms[k]? = some m → ∃ x0 x1 x2, cs[k * 4]? = some (.bool m.1) ∧ cs[k * 4 + 1]? = some x0 ∧ cs[k * 4 + 2]? = some x1 ∧ cs[k * 4 + 3]? = some x2 ∧ TAt (fun b => Q b ∧ v.ownBlock ≠ some b) d W x0 x1 x2 m.2

theorem GRow.nil (Q : Nat → Prop) (B d : Nat) (W : World) : GRow Q B d W (.slice none 0 0) [] := ⟨[], World.ownsRow_nil _ _ _ _, fun k T h => by simp at h⟩

theorem GRow.own {Q : Nat → Prop} {B d : Nat} {W : World} {v : Value} {ms : List Mem} (h : GRow Q B d W v ms) : ∀ j, v.ownBlock = some j → B ≤ j ∧ j < W.heap.size := by
  obtain ⟨cs, h1, _⟩ := h
  exact h1.lt

theorem GRow.keep {Q : Nat → Prop} {B d : Nat} {W W' : World} {v : Value} {ms : List Mem} (h : GRow Q B d W v ms) (hk : ∀ q, (Q q ∨ B ≤ q) → q < W.heap.size → W'.heap[q]? = W.heap[q]?) : GRow Q B d W' v ms := by
  obtain ⟨cs, h1, h2⟩ := h
  refine ⟨cs, own_keepG h1 (fun j _ hB hl => hk j (.inr hB) hl), fun k m hm => ?_⟩
  obtain ⟨x0, x1, x2, e0, e1, e2, e3, e4⟩ := h2 k m hm
  exact ⟨x0, x1, x2, e0, e1, e2, e3, e4.keep (fun q hq hP => hk q (.inl hP.1) hq)⟩

/-- One more member. -/
theorem GRow.append {Q : Nat → Prop} {B d : Nat} {WA W4 : World} {lv x0 x1 x2 : Value} {ms : List Mem} {m : Mem} {g4 cap4 : Nat} {cs : List Value}
    (hcl : ∀ k m, ms[k]? = some m → ∃ x0 x1 x2, cs[k * 4]? = some (.bool m.1) ∧ cs[k * 4 + 1]? = some x0 ∧ cs[k * 4 + 2]? = some x1 ∧ cs[k * 4 + 3]? = some x2 ∧ TAt (fun b => Q b ∧ lv.ownBlock ≠ some b) d WA x0 x1 x2 m.2) (hcn : cs.length = ms.length * 4)
    (hT : TAt (fun b => Q b ∧ lv.ownBlock ≠ some b) d WA x0 x1 x2 m.2)
    (hown4 : W4.ownsRow B 39 4 (.slice (some ⟨g4, 0, none⟩) (ms.length + 1) cap4) (ms.length + 1) (cs ++ [.bool m.1, x0, x1, x2])) (hg4 : WA.grownBy W4 lv.ownBlock) (hat4 : lv.ownBlock = some g4 ∨ g4 = WA.heap.size) :
    GRow Q B d W4 (.slice (some ⟨g4, 0, none⟩) (ms.length + 1) cap4) (ms ++ [m]) := by
  have up : ∀ {y0 y1 y2 : Value} {S : Tree}, TAt (fun b => Q b ∧ lv.ownBlock ≠ some b) d WA y0 y1 y2 S → TAt (fun b => Q b ∧ (Value.slice (some ⟨g4, 0, none⟩) (ms.length + 1) cap4).ownBlock ≠ some b) d W4 y0 y1 y2 S := fun h =>
    TAt.both (fun q hq hP => hg4.block q hq (fun e => hP.2 e.symm)) (fun q hq hP => ⟨hP.1, fun e => by
      have e' : g4 = q := by simpa [Value.ownBlock] using e
      rcases hat4 with hat | hat
      · exact hP.2 (by rw [hat, e'])
      · omega⟩) _ _ _ _ _ h
  refine ⟨cs ++ [.bool m.1, x0, x1, x2], by simpa using hown4, fun k S hS => ?_⟩
  rcases Nat.lt_or_ge k ms.length with hk | hk
  · rw [List.getElem?_append_left hk] at hS
    obtain ⟨y0, y1, y2, e0, e1, e2, e3, e4⟩ := hcl k S hS
    exact ⟨y0, y1, y2, by rw [List.getElem?_append_left (by omega)]; exact e0, by rw [List.getElem?_append_left (by omega)]; exact e1, by rw [List.getElem?_append_left (by omega)]; exact e2, by rw [List.getElem?_append_left (by omega)]; exact e3, up e4⟩
  · have hk2 : k = ms.length := by
      have := (List.getElem?_eq_some_iff.1 hS).1
      simp at this; omega
    subst hk2
    have hS' : S = m := by simpa using hS.symm
    subst hS'
    refine ⟨x0, x1, x2, ?_, ?_, ?_, ?_, up hT⟩
    · rw [List.getElem?_append_right (by omega)]; simp [hcn]
    · rw [List.getElem?_append_right (by omega), show ms.length * 4 + 1 - cs.length = 1 by omega]; rfl
    · rw [List.getElem?_append_right (by omega), show ms.length * 4 + 2 - cs.length = 2 by omega]; rfl
    · rw [List.getElem?_append_right (by omega), show ms.length * 4 + 3 - cs.length = 3 by omega]; rfl

theorem GRow.mems {Q : Nat → Prop} {B d : Nat} {W : World} {v : Value} {ms : List Mem} {P : Nat → Prop} (h : GRow Q B d W v ms) (hP : ∀ b, (Q b ∨ B ≤ b) → P b) : MemsAt P d W v ms := by
  obtain ⟨cs, h1, h2⟩ := h
  rcases h1.2 with ⟨hv, h0⟩ | ⟨g, cap, cur, hv, hb, _⟩
  · exact ⟨none, 0, by rw [hv, h0], fun k T hT => by have := (List.getElem?_eq_some_iff.1 hT).1; omega⟩
  · refine ⟨some ⟨g, 0, none⟩, cap, hv, fun k m hm => ?_⟩
    obtain ⟨x0, x1, x2, e0, e1, e2, e3, e4⟩ := h2 k m hm
    have c : ∀ j u, cs[j]? = some u → W.cell? ⟨g, 0 + j, none⟩ = some u := fun j u hu => by
      have := h1.cells (g := g) (by rw [hv]; rfl) j u hu
      rwa [Addr.add_lit] at this
    exact ⟨g, 0, x0, x1, x2, rfl, hP g (.inr hb), c _ _ e0, by rw [Nat.add_assoc]; exact c _ _ e1, by rw [Nat.add_assoc]; exact c _ _ e2, by rw [Nat.add_assoc]; exact c _ _ e3, e4.imp (fun q _ hq => hP q (.inl hq.1))⟩

theorem delM_take {s k : Nat} {ms : List Mem} {m : Mem} (h : ms[k]? = some m) : (delM s ms).take (k + 1) = (delM s ms).take k ++ [delOne s k m] := take_one (delM_get h)

theorem TAt.empty (P : Nat → Prop) (d : Nat) (w : World) (A B : Option Addr) (c c' : Nat) : TAt P (d + 1) w (.int .i64 0) (.slice A 0 c) (.slice B 0 c') (.mk 0 [] []) := ⟨rfl, by simp, by simp, ⟨A, c, rfl, fun k hk => by simp at hk⟩, ⟨B, c', rfl, fun k T hT => by simp at hT⟩⟩

end Go.Proofs.Ytobdnepmjcbjeaa

namespace Go.Proofs.Ytobdnepmjcbjeaa
set_option linter.unusedVariables false
set_option linter.unusedSimpArgs false
open Go.RowKit

theorem own_down {W : World} {B B' n e size : Nat} {v : Value} {xs : List Value} (h : W.ownsRow B e size v n xs) (hb : B' ≤ B) : W.ownsRow B' e size v n xs := by
  refine ⟨h.1, ?_⟩
  rcases h.2 with hn | ⟨g, cap, cur, h1, h2, h3⟩
  · exact .inl hn
  · exact .inr ⟨g, cap, cur, h1, by omega, h3⟩

/-- The world of data.Member: the box g, the result g + 1. -/
def MemC (w : World) (g d : Nat) (b : Bool) (t : Int) (v1 v2 : Value) (T : Tree) (W : World) : Prop :=
  W.heap[g]? = some (.cells #[.bool b, .int .i64 t, v1, v2] 39 (0, 0)) ∧ (∃ r0 r1 r2 r3, W.heap[g + 1]? = some (.cells #[r0, r1, r2, r3] 39 (0, 0))) ∧ TAt (fun q => q < g) d W (.int .i64 t) v1 v2 T ∧ Below w.heap.size w W

theorem MemC.bel {w W W' : World} {g d : Nat} {b : Bool} {t : Int} {v1 v2 : Value} {T : Tree} (h : MemC w g d b t v1 v2 T W) (hb : Below W.heap.size W W') : MemC w g d b t v1 v2 T W' := by
  obtain ⟨h1, ⟨r0, r1, r2, r3, h2⟩, h3, h4⟩ := h
  exact ⟨(hb.block _ (Array.getElem?_eq_some_iff.1 h1).1).trans h1, ⟨r0, r1, r2, r3, (hb.block _ (Array.getElem?_eq_some_iff.1 h2).1).trans h2⟩, h3.below hb, bstep h4 hb⟩

theorem MemC.cs {w W : World} {g d : Nat} {b : Bool} {t : Int} {v1 v2 : Value} {T : Tree} (h : MemC w g d b t v1 v2 T W) : W.cell? ⟨g, 0, none⟩ = some (.bool b) ∧ W.cell? ⟨g, 1, none⟩ = some (.int .i64 t) ∧ W.cell? ⟨g, 2, none⟩ = some v1 ∧ W.cell? ⟨g, 3, none⟩ = some v2 ∧ MemC w g d b t v1 v2 T W :=
  ⟨cell_of_row _ _ 0 _ _ (0, 0) h.1, cell_of_row _ _ 1 _ _ (0, 0) h.1, cell_of_row _ _ 2 _ _ (0, 0) h.1, cell_of_row _ _ 3 _ _ (0, 0) h.1, h⟩

theorem keepMC {w W W' : World} {g d : Nat} {b : Bool} {t : Int} {v1 v2 : Value} {T : Tree}
    (h : W.cell? ⟨g, 0, none⟩ = some (.bool b) ∧ W.cell? ⟨g, 1, none⟩ = some (.int .i64 t) ∧ W.cell? ⟨g, 2, none⟩ = some v1 ∧ W.cell? ⟨g, 3, none⟩ = some v2 ∧ MemC w g d b t v1 v2 T W) (hb : Below W.heap.size W W') :
    W'.cell? ⟨g, 0, none⟩ = some (.bool b) ∧ W'.cell? ⟨g, 1, none⟩ = some (.int .i64 t) ∧ W'.cell? ⟨g, 2, none⟩ = some v1 ∧ W'.cell? ⟨g, 3, none⟩ = some v2 ∧ MemC w g d b t v1 v2 T W' := (h.2.2.2.2.bel hb).cs

theorem tatMC {w W : World} {g d : Nat} {b : Bool} {t : Int} {v1 v2 : Value} {T : Tree}
    (h : W.cell? ⟨g, 0, none⟩ = some (.bool b) ∧ W.cell? ⟨g, 1, none⟩ = some (.int .i64 t) ∧ W.cell? ⟨g, 2, none⟩ = some v1 ∧ W.cell? ⟨g, 3, none⟩ = some v2 ∧ MemC w g d b t v1 v2 T W) : TAt (fun q => q < g) d W (.int .i64 t) v1 v2 T := h.2.2.2.2.2.2.1

theorem szMC {w W : World} {g d : Nat} {b : Bool} {t : Int} {v1 v2 : Value} {T : Tree}
    (h : W.cell? ⟨g, 0, none⟩ = some (.bool b) ∧ W.cell? ⟨g, 1, none⟩ = some (.int .i64 t) ∧ W.cell? ⟨g, 2, none⟩ = some v1 ∧ W.cell? ⟨g, 3, none⟩ = some v2 ∧ MemC w g d b t v1 v2 T W) : g + 2 ≤ W.heap.size := by
  obtain ⟨r0, r1, r2, r3, h2⟩ := h.2.2.2.2.2.1
  exact (Array.getElem?_eq_some_iff.1 h2).1

theorem setMC {w W : World} {g d : Nat} {b : Bool} {t : Int} {v1 v2 : Value} {T : Tree}
    (h : W.cell? ⟨g, 0, none⟩ = some (.bool b) ∧ W.cell? ⟨g, 1, none⟩ = some (.int .i64 t) ∧ W.cell? ⟨g, 2, none⟩ = some v1 ∧ W.cell? ⟨g, 3, none⟩ = some v2 ∧ MemC w g d b t v1 v2 T W) (hg : w.heap.size = g) (a0 a1 a2 a3 : Value) :
    ((((W.setCell ⟨g + 1, 0, none⟩ a0).setCell ⟨g + 1, 1, none⟩ a1).setCell ⟨g + 1, 2, none⟩ a2).setCell ⟨g + 1, 3, none⟩ a3).cell? ⟨g, 0, none⟩ = some (.bool b) ∧ ((((W.setCell ⟨g + 1, 0, none⟩ a0).setCell ⟨g + 1, 1, none⟩ a1).setCell ⟨g + 1, 2, none⟩ a2).setCell ⟨g + 1, 3, none⟩ a3).cell? ⟨g, 1, none⟩ = some (.int .i64 t) ∧ ((((W.setCell ⟨g + 1, 0, none⟩ a0).setCell ⟨g + 1, 1, none⟩ a1).setCell ⟨g + 1, 2, none⟩ a2).setCell ⟨g + 1, 3, none⟩ a3).cell? ⟨g, 2, none⟩ = some v1 ∧ ((((W.setCell ⟨g + 1, 0, none⟩ a0).setCell ⟨g + 1, 1, none⟩ a1).setCell ⟨g + 1, 2, none⟩ a2).setCell ⟨g + 1, 3, none⟩ a3).cell? ⟨g, 3, none⟩ = some v2 ∧ MemC w g d b t v1 v2 T ((((W.setCell ⟨g + 1, 0, none⟩ a0).setCell ⟨g + 1, 1, none⟩ a1).setCell ⟨g + 1, 2, none⟩ a2).setCell ⟨g + 1, 3, none⟩ a3) := by
  obtain ⟨h1, ⟨r0, r1, r2, r3, h2⟩, h3, h4⟩ := h.2.2.2.2
  have far : ∀ q, q ≠ g + 1 → ((((W.setCell ⟨g + 1, 0, none⟩ a0).setCell ⟨g + 1, 1, none⟩ a1).setCell ⟨g + 1, 2, none⟩ a2).setCell ⟨g + 1, 3, none⟩ a3).heap[q]? = W.heap[q]? := fun q hq =>
    (Below.heap_setCell _ _ _ _ (by simpa using hq)).trans ((Below.heap_setCell _ _ _ _ (by simpa using hq)).trans ((Below.heap_setCell _ _ _ _ (by simpa using hq)).trans (Below.heap_setCell _ _ _ _ (by simpa using hq))))
  refine MemC.cs ⟨(far g (by omega)).trans h1, ⟨a0, a1, a2, a3, ?_⟩, h3.keep (fun q _ hq => far q (by omega)), ?_⟩
  · simp [World.setCell, Array.getElem?_modify, h2]
  · exact bset (bset (bset (bset h4 (p := ⟨g + 1, 0, none⟩) (by show w.heap.size ≤ g + 1; omega) _) (p := ⟨g + 1, 1, none⟩) (by show w.heap.size ≤ g + 1; omega) _) (p := ⟨g + 1, 2, none⟩) (by show w.heap.size ≤ g + 1; omega) _) (p := ⟨g + 1, 3, none⟩) (by show w.heap.size ≤ g + 1; omega) _

/-- The contract of one member's copy. -/
def OneM (d : Nat) : Prop := ∀ (P : Nat → Prop) (b : Bool) (T : Tree) (x0 x1 x2 : Value) (w : World), TAt P d w x0 x1 x2 T →
    Calls Try.prog 53 #[.agg #[.bool b, x0, x1, x2]] w fun e w' => ∃ y0 y1 y2, e = .returned (.agg #[.bool b, y0, y1, y2]) ∧ TAt (fun q => w.heap.size ≤ q) d w' y0 y1 y2 T ∧ Below w.heap.size w w'

set_option maxRecDepth 100000 in
set_option maxHeartbeats 4000000 in
theorem member_run (d : Nat) : OneM d := by
  intro P b T x0 x1 x2 w h
  obtain ⟨t, A1, n1, c1, A2, n2, c2, rfl, rfl, rfl⟩ := h.form
  have hb2 : Below w.heap.size w ((w.alloc (.cells #[.bool b, .int .i64 t, .slice A1 n1 c1, .slice A2 n2 c2] 39)).alloc (.cells #[.bool false, .int .i64 0, .slice none 0 0, .slice none 0 0] 39)) := balloc (balloc (bref w) _) _
  have HM := Lib.hid (show MemC w w.heap.size d b t (.slice A1 n1 c1) (.slice A2 n2 c2) T ((w.alloc (.cells #[.bool b, .int .i64 t, .slice A1 n1 c1, .slice A2 n2 c2] 39)).alloc (.cells #[.bool false, .int .i64 0, .slice none 0 0, .slice none 0 0] 39)) from
    ⟨alloc_on (alloc_at rfl), ⟨_, _, _, _, alloc_at (alloc_sz _ _)⟩, (h.both (Q := fun q => q < w.heap.size) (fun _ _ _ => rfl) (fun k hk _ => hk)).below hb2, hb2⟩)
  have hsz : ((w.alloc (.cells #[.bool b, .int .i64 t, .slice A1 n1 c1, .slice A2 n2 c2] 39)).alloc (.cells #[.bool false, .int .i64 0, .slice none 0 0, .slice none 0 0] 39)).heap.size = w.heap.size + 2 := by rw [alloc_sz, alloc_sz]
  clear h hb2
  go_enter Try.func53, Try.ntmps53
  go_upto_region 1 with fail
  generalize ((w.alloc (.cells #[.bool b, .int .i64 t, .slice A1 n1 c1, .slice A2 n2 c2] 39)).alloc (.cells #[.bool false, .int .i64 0, .slice none 0 0, .slice none 0 0] 39)) = W1 at *
  generalize hg : w.heap.size = g at *
  have HG := Lib.hid hg
  clear hg
  have hS6 := Lib.hid (show W1.drew.cell? ⟨g, 0, none⟩ = some (.bool b) ∧ W1.drew.cell? ⟨g, 1, none⟩ = some (.int .i64 t) ∧ W1.drew.cell? ⟨g, 2, none⟩ = some (.slice A1 n1 c1) ∧ W1.drew.cell? ⟨g, 3, none⟩ = some (.slice A2 n2 c2) ∧ MemC w g d b t (.slice A1 n1 c1) (.slice A2 n2 c2) T W1.drew from (HM.out.bel (W' := W1.drew) ⟨rfl, rfl, rfl, Nat.le_refl _, fun _ _ => rfl⟩).cs)
  go_region_held3 (fun W => W.cell? ⟨g, 0, none⟩ = some (.bool b) ∧ W.cell? ⟨g, 1, none⟩ = some (.int .i64 t) ∧ W.cell? ⟨g, 2, none⟩ = some (.slice A1 n1 c1) ∧ W.cell? ⟨g, 3, none⟩ = some (.slice A2 n2 c2) ∧ MemC w g d b t (.slice A1 n1 c1) (.slice A2 n2 c2) T W) (first | exact hS6.out | exact hSK | exact keepMC (by assumption) hbK | exact setMC (by assumption) (by exact HG.out) _ _ _ _ | go_keep)
    (first
      | (go_at_call 55; refine (copy_one d _ T _ _ _ _ (by exact tatMC (by assumption)) trivial).mono ?_; rintro e WK ⟨y0, y1, y2, rfl, hTK0, hbK⟩; have hTK := TAt.imp (Q := fun q => g + 2 ≤ q) (fun q _ hq => Nat.le_trans (szMC (w := w) (g := g) (d := d) (b := b) (t := t) (v1 := .slice A1 n1 c1) (v2 := .slice A2 n2 c2) (T := T) (by assumption)) hq) hTK0; obtain ⟨t2, B1, m1, e1, B2, m2, e2, rfl, rfl, rfl⟩ := hTK.form; have hSK := keepMC (by assumption) hbK; obtain ⟨r0, r1, r2, r3, hOK⟩ := hSK.2.2.2.2.2.1; have p0 := cell_of_row WK (g + 1) 0 _ _ (0, 0) hOK; have p1 := cell_of_row WK (g + 1) 1 _ _ (0, 0) hOK; have p2 := cell_of_row WK (g + 1) 2 _ _ (0, 0) hOK; have p3 := cell_of_row WK (g + 1) 3 _ _ (0, 0) hOK; have f0 : WK.frozen? ⟨g + 1, 0, none⟩ = false := (by simp [World.frozen?, hOK]); have f1 : WK.frozen? ⟨g + 1, 1, none⟩ = false := (by simp [World.frozen?, hOK]); have f2 : WK.frozen? ⟨g + 1, 2, none⟩ = false := (by simp [World.frozen?, hOK]); have f3 : WK.frozen? ⟨g + 1, 3, none⟩ = false := (by simp [World.frozen?, hOK])))
  have hF := setMC hSK HG.out (.bool b) (.int .i64 t2) (.slice B1 m1 e1) (.slice B2 m2 e2)
  have hw1 : W1.heap.size = g + 2 := hsz
  go_wp2_with fail
  refine bodyPost_ret (v := .agg #[.bool b, .int .i64 t2, .slice B1 m1 e1, .slice B2 m2 e2]) ?_ rfl ⟨_, _, _, rfl, ?_, ?_⟩
  · simp [results, Try.results53, go_sem, p0, p1, p2, p3]
  · exact TAt.both (fun q _ hq => (Below.heap_setCell _ _ _ _ (by simp; omega)).trans ((Below.heap_setCell _ _ _ _ (by simp; omega)).trans ((Below.heap_setCell _ _ _ _ (by simp; omega)).trans (Below.heap_setCell _ _ _ _ (by simp; omega))))) (fun q _ hq => by have := HG.out; omega) _ _ _ _ _ hTK
  · exact hF.2.2.2.2.2.2.2

set_option maxHeartbeats 4000000 in
set_option maxRecDepth 100000 in
theorem listMember_run (d : Nat) (P : Nat → Prop) (v : Value) (ms : List Mem) (w : World) (hn : ms.length ≤ 10) (h : MemsAt P d w v ms) :
    Calls Try.prog 52 #[v, .func (.func 53) #[] #[]] w fun e w' => ∃ v', e = .returned v' ∧ GRow (fun q => w.heap.size ≤ q) w.heap.size d w' v' ms ∧ Below w.heap.size w w' := by
  obtain ⟨i0, hi, hz0, hz1, hz2⟩ := info_parts infoMember
  obtain ⟨A, c, rfl, h1⟩ := h
  have H1 := Lib.hid h1
  clear h1
  by_cases h0 : ms.length = 0
  · have hl0 : ((ms.length : Int) == 0) = true := by rw [h0]; rfl
    have hE := Lib.hid (List.eq_nil_of_length_eq_zero h0)
    clear h0
    go_enter Try.func52, Try.ntmps52
    go_wp2_with fail
    go_ret
    exact ⟨_, rfl, by rw [hE.out]; exact GRow.nil _ _ _ _, bref _⟩
  · have hl0 : ((ms.length : Int) == 0) = false := by rw [beq_eq_false_iff_ne]; omega
    go_enter Try.func52, Try.ntmps52
    go_wp2_with (at_make; refine wpList_make_full _ rfl _ _ 22 rfl w.heap.size 39 i0 (.agg #[.bool false, .int .i64 0, .slice none 0 0, .slice none 0 0]) 4 Try.underlying22 hi hz0 hz1 .i64 .i64 _ _ ms.length rfl rfl rfl rfl (by rw [hz2]; omega) (by unfold maxLen; omega) (Nat.le_refl _) ?_; intro w1 hown hgrow)
    have hcs1 := hown.1
    have HB1 := Lib.hid (show Below w.heap.size w w1 from (bref w).grown hgrow (Nat.le_refl _) (fun j hj => by cases hj))
    have hgl : w.heap.size < w1.heap.size := (hown.lt w.heap.size rfl).2
    go_loopw [16] (fun t wr => ∃ (k : Nat) (cs : List Value), k ≤ ms.length ∧ t = .int .i64 k ∧ Hid (wr.ownsRow w.heap.size 39 4 (.slice (some ⟨w.heap.size, 0, none⟩) ms.length ms.length) ms.length cs) ∧
      Hid (∀ j (m : Mem), j < k → ms[j]? = some m → ∃ y0 y1 y2, cs[j * 4]? = some (.bool m.1) ∧ cs[j * 4 + 1]? = some y0 ∧ cs[j * 4 + 2]? = some y1 ∧ cs[j * 4 + 3]? = some y2 ∧ TAt (fun b => w.heap.size < b) d wr y0 y1 y2 m.2) ∧ Hid (Below w.heap.size w wr)) (fun t _ => ms.length - (intOf t).toNat)
    case atStart => exact ⟨0, _, by omega, rfl, Lib.hid hown, Lib.hid (fun j T hj => by omega), HB1⟩
    case round =>
      clear hown hgrow hcs1 HB1 hgl
      obtain ⟨k, cs, hk, rfl, hO, hY, hB⟩ := hrel
      have hcl := hO.out.1
      have hgl := (hO.out.lt w.heap.size rfl).2
      by_cases hlt : k < ms.length
      · obtain ⟨m, hT⟩ : ∃ m, ms[k]? = some m := ⟨_, List.getElem?_eq_getElem hlt⟩
        obtain ⟨b, off, x0, x1, x2, rfl, hPb, cb0, c0, c1, c2, hTk⟩ := H1.out k m hT
        obtain ⟨t', A', n', ca, B', m', cb, rfl, rfl, rfl⟩ := hTk.form
        obtain ⟨bm, T⟩ := m
        have hbl := cell_lt c0
        simp only at hbl
        have eb : wr.cell? ⟨b, off + k * 4, none⟩ = some (.bool bm) := (hB.out.cell (p := ⟨b, off + k * 4, none⟩) hbl).trans cb0
        have e0 : wr.cell? ⟨b, off + k * 4 + 1, none⟩ = some (.int .i64 t') := (hB.out.cell (p := ⟨b, off + k * 4 + 1, none⟩) hbl).trans c0
        have e1 : wr.cell? ⟨b, off + k * 4 + 2, none⟩ = some (.slice A' n' ca) := (hB.out.cell (p := ⟨b, off + k * 4 + 2, none⟩) hbl).trans c1
        have e2 : wr.cell? ⟨b, off + k * 4 + 3, none⟩ = some (.slice B' m' cb) := (hB.out.cell (p := ⟨b, off + k * 4 + 3, none⟩) hbl).trans c2
        have hTr := Lib.hid ((hTk.below hB.out).below (balloc (bref wr) (.cells #[.bool bm, .int .i64 t', .slice A' n' ca, .slice B' m' cb] 39)))
        have HT := Lib.hid hT
        have hO1 := Lib.hid (hO.out.alloc (.cells #[.bool bm, .int .i64 t', .slice A' n' ca, .slice B' m' cb] 39))
        have hB1 := Lib.hid (balloc hB.out (.cells #[.bool bm, .int .i64 t', .slice A' n' ca, .slice B' m' cb] 39))
        have HF := Lib.hid (member_run d P bm T _ _ _ _ hTr.out)
        clear cb0 c0 c1 c2 hTk hT
        go_wp2_with fail
        refine HF.out.mono ?_
        rintro e w2 ⟨z0, z1, z2, rfl, hz, hb2⟩
        obtain ⟨t2, A2, n2, ca2, B2, m2, cb2, rfl, rfl, rfl⟩ := hz.form
        have hO2 := hO1.out.kept (grown_below (r := none) hb2) (.inr (by simp [Value.ownBlock]))
        have fb : w2.cell? ⟨w.heap.size, k * 4, none⟩ = cs[k * 4]? := hO2.cellAt (k * 4) (by omega)
        have f0 : w2.cell? ⟨w.heap.size, k * 4 + 1, none⟩ = cs[k * 4 + 1]? := hO2.cellAt (k * 4 + 1) (by omega)
        have f1 : w2.cell? ⟨w.heap.size, k * 4 + 2, none⟩ = cs[k * 4 + 2]? := hO2.cellAt (k * 4 + 2) (by omega)
        have f2 : w2.cell? ⟨w.heap.size, k * 4 + 3, none⟩ = cs[k * 4 + 3]? := hO2.cellAt (k * 4 + 3) (by omega)
        rw [List.getElem?_eq_getElem (by omega)] at fb f0 f1 f2
        have gb := hO2.frozenAt (k * 4)
        have g0 := hO2.frozenAt (k * 4 + 1)
        have g1 := hO2.frozenAt (k * 4 + 2)
        have g2 := hO2.frozenAt (k * 4 + 3)
        generalize cs[k * 4]'(by omega) = ub at fb
        generalize cs[k * 4 + 1]'(by omega) = u0 at f0
        generalize cs[k * 4 + 2]'(by omega) = u1 at f1
        generalize cs[k * 4 + 3]'(by omega) = u2 at f2
        have hO3 := Lib.hid (((((hO2.stored (k * 4) (.bool bm)).1.stored (k * 4 + 1) (.int .i64 t2)).1.stored (k * 4 + 2) (.slice A2 n2 ca2)).1.stored (k * 4 + 3) (.slice B2 m2 cb2)).1)
        have hB2 := Lib.hid (bset (bset (bset (bset (bstep hB1.out hb2) (p := ⟨w.heap.size, k * 4, none⟩) (Nat.le_refl _) (.bool bm)) (p := ⟨w.heap.size, k * 4 + 1, none⟩) (Nat.le_refl _) (.int .i64 t2)) (p := ⟨w.heap.size, k * 4 + 2, none⟩) (Nat.le_refl _) (.slice A2 n2 ca2)) (p := ⟨w.heap.size, k * 4 + 3, none⟩) (Nat.le_refl _) (.slice B2 m2 cb2))
        have hfar : ∀ q, q ≠ w.heap.size → ((((w2.setCell ⟨w.heap.size, k * 4, none⟩ (.bool bm)).setCell ⟨w.heap.size, k * 4 + 1, none⟩ (.int .i64 t2)).setCell ⟨w.heap.size, k * 4 + 2, none⟩ (.slice A2 n2 ca2)).setCell ⟨w.heap.size, k * 4 + 3, none⟩ (.slice B2 m2 cb2)).heap[q]? = w2.heap[q]? := fun q hq =>
          (Below.heap_setCell _ _ _ _ (by simpa using hq)).trans ((Below.heap_setCell _ _ _ _ (by simpa using hq)).trans ((Below.heap_setCell _ _ _ _ (by simpa using hq)).trans (Below.heap_setCell _ _ _ _ (by simpa using hq))))
        have hY3 : Hid (∀ j (m : Mem), j < k + 1 → ms[j]? = some m → ∃ y0 y1 y2, ((((cs.set (k * 4) (.bool bm)).set (k * 4 + 1) (.int .i64 t2)).set (k * 4 + 2) (.slice A2 n2 ca2)).set (k * 4 + 3) (.slice B2 m2 cb2))[j * 4]? = some (.bool m.1) ∧ ((((cs.set (k * 4) (.bool bm)).set (k * 4 + 1) (.int .i64 t2)).set (k * 4 + 2) (.slice A2 n2 ca2)).set (k * 4 + 3) (.slice B2 m2 cb2))[j * 4 + 1]? = some y0 ∧ ((((cs.set (k * 4) (.bool bm)).set (k * 4 + 1) (.int .i64 t2)).set (k * 4 + 2) (.slice A2 n2 ca2)).set (k * 4 + 3) (.slice B2 m2 cb2))[j * 4 + 2]? = some y1 ∧ ((((cs.set (k * 4) (.bool bm)).set (k * 4 + 1) (.int .i64 t2)).set (k * 4 + 2) (.slice A2 n2 ca2)).set (k * 4 + 3) (.slice B2 m2 cb2))[j * 4 + 3]? = some y2 ∧
            TAt (fun b => w.heap.size < b) d ((((w2.setCell ⟨w.heap.size, k * 4, none⟩ (.bool bm)).setCell ⟨w.heap.size, k * 4 + 1, none⟩ (.int .i64 t2)).setCell ⟨w.heap.size, k * 4 + 2, none⟩ (.slice A2 n2 ca2)).setCell ⟨w.heap.size, k * 4 + 3, none⟩ (.slice B2 m2 cb2)) y0 y1 y2 m.2) := Lib.hid (by
          intro j mj hj hT'
          rcases Nat.lt_or_ge j k with hjk | hjk
          · obtain ⟨y0, y1, y2, ab, a0, a1, a2, a3⟩ := hY.out j mj hjk hT'
            refine ⟨y0, y1, y2, ?_, ?_, ?_, ?_, ?_⟩
            · rw [List.getElem?_set_ne (by omega), List.getElem?_set_ne (by omega), List.getElem?_set_ne (by omega), List.getElem?_set_ne (by omega)]; exact ab
            · rw [List.getElem?_set_ne (by omega), List.getElem?_set_ne (by omega), List.getElem?_set_ne (by omega), List.getElem?_set_ne (by omega)]; exact a0
            · rw [List.getElem?_set_ne (by omega), List.getElem?_set_ne (by omega), List.getElem?_set_ne (by omega), List.getElem?_set_ne (by omega)]; exact a1
            · rw [List.getElem?_set_ne (by omega), List.getElem?_set_ne (by omega), List.getElem?_set_ne (by omega), List.getElem?_set_ne (by omega)]; exact a2
            · exact TAt.keep (fun q _ hq => hfar q (by omega)) (TAt.below (TAt.below a3 (balloc (bref wr) (.cells #[.bool bm, .int .i64 t', .slice A' n' ca, .slice B' m' cb] 39))) hb2)
          · obtain rfl : j = k := by omega
            have hTT : mj = (bm, T) := by rw [HT.out] at hT'; exact (Option.some.inj hT').symm
            subst hTT
            refine ⟨_, _, _, ?_, ?_, ?_, ?_, TAt.both (fun q _ hq => hfar q (by simp at hq; omega)) (fun q _ hq => by simp at hq; omega) _ _ _ _ _ hz⟩
            · rw [List.getElem?_set_ne (by omega), List.getElem?_set_ne (by omega), List.getElem?_set_ne (by omega), List.getElem?_set_self (by omega)]
            · rw [List.getElem?_set_ne (by omega), List.getElem?_set_ne (by omega), List.getElem?_set_self (by simp; omega)]
            · rw [List.getElem?_set_ne (by omega), List.getElem?_set_self (by simp; omega)]
            · rw [List.getElem?_set_self (by simp; omega)])
        clear hO2 hz hb2 hfar
        go_wp2_with fail
        go_roundw
        case rel => exact ⟨k + 1, _, by omega, by go_num, hO3, hY3, hB2⟩
        case measure => simp [intOf]; omega
      · obtain rfl : k = ms.length := by omega
        go_wp2_with fail
        go_ret
        refine ⟨_, rfl, ⟨cs, hO.out, fun j m hm => ?_⟩, hB.out⟩
        obtain ⟨y0, y1, y2, ab, a0, a1, a2, a3⟩ := hY.out j m (List.getElem?_eq_some_iff.1 hm).1 hm
        exact ⟨y0, y1, y2, ab, a0, a1, a2, a3.imp (fun q _ hq => ⟨by omega, fun e => by simp [Value.ownBlock] at e; omega⟩)⟩

set_option maxHeartbeats 4000000 in
set_option maxRecDepth 100000 in
theorem pconfig_run (d : Nat) (P : Nat → Prop) (v : Value) (ms : List Mem) (w : World) (hn : ms.length ≤ 10) (h : MemsAt P d w v ms) :
    Calls Try.prog 37 #[.agg #[v]] w fun e w' => ∃ v', e = .returned (.agg #[v']) ∧ GRow (fun q => w.heap.size ≤ q) w.heap.size d w' v' ms ∧ Below w.heap.size w w' := by
  obtain ⟨A, c, rfl⟩ := h.slice
  have hb2 : Below w.heap.size w ((w.alloc (.cells #[.slice A ms.length c] 24)).alloc (.cells #[.slice none 0 0] 24)) := balloc (balloc (bref w) _) _
  have k0 : ((w.alloc (.cells #[.slice A ms.length c] 24)).alloc (.cells #[.slice none 0 0] 24)).heap[w.heap.size]? = some (.cells #[.slice A ms.length c] 24 (0, 0)) := alloc_on (alloc_at rfl)
  have k1 : ((w.alloc (.cells #[.slice A ms.length c] 24)).alloc (.cells #[.slice none 0 0] 24)).heap[w.heap.size + 1]? = some (.cells #[.slice none 0 0] 24 (0, 0)) := alloc_at (alloc_sz _ _)
  have hsz : ((w.alloc (.cells #[.slice A ms.length c] 24)).alloc (.cells #[.slice none 0 0] 24)).heap.size = w.heap.size + 2 := by rw [alloc_sz, alloc_sz]
  have H := Lib.hid (h.below hb2)
  have HB := Lib.hid hb2
  have K0 := Lib.hid k0
  have K1 := Lib.hid k1
  clear h hb2 k0 k1
  go_enter Try.func37, Try.ntmps37
  go_upto_region 1 with fail
  generalize ((w.alloc (.cells #[.slice A ms.length c] 24)).alloc (.cells #[.slice none 0 0] 24)) = W1 at *
  generalize hg : w.heap.size = g at *
  have HG := Lib.hid hg
  clear hg
  have c0 : W1.cell? ⟨g, 0, none⟩ = some (.slice A ms.length c) := cell_of_row _ _ 0 _ _ (0, 0) K0.out
  go_wp2_with fail
  refine (listMember_run d P _ ms _ hn H.out).mono ?_
  rintro e W2 ⟨v', rfl, hR, hb⟩
  have hms := hR.mems (P := fun _ => True) (fun _ _ => trivial)
  obtain ⟨A2, c2, rfl⟩ := hms.slice
  have K2 := Lib.hid ((hb.block (g + 1) (by omega)).trans K1.out)
  have z0 : W2.cell? ⟨g + 1, 0, none⟩ = some (.slice none 0 0) := cell_of_row _ _ 0 _ _ (0, 0) K2.out
  have zf : W2.frozen? ⟨g + 1, 0, none⟩ = false := by simp [World.frozen?, K2.out]
  have hzl := cell_lt z0
  have HR := Lib.hid hR
  have HB2 := Lib.hid (show Below w.heap.size w W2 from (by have h1 := HB.out; rw [← HG.out] at h1; exact h1.trans (hb.mono (by have := HG.out; omega))))
  have hw1 := hb.size
  clear hms hR hb c0
  go_wp2_with fail
  refine bodyPost_ret (v := .agg #[.slice A2 ms.length c2]) ?_ rfl ⟨_, rfl, ?_, ?_⟩
  · simp [results, Try.results37, go_sem, z0]
  · have h2 := HR.out
    obtain ⟨cs, h3, h4⟩ := h2
    have hk : ∀ q, W1.heap.size ≤ q → (W2.setCell ⟨g + 1, 0, none⟩ (.slice A2 ms.length c2)).heap[q]? = W2.heap[q]? := fun q hq => Below.heap_setCell _ _ _ _ (by simp; omega)
    refine ⟨cs, ?_, fun k m hm => ?_⟩
    · have h5 := own_keepG h3 (W' := W2.setCell ⟨g + 1, 0, none⟩ (.slice A2 ms.length c2)) (fun j _ hB hl => hk j hB)
      exact own_down h5 (by have := HG.out; omega)
    · obtain ⟨x0, x1, x2, e0, e1, e2, e3, e4⟩ := h4 k m hm
      exact ⟨x0, x1, x2, e0, e1, e2, e3, TAt.both (fun q _ hP => hk q hP.1) (fun q _ hP => ⟨by have := HG.out; omega, hP.2⟩) _ _ _ _ _ e4⟩
  · exact bset HB2.out (p := ⟨g + 1, 0, none⟩) (by show w.heap.size ≤ g + 1; have := HG.out; omega) _

end Go.Proofs.Ytobdnepmjcbjeaa

namespace Go.Proofs.Ytobdnepmjcbjeaa
set_option linter.unusedVariables false
set_option linter.unusedSimpArgs false
open Go.RowKit

/-- What without returns: whether anything is still needed, and if so the trust. -/
def WithR (s d : Nat) (T R : Tree) : Prop := deadT (lessT s d T) = false → R = lessT s d T

/-- The contract of without. -/
def WithC (s d : Nat) : Prop := ∀ (P : Nat → Prop) (n : Int) (T : Tree) (x0 x1 x2 : Value) (w : World), TAt P d w x0 x1 x2 T → WF n d T →
    Calls Try.prog 56 #[.agg #[x0, x1, x2], .int .i64 (s : Int)] w fun e w' => ∃ y0 y1 y2, ∃ R, e = .returned (.tuple #[.agg #[y0, y1, y2], .bool (!deadT (lessT s d T))]) ∧ TAt (fun b => w.heap.size ≤ b) d w' y0 y1 y2 R ∧ WithR s d T R ∧ Below w.heap.size w w'

set_option maxRecDepth 100000 in
set_option maxHeartbeats 8000000 in
theorem with_step (s d : Nat) (hs : s < 1024) (ih : WithC s d) : WithC s (d + 1) := by
  intro P n T x0 x1 x2 w h hWF
  obtain ⟨thr, ns, is⟩ := T
  obtain ⟨i0, hin, hz0, hz1, hz2⟩ := info_parts infoInt
  obtain ⟨i3, hi3, hy0, hy1, hy2⟩ := info_parts infoTrust
  obtain ⟨rfl, hn, hi, hN, hL⟩ := h.parts
  obtain ⟨A, c, rfl⟩ := hN.slice
  obtain ⟨B, c', rfl⟩ := hL.slice
  obtain ⟨ht0, ht1, hl10, hl3, _, _, hWi⟩ := hWF
  obtain ⟨t0, rfl⟩ := Int.eq_ofNat_of_zero_le (show 0 ≤ thr by omega)
  have HWI := Lib.hid hWi
  have HT1 := Lib.hid (show t0 ≤ 13 by omega)
  clear ht1
  have HI := Lib.hid ih
  have hb2 : Below w.heap.size w ((w.alloc (.cells #[.int .i64 (t0 : Int), .slice A ns.length c, .slice B is.length c'] 37)).alloc (.cells #[.int .i64 0, .slice none 0 0, .slice none 0 0] 37)) := balloc (balloc (bref w) _) _
  have k0 : ((w.alloc (.cells #[.int .i64 (t0 : Int), .slice A ns.length c, .slice B is.length c'] 37)).alloc (.cells #[.int .i64 0, .slice none 0 0, .slice none 0 0] 37)).heap[w.heap.size]? = some (.cells #[.int .i64 (t0 : Int), .slice A ns.length c, .slice B is.length c'] 37 (0, 0)) := alloc_on (alloc_at rfl)
  have k1 : OutAt ((w.alloc (.cells #[.int .i64 (t0 : Int), .slice A ns.length c, .slice B is.length c'] 37)).alloc (.cells #[.int .i64 0, .slice none 0 0, .slice none 0 0] 37)) (w.heap.size + 1) 0 (.slice none 0 0) (.slice none 0 0) := alloc_at (alloc_sz _ _)
  have hsz0 : ((w.alloc (.cells #[.int .i64 (t0 : Int), .slice A ns.length c, .slice B is.length c'] 37)).alloc (.cells #[.int .i64 0, .slice none 0 0, .slice none 0 0] 37)).heap.size = w.heap.size + 2 := by rw [alloc_sz, alloc_sz]
  have HN0 := Lib.hid ((hN.both (Q := fun b => b < w.heap.size) (fun _ _ _ => rfl) (fun k hk _ => hk)).below hb2)
  have HL0 := Lib.hid ((hL.both (Q := fun b => b < w.heap.size) (fun _ _ _ => rfl) (fun k hk _ => hk)).below hb2)
  have HB0 := Lib.hid hb2
  have K00 := Lib.hid k0
  have K10 := Lib.hid k1
  have hpos0 : ¬ (t0 : Int) ≤ 0 := by omega
  clear h hb2 k0 k1 hN hL hWi ih
  go_enter Try.func56, Try.ntmps56
  go_upto_region 1 with fail
  generalize ((w.alloc (.cells #[.int .i64 (t0 : Int), .slice A ns.length c, .slice B is.length c'] 37)).alloc (.cells #[.int .i64 0, .slice none 0 0, .slice none 0 0] 37)) = W0 at *
  generalize hg : w.heap.size = g at *
  have HG := Lib.hid hg
  clear hg
  have b0 : W0.cell? ⟨g, 0, none⟩ = some (.int .i64 (t0 : Int)) := cell_of_row _ _ 0 _ _ (0, 0) K00.out
  have hbA := balloc (bref W0) (.cells #[.int .i64 (t0 : Int), .slice none 0 0, .slice none 0 0] 37)
  have HN := Lib.hid (HN0.out.below hbA)
  have HL := Lib.hid (HL0.out.below hbA)
  have HB := Lib.hid (show Below g w (W0.alloc (.cells #[.int .i64 (t0 : Int), .slice none 0 0, .slice none 0 0] 37)) from by have h1 := HB0.out; exact h1.trans (hbA.mono (by omega)))
  have K0 := Lib.hid (alloc_on (o := .cells #[.int .i64 (t0 : Int), .slice none 0 0, .slice none 0 0] 37) K00.out)
  have K1 := Lib.hid (K10.out.keep (hbA.block _ K10.out.lt))
  have K2 := Lib.hid (show OutAt (W0.alloc (.cells #[.int .i64 (t0 : Int), .slice none 0 0, .slice none 0 0] 37)) (g + 2) (t0 : Int) (.slice none 0 0) (.slice none 0 0) from alloc_at hsz0)
  have hsz : (W0.alloc (.cells #[.int .i64 (t0 : Int), .slice none 0 0, .slice none 0 0] 37)).heap.size = g + 3 := by rw [alloc_sz, hsz0]
  clear hbA HN0 HL0 HB0 K00 K10
  go_upto_region 4 with fail
  generalize W0.alloc (.cells #[.int .i64 (t0 : Int), .slice none 0 0, .slice none 0 0] 37) = W1 at *
  clear b0 hsz0
  have b1 : W1.cell? ⟨g, 1, none⟩ = some (.slice A ns.length c) := cell_of_row _ _ 1 _ _ (0, 0) K0.out
  go_wp2_with fail
  clear b1
  go_loopw [23] (fun t W => ∃ (j : Nat) (v : Value), j ≤ ns.length ∧ t = .int .i64 j ∧ W.ownsRow (g + 3) 3 1 v (fN s (ns.take j)).length ((fN s (ns.take j)).map (Value.int .i64)) ∧ Hid (OutAt W (g + 2) ((t0 : Int) - (cnt (hasB (s : Int)) (ns.take j) : Nat)) v (.slice none 0 0)) ∧ Hid (W1.grownBy W (some (g + 2)))) (fun t _ => ns.length - (intOf t).toNat)
  case atStart => exact ⟨0, .slice none 0 0, by omega, rfl, World.ownsRow_nil _ _ _ _, K2, Lib.hid (World.grownBy.refl _ _)⟩
  case round =>
    obtain ⟨j, v, hj, rfl, hown, hO, hGr⟩ := hrel
    have hwr := hGr.out.size
    obtain ⟨o0, o1, o2⟩ := hO.out.cs
    have of0 := hO.out.fr 0
    have of1 := hO.out.fr 1
    have hol := hO.out.lt
    by_cases hlt : j < ns.length
    · obtain ⟨An, cn, hAn, hNc⟩ := HN.out
      injection hAn with hA1 hA2 hA3
      subst hA1
      subst hA3
      obtain ⟨b, off, rfl, hP, hc⟩ := hNc j hlt
      have hx0 : ns[j]? = some (ns.getD j 0) := by rw [List.getD_eq_getElem?_getD, List.getElem?_eq_getElem hlt]; rfl
      generalize ns.getD j 0 = x at *
      have d1 := (World.cell?_of_block (a := ⟨b, off + j, none⟩) (hGr.out.block b (by omega) (by simp; omega))).trans hc
      have HC := Lib.hid (cnt_take1 (p := hasB (s : Int)) hx0)
      have HF := Lib.hid (fN_take (s := s) hx0)
      have hfl := Nat.le_trans (fN_len s (ns.take j)) (by rw [List.length_take]; exact Nat.min_le_right _ _)
      clear hc hNc hx0
      cases hb : hasB (s : Int) x
      · rw [hb] at HC HF
        rw [if_neg (by simp)] at HC HF
        go_wp2_with fail
        refine (has_run _ _ _).mono ?_
        rintro e w2 ⟨rfl, rfl⟩
        rw [hb]
        have HOB := Lib.hid (fun (q : Nat) (hq : v.ownBlock = some q) => (hown.lt q hq).1)
        go_wp2_with (at_builtin; refine wpList_append_own _ rfl _ _ 26 rfl (g + 3) 3 i0 (.int .i64 0) 1 8 Try.underlying26 hin hz0 hz1 hz2 rfl (by decide) _ _ _ rfl (hown.alloc _) ⟨wr.heap.size, 0, none⟩ 1 1 [.int .i64 x] rfl rfl (cell_one_new _ _ _) (fun u hu => by simp at hu; subst hu; rfl) (by unfold maxLen; omega) (by omega) (by simp; omega) ?_; intro v' W2 hown' hgrow hnil; obtain ⟨gq, cq, rfl, hgq, hlq⟩ := hown'.form (by omega); have hO3 := hO.out.keep ((hgrow.block _ (by simp; omega) (fun e => by have := HOB.out _ e.symm; omega)).trans (Below.heap_alloc _ _ _ hol)); obtain ⟨p0, p1, p2⟩ := hO3.cs; have pf1 := hO3.fr 1)
        have hown4 := hown'.kept (gset1 W2 ⟨g + 2, 1, none⟩ (.slice (some ⟨gq, 0, none⟩) ((fN s (ns.take j)).length + 1) cq)) (.inr (by simp [Value.ownBlock]; omega))
        have HOW4 := Lib.hid (own_snoc hown4)
        have HG3 := Lib.hid (grown_at (gown (grown_trans hGr.out (grown_below (balloc (bref wr) (.cells #[.int .i64 x] 3)))) hgrow (fun q hq => by have := HOB.out q hq; omega)) 1 (.slice (some ⟨gq, 0, none⟩) ((fN s (ns.take j)).length + 1) cq))
        have HO4 := Lib.hid (hO3.set1 (.slice (some ⟨gq, 0, none⟩) ((fN s (ns.take j)).length + 1) cq))
        clear hown' hgrow hnil hown hown4
        go_roundw
        case rel => exact ⟨j + 1, _, by omega, by go_num, by rw [HF.out]; simpa using HOW4.out, by rw [HC.out]; exact HO4, HG3⟩
        case measure => simp [intOf]; omega
      · rw [hb] at HC HF
        rw [if_pos rfl] at HC HF
        have HOWN := Lib.hid hown
        have hcl := Nat.le_trans (cnt_le (hasB (s : Int)) (ns.take j)) (by rw [List.length_take]; exact Nat.min_le_right _ _)
        have HSUB := Lib.hid (show (t0 : Int) - (cnt (hasB (s : Int)) (ns.take (j + 1)) : Nat) = (t0 : Int) - (cnt (hasB (s : Int)) (ns.take j) : Nat) - 1 by have := HC.out; omega)
        have hq0 : -20 ≤ (t0 : Int) - (cnt (hasB (s : Int)) (ns.take j) : Nat) := by omega
        have hq1 : (t0 : Int) - (cnt (hasB (s : Int)) (ns.take j) : Nat) ≤ 20 := by have := HT1.out; omega
        generalize (t0 : Int) - (cnt (hasB (s : Int)) (ns.take j) : Nat) = m0 at *
        have HO4 := Lib.hid (hO.out.set0 (m0 - 1))
        have HG3 := Lib.hid (grown_at hGr.out 0 (.int .i64 (m0 - 1)))
        have HOW4 := Lib.hid (HOWN.out.kept (gset1 wr ⟨g + 2, 0, none⟩ (.int .i64 (m0 - 1))) (own_below HOWN.out (by simp)))
        clear hown
        go_wp2_with fail
        refine (has_run _ _ _).mono ?_
        rintro e w2 ⟨rfl, rfl⟩
        rw [hb]
        go_wp2_with fail
        go_roundw
        case rel => exact ⟨j + 1, v, by omega, by go_num, by rw [HF.out, List.append_nil]; exact HOW4.out, by rw [HSUB.out]; exact HO4, HG3⟩
        case measure => simp [intOf]; omega
    · obtain rfl : j = ns.length := by omega
      rw [List.take_length] at hown hO
      have HTK := Lib.hid (show cnt (hasB (s : Int)) (ns.take ns.length) = cnt (hasB (s : Int)) ns by rw [List.take_length])
      have hcl := cnt_le (hasB (s : Int)) ns
      generalize hm0 : (t0 : Int) - (cnt (hasB (s : Int)) ns : Nat) = m0 at *
      have hm13 : m0 ≤ 13 := by have := HT1.out; omega
      have hm10 : -10 ≤ m0 := by omega
      have HM0 := Lib.hid hm0
      clear hm0 hcl
      obtain ⟨A1, c1, rfl⟩ := own_slice hown
      have HOWN := Lib.hid hown
      have HO0 := hO
      have HG0 := hGr
      have b2 : wr.cell? ⟨g, 2, none⟩ = some (.slice B is.length c') := (World.cell?_of_block (a := ⟨g, 2, none⟩) (hGr.out.block g (by omega) (by simp))).trans (cell_of_row _ _ 2 _ _ (0, 0) K0.out)
      clear hown of0 of1 o0 o1 o2
      have hL1l := Nat.le_trans (fN_len s ns) hl10
      generalize hL1 : fN s ns = L1 at *
      have HL1 := Lib.hid hL1
      clear hL1
      go_wp2_with fail
      clear b2
      go_loopw [44] (fun t W => ∃ (j : Nat) (v2 : Value), j ≤ is.length ∧ t = .int .i64 j ∧ Hid (W.ownsRow (g + 3) 3 1 (.slice A1 L1.length c1) L1.length (L1.map (Value.int .i64))) ∧ Hid (Inner (g + 3) d W v2 (fI s d (is.take j))) ∧ Hid (OutAt W (g + 2) (m0 - (cnt (fun T => deadT (lessT s d T)) (is.take j) : Nat)) (.slice A1 L1.length c1) v2) ∧ Hid (W1.grownBy W (some (g + 2)))) (fun t _ => is.length - (intOf t).toNat)
      case atStart => exact ⟨0, .slice none 0 0, by omega, rfl, HOWN, Lib.hid (Inner.nil _ _ _), Lib.hid (by simpa [cnt] using HO0.out), HG0⟩
      case round =>
        clear HOWN HO0 HG0 hO hGr hwr hol
        obtain ⟨j, v2, hj, rfl, hOW, hInn, hO, hGr⟩ := hrel
        have hwr := hGr.out.size
        obtain ⟨o0, o1, o2⟩ := hO.out.cs
        have of0 := hO.out.fr 0
        have of2 := hO.out.fr 2
        have hol := hO.out.lt
        by_cases hlt : j < is.length
        · obtain ⟨Bn, cn, hBn, hLc⟩ := HL.out
          injection hBn with hA1 hA2 hA3
          subst hA1
          subst hA3
          obtain ⟨T, hT⟩ : ∃ T, is[j]? = some T := ⟨_, List.getElem?_eq_getElem hlt⟩
          obtain ⟨b, off, x0, x1, x2, rfl, hP, e0, e1, e2, hTk⟩ := hLc j T hT
          obtain ⟨t', A', n', ca, B', m', cb, rfl, rfl, rfl⟩ := hTk.form
          have lw := hGr.out.block b (by omega) (by simp; omega)
          have d0 := (World.cell?_of_block (a := ⟨b, off + j * 3, none⟩) lw).trans e0
          have d1 := (World.cell?_of_block (a := ⟨b, off + j * 3 + 1, none⟩) lw).trans e1
          have d2 := (World.cell?_of_block (a := ⟨b, off + j * 3 + 2, none⟩) lw).trans e2
          have hTr : TAt (fun b => b < g) d wr (.int .i64 t') (.slice A' n' ca) (.slice B' m' cb) T := hTk.keep (fun q hq hP => hGr.out.block q hq (by simp; omega))
          have HTb := Lib.hid (hTr.below (balloc (bref wr) (.cells #[.int .i64 t', .slice A' n' ca, .slice B' m' cb] 37)))
          have HWT := Lib.hid (HWI.out T (List.mem_of_getElem? hT))
          have HC := Lib.hid (cnt_take1 (p := fun T => deadT (lessT s d T)) hT)
          have HF := Lib.hid (fI_take (s := s) (d := d) hT)
          have hfl := Nat.le_trans (fI_len s d (is.take j)) (by rw [List.length_take]; exact Nat.min_le_right _ _)
          have HOWB := Lib.hid (fun q (hq : v2.ownBlock = some q) => (hInn.out.own q hq).2)
          have HGr := hGr
          have HO := hO
          clear lw e0 e1 e2 hTr hTk hLc hT hGr hO of0 of2 o0 o1 o2
          go_wp2_with fail
          refine (HI.out _ n T _ _ _ _ HTb.out HWT.out).mono ?_
          rintro e W2 ⟨y0, y1, y2, R2, rfl, hT2, hR2, hb2⟩
          obtain ⟨t2, A2, n2, c2, B2, m2, c3, rfl, rfl, rfl⟩ := hT2.form
          have HR2 := Lib.hid hR2
          clear hR2
          have hbA := balloc (bstep (balloc (bref wr) (.cells #[.int .i64 t', .slice A' n' ca, .slice B' m' cb] 37)) hb2) (.cells #[.int .i64 t2, .slice A2 n2 c2, .slice B2 m2 c3] 37)
          have k3 : (W2.alloc (.cells #[.int .i64 t2, .slice A2 n2 c2, .slice B2 m2 c3] 37)).heap[W2.heap.size]? = some (.cells #[.int .i64 t2, .slice A2 n2 c2, .slice B2 m2 c3] 37 (0, 0)) := alloc_at rfl
          have HT3 := Lib.hid (TAt.both (Q := fun b => wr.heap.size ≤ b) (fun _ _ _ => rfl) (fun q _ hq => by simp at hq; omega) _ _ _ _ _ (hT2.below (balloc (bref W2) (.cells #[.int .i64 t2, .slice A2 n2 c2, .slice B2 m2 c3] 37))))
          have HK3 := Lib.hid k3
          have HO3 := Lib.hid (HO.out.keep (hbA.block _ hol))
          have HOW3 := Lib.hid (own_bel hOW.out hbA)
          have HI3 := Lib.hid (hInn.out.below hbA)
          have HG3 := Lib.hid (grown_trans HGr.out (grown_below hbA))
          have HS3 := Lib.hid hbA.size
          clear hT2 hb2 hbA k3 d0 d1 d2
          go_upto_region 15 with fail
          generalize W2.alloc (.cells #[.int .i64 t2, .slice A2 n2 c2, .slice B2 m2 c3] 37) = W3 at *
          generalize W2.heap.size = r3 at *
          have r0 : W3.cell? ⟨r3, 0, none⟩ = some (.int .i64 t2) := cell_of_row _ _ 0 _ _ (0, 0) HK3.out
          have r1 : W3.cell? ⟨r3, 1, none⟩ = some (.slice A2 n2 c2) := cell_of_row _ _ 1 _ _ (0, 0) HK3.out
          have r2 : W3.cell? ⟨r3, 2, none⟩ = some (.slice B2 m2 c3) := cell_of_row _ _ 2 _ _ (0, 0) HK3.out
          obtain ⟨o0, o1, o2⟩ := HO3.out.cs
          have of0 := HO3.out.fr 0
          have of2 := HO3.out.fr 2
          have hol3 := HO3.out.lt
          cases hdd : deadT (lessT s d T)
          · rw [hdd] at HC HF
            rw [if_neg (by simp)] at HC HF
            have hR2 := HR2.out hdd
            subst hR2
            obtain ⟨cs, hcs, hcl⟩ := HI3.out
            have hcn := hcs.1
            have HOWI := Lib.hid (fun q (hq : v2.ownBlock = some q) => (hcs.lt q hq).1)
            have HCS3 := Lib.hid hcs
            have HCSA := Lib.hid (hcs.alloc (.cells #[.int .i64 t2, .slice A2 n2 c2, .slice B2 m2 c3] 37))
            have HNEW := Lib.hid (cell_three_new W3 (.int .i64 t2) (.slice A2 n2 c2) (.slice B2 m2 c3) 37)
            have HBA4 := Lib.hid (balloc (bref W3) (.cells #[.int .i64 t2, .slice A2 n2 c2, .slice B2 m2 c3] 37))
            have HSZ4 := Lib.hid (alloc_sz W3 (.cells #[.int .i64 t2, .slice A2 n2 c2, .slice B2 m2 c3] 37))
            have HCL := Lib.hid hcl
            clear hcs hcl hdd
            rw [Bool.not_false]
            go_wp2_with (at_builtin; refine wpList_append_lies _ rfl _ _ 35 rfl (g + 3) 37 i3 (.agg #[.int .i64 0, .slice none 0 0, .slice none 0 0]) 3 56 Try.underlying35 hi3 hy0 hy1 hy2 rfl (by decide) _ (fI s d (is.take j)).length cs rfl (by exact HCSA.out) ⟨_, 0, none⟩ 1 1 [.int .i64 t2, .slice A2 n2 c2, .slice B2 m2 c3] rfl rfl (by exact HNEW.out) (by intro u hu; simp at hu; rcases hu with rfl | rfl | rfl <;> rfl) (by omega) (by unfold maxLen; omega) (by omega) (by have := HSZ4.out; omega) _ rfl ?_; intro g4 cap4 W5 hown4 hgrow4 hat4 hlt4; have hO5 := HO3.out.keep ((hgrow4.block (g + 2) (by have := HSZ4.out; omega) (fun e => by have := HOWI.out _ e.symm; omega)).trans (HBA4.out.block (g + 2) hol3)); obtain ⟨s0, s1, s2⟩ := hO5.cs; have sf2 := hO5.fr 2)
            have hgB : (W3.alloc (.cells #[.int .i64 t2, .slice A2 n2 c2, .slice B2 m2 c3] 37)).grownBy W5 v2.ownBlock := ⟨hgrow4.os, hgrow4.tape, hgrow4.output, hgrow4.size, hgrow4.block⟩
            have hI5 := Inner.append (W := W3.alloc (.cells #[.int .i64 t2, .slice A2 n2 c2, .slice B2 m2 c3] 37)) (fun k T hT => by
                obtain ⟨z0, z1, z2, e0, e1, e2, e3⟩ := HCL.out k T hT
                exact ⟨z0, z1, z2, e0, e1, e2, e3.below HBA4.out⟩) hcn
              ((HT3.out.below HBA4.out).imp (fun q _ hq => ⟨by omega, fun e => by have := (HCS3.out.lt q e).2; have := HOWB.out q e; omega⟩)) hown4 hgB hat4
            have HI5 := Lib.hid (hI5.setLow (p := ⟨g + 2, 2, none⟩) (by simp) (.slice (some ⟨g4, 0, none⟩) ((fI s d (is.take j)).length + 1) cap4))
            have HO5 := Lib.hid (hO5.set2 (.slice (some ⟨g4, 0, none⟩) ((fI s d (is.take j)).length + 1) cap4))
            have HG5 := Lib.hid (grown_at (gown (grown_trans HG3.out (grown_below HBA4.out)) hgB (fun q hq => by have := HOWI.out q hq; omega)) 2 (.slice (some ⟨g4, 0, none⟩) ((fI s d (is.take j)).length + 1) cap4))
            have hOWA := own_bel HOW3.out HBA4.out
            have HOW5 := Lib.hid ((hOWA.kept hgB (own_apart hOWA HCSA.out)).kept (gset1 W5 ⟨g + 2, 2, none⟩ (.slice (some ⟨g4, 0, none⟩) ((fI s d (is.take j)).length + 1) cap4)) (own_below (hOWA.kept hgB (own_apart hOWA HCSA.out)) (by simp)))
            clear hown4 hgrow4 hat4 hlt4 hgB hI5 hO5 hOWA s0 s1 s2 sf2
            have HCE := Lib.hid (show cnt (fun T => deadT (lessT s d T)) (is.take (j + 1)) = cnt (fun T => deadT (lessT s d T)) (is.take j) by have := HC.out; omega)
            go_roundw
            case rel => exact ⟨j + 1, _, by omega, by go_num, HOW5, by rw [HF.out]; exact HI5, by rw [HCE.out]; exact HO5, HG5⟩
            case measure => simp [intOf]; omega
          · rw [hdd] at HC HF
            rw [if_pos rfl] at HC HF
            have HSUB := Lib.hid (show m0 - (cnt (fun T => deadT (lessT s d T)) (is.take (j + 1)) : Nat) = m0 - (cnt (fun T => deadT (lessT s d T)) (is.take j) : Nat) - 1 by have := HC.out; omega)
            have hcl := Nat.le_trans (cnt_le (fun T => deadT (lessT s d T)) (is.take j)) (by rw [List.length_take]; exact Nat.min_le_right _ _)
            have hq0 : -20 ≤ m0 - (cnt (fun T => deadT (lessT s d T)) (is.take j) : Nat) := by omega
            have hq1 : m0 - (cnt (fun T => deadT (lessT s d T)) (is.take j) : Nat) ≤ 20 := by omega
            generalize m0 - (cnt (fun T => deadT (lessT s d T)) (is.take j) : Nat) = q0 at *
            clear hdd hcl
            rw [Bool.not_true]
            have HO4 := Lib.hid (HO3.out.set0 (q0 - 1))
            have HG4 := Lib.hid (grown_at HG3.out 0 (.int .i64 (q0 - 1)))
            have HOW4 := Lib.hid (HOW3.out.kept (gset1 W3 ⟨g + 2, 0, none⟩ (.int .i64 (q0 - 1))) (own_below HOW3.out (by simp)))
            have HI4 := Lib.hid (HI3.out.setLow (p := ⟨g + 2, 0, none⟩) (by simp) (.int .i64 (q0 - 1)))
            go_wp2_with fail
            go_roundw
            case rel => exact ⟨j + 1, v2, by omega, by go_num, HOW4, by rw [HF.out, List.append_nil]; exact HI4, by rw [HSUB.out]; exact HO4, HG4⟩
            case measure => simp [intOf]; omega
        · obtain rfl : j = is.length := by omega
          obtain ⟨A2, c2, rfl⟩ := hInn.out.slice
          have HTI := Lib.hid (show fI s d (is.take is.length) = fI s d is by rw [List.take_length])
          have hR : OutAt wr (g + 1) 0 (.slice none 0 0) (.slice none 0 0) := K1.out.keep (hGr.out.block (g + 1) (by omega) (by simp))
          obtain ⟨r0, r1, r2⟩ := hR.cs
          have rf0 := hR.fr 0
          have rf1 := hR.fr 1
          have rf2 := hR.fr 2
          have HZB := Lib.hid (show Below w.heap.size w wr by
            have h1 := HB.out
            rw [← HG.out] at h1
            exact h1.grown hGr.out h1.size (fun q hq => by obtain rfl := Option.some.inj hq; have := HG.out; omega))
          have hfl := Nat.le_trans (fI_len s d (is.take is.length)) (by rw [List.length_take]; exact Nat.min_le_right _ _)
          have HLE := Lib.hid (show (!deadT (lessT s (d + 1) (.mk (t0 : Int) ns is))) = decide (0 < m0 - (cnt (fun T => deadT (lessT s d T)) (is.take is.length) : Nat)) ∧ WithR s (d + 1) (.mk (t0 : Int) ns is) (.mk (m0 - (cnt (fun T => deadT (lessT s d T)) (is.take is.length) : Nat)) L1 (fI s d (is.take is.length))) by
            rw [← HM0.out, ← HL1.out, List.take_length]
            have e1 : cnt deadT (is.map (lessT s d)) = cnt (fun T => deadT (lessT s d T)) is := by
              unfold cnt; rw [List.filter_map, List.length_map]; rfl
            have e2 : lessT s (d + 1) (.mk (t0 : Int) ns is) = .mk ((t0 - cnt (hasB (s : Int)) ns - cnt (fun T => deadT (lessT s d T)) is : Nat) : Int) (fN s ns) (fI s d is) := by
              show Tree.mk _ _ _ = _
              rw [e1]
              rfl
            unfold WithR
            rw [e2]
            have e3 : deadT (.mk ((t0 - cnt (hasB (s : Int)) ns - cnt (fun T => deadT (lessT s d T)) is : Nat) : Int) (fN s ns) (fI s d is)) = !decide (0 < (t0 : Int) - (cnt (hasB (s : Int)) ns : Nat) - (cnt (fun T => deadT (lessT s d T)) is : Nat)) := by
              unfold deadT
              rw [← decide_not]
              refine decide_eq_decide.2 ?_
              have key : ∀ (t a b : Nat), ((t - a - b : Nat) : Int) ≤ 0 ↔ ¬ (0 < (t : Int) - (a : Nat) - (b : Nat)) := by intros; omega
              exact key _ _ _
            rw [e3]
            refine ⟨by simp, fun h => ?_⟩
            have h1 : (0 : Int) < (t0 : Int) - (cnt (hasB (s : Int)) ns : Nat) - (cnt (fun T => deadT (lessT s d T)) is : Nat) := by simpa using h
            have h2 : ((t0 : Int) - (cnt (hasB (s : Int)) ns : Nat) - (cnt (fun T => deadT (lessT s d T)) is : Nat)) = ((t0 - cnt (hasB (s : Int)) ns - cnt (fun T => deadT (lessT s d T)) is : Nat) : Int) := by omega
            rw [h2])
          generalize m0 - (cnt (fun T => deadT (lessT s d T)) (is.take is.length) : Nat) = tz at *
          clear HTI
          generalize fI s d (is.take is.length) = L2 at *
          have HOW := hOW
          have HInn := hInn
          clear hOW hInn hR
          obtain ⟨s0, s1, s2⟩ := hO.out.cs
          go_wp2_with fail
          go_region
          go_wp2_with fail
          have K1' := ((HOW.out.kept (gset1 wr ⟨g + 1, 0, none⟩ (.int .i64 (tz : Int))) (own_below HOW.out (by simp))).kept (gset1 _ ⟨g + 1, 1, none⟩ (.slice A1 L1.length c1)) (own_below HOW.out (by simp))).kept (gset1 _ ⟨g + 1, 2, none⟩ (.slice A2 L2.length c2)) (own_below HOW.out (by simp))
          have K2' := ((HInn.out.setLow (p := ⟨g + 1, 0, none⟩) (by simp) (.int .i64 (tz : Int))).setLow (p := ⟨g + 1, 1, none⟩) (by simp) (.slice A1 L1.length c1)).setLow (p := ⟨g + 1, 2, none⟩) (by simp) (.slice A2 L2.length c2)
          have hgl := HG.out
          refine bodyPost_ret (v := .tuple #[.agg #[.int .i64 (tz : Int), .slice A1 L1.length c1, .slice A2 L2.length c2], .bool (decide (0 < tz))]) ?_ rfl ⟨_, _, _, _, by rw [HLE.out.1], ?_, HLE.out.2, ?_⟩
          · simp [results, Try.results56, go_sem, r0, r1, r2]
          · exact made (fun b hb => by omega) (by omega) (by omega) K1' K2'.drew
          · exact bdrew (bset (bset (bset HZB.out (p := ⟨g + 1, 0, none⟩) (by show w.heap.size ≤ g + 1; omega) _) (p := ⟨g + 1, 1, none⟩) (by show w.heap.size ≤ g + 1; omega) _) (p := ⟨g + 1, 2, none⟩) (by show w.heap.size ≤ g + 1; omega) _)

theorem with_run (s : Nat) (hs : s < 1024) : ∀ d, WithC s d
  | 0 => fun P n T x0 x1 x2 w h _ => h.elim
  | d + 1 => with_step s d hs (with_run s hs d)

end Go.Proofs.Ytobdnepmjcbjeaa

namespace Go.Proofs.Ytobdnepmjcbjeaa
set_option linter.unusedVariables false
set_option linter.unusedSimpArgs false
open Go.RowKit

set_option maxRecDepth 100000 in
set_option maxHeartbeats 2000000 in
theorem delT_run (P : Nat → Prop) (n : Int) (s k d : Nat) (T : Tree) (x0 x1 x2 : Value) (w : World) (hs : s < 1024) (h : TAt P (d + 1) w x0 x1 x2 T) (hWF : WF n (d + 1) T) :
    Calls Try.prog 39 #[.agg #[x0, x1, x2], .int .i64 (k : Int), .int .i64 (s : Int)] w fun e w' => ∃ y0 y1 y2, e = .returned (.agg #[y0, y1, y2]) ∧ TAt (fun b => w.heap.size ≤ b) (d + 1) w' y0 y1 y2 (delT s k (d + 1) T) ∧ Below w.heap.size w w' := by
  obtain ⟨t', A', n', ca, B', m', cb, rfl, rfl, rfl⟩ := h.form
  have hsv := Lib.hid (show setB (s : Int) = true from setB_iff.2 ⟨by omega, by omega⟩)
  have hb2 : Below w.heap.size w ((w.alloc (.cells #[.int .i64 t', .slice A' n' ca, .slice B' m' cb] 37)).alloc (.cells #[.int .i64 0, .slice none 0 0, .slice none 0 0] 37)) := balloc (balloc (bref w) _) _
  have k0 : ((w.alloc (.cells #[.int .i64 t', .slice A' n' ca, .slice B' m' cb] 37)).alloc (.cells #[.int .i64 0, .slice none 0 0, .slice none 0 0] 37)).heap[w.heap.size]? = some (.cells #[.int .i64 t', .slice A' n' ca, .slice B' m' cb] 37 (0, 0)) := alloc_on (alloc_at rfl)
  have k1 : OutAt ((w.alloc (.cells #[.int .i64 t', .slice A' n' ca, .slice B' m' cb] 37)).alloc (.cells #[.int .i64 0, .slice none 0 0, .slice none 0 0] 37)) (w.heap.size + 1) 0 (.slice none 0 0) (.slice none 0 0) := alloc_at (alloc_sz _ _)
  have HT := Lib.hid (h.below hb2)
  have HB := Lib.hid hb2
  have K0 := Lib.hid k0
  have K1 := Lib.hid k1
  have HW := Lib.hid hWF
  clear h hb2 k0 k1 hWF
  go_enter Try.func39, Try.ntmps39
  go_upto_region 1 with fail
  generalize ((w.alloc (.cells #[.int .i64 t', .slice A' n' ca, .slice B' m' cb] 37)).alloc (.cells #[.int .i64 0, .slice none 0 0, .slice none 0 0] 37)) = W1 at *
  generalize hg : w.heap.size = g at *
  have HG := Lib.hid hg
  clear hg
  have c0 : W1.cell? ⟨g, 0, none⟩ = some (.int .i64 t') := cell_of_row _ _ 0 _ _ (0, 0) K0.out
  have c1 : W1.cell? ⟨g, 1, none⟩ = some (.slice A' n' ca) := cell_of_row _ _ 1 _ _ (0, 0) K0.out
  have c2 : W1.cell? ⟨g, 2, none⟩ = some (.slice B' m' cb) := cell_of_row _ _ 2 _ _ (0, 0) K0.out
  have hol := K1.out.lt
  go_wp2_with fail
  refine (setValid_run _ _).mono ?_
  rintro e w2 ⟨rfl, rfl⟩
  rw [hsv.out]
  go_wp2_with fail
  refine (with_run s hs (d + 1) _ n T _ _ _ _ HT.out HW.out).mono ?_
  rintro e W2 ⟨y0, y1, y2, R2, rfl, hT2, hR2, hb2⟩
  obtain ⟨t2, A2, n2, c2', B2, m2, c3, rfl, rfl, rfl⟩ := hT2.form
  have HR2 := Lib.hid hR2
  have hbA := balloc hb2 (.cells #[.int .i64 t2, .slice A2 n2 c2', .slice B2 m2 c3] 37)
  have k3 : (W2.alloc (.cells #[.int .i64 t2, .slice A2 n2 c2', .slice B2 m2 c3] 37)).heap[W2.heap.size]? = some (.cells #[.int .i64 t2, .slice A2 n2 c2', .slice B2 m2 c3] 37 (0, 0)) := alloc_at rfl
  have HT3 := Lib.hid (hT2.below (balloc (bref W2) (.cells #[.int .i64 t2, .slice A2 n2 c2', .slice B2 m2 c3] 37)))
  have HK3 := Lib.hid k3
  have HO3 := Lib.hid (K1.out.keep (hbA.block _ hol))
  have HB3 := Lib.hid (show Below w.heap.size w (W2.alloc (.cells #[.int .i64 t2, .slice A2 n2 c2', .slice B2 m2 c3] 37)) by
    have h1 := HB.out
    rw [← HG.out] at h1
    exact bstep h1 hbA)
  have HS3 := Lib.hid hbA.size
  clear hT2 hb2 hbA k3 c0 c1 c2 hR2
  go_upto_region 4 with fail
  generalize W2.alloc (.cells #[.int .i64 t2, .slice A2 n2 c2', .slice B2 m2 c3] 37) = W3 at *
  generalize W2.heap.size = r3 at *
  have r0 : W3.cell? ⟨r3, 0, none⟩ = some (.int .i64 t2) := cell_of_row _ _ 0 _ _ (0, 0) HK3.out
  have r1 : W3.cell? ⟨r3, 1, none⟩ = some (.slice A2 n2 c2') := cell_of_row _ _ 1 _ _ (0, 0) HK3.out
  have r2 : W3.cell? ⟨r3, 2, none⟩ = some (.slice B2 m2 c3) := cell_of_row _ _ 2 _ _ (0, 0) HK3.out
  obtain ⟨o0, o1, o2⟩ := HO3.out.cs
  have of0 := HO3.out.fr 0
  have of1 := HO3.out.fr 1
  have of2 := HO3.out.fr 2
  have hol3 := HO3.out.lt
  have hgl := HG.out
  have HBG := Lib.hid (fun (W : World) (h : Below w.heap.size w W) => (by rw [← HG.out]; exact h : Below g w W))
  cases hdd : deadT (lessT s (d + 1) T)
  · obtain rfl := HR2.out hdd
    have HE := Lib.hid (show delT s k (d + 1) T = lessT s (d + 1) T by unfold delT; rw [hdd]; rfl)
    clear hdd
    try rw [Bool.not_false]
    try rw [Bool.not_true]
    go_wp2_with fail
    refine bodyPost_ret (v := .agg #[.int .i64 t2, .slice A2 n2 c2', .slice B2 m2 c3]) ?_ rfl ⟨_, _, _, rfl, ?_, ?_⟩
    · simp [results, Try.results39, go_sem, o0, o1, o2]
    · rw [HE.out]
      exact TAt.both (fun q hq hP => (Below.heap_setCell _ _ _ _ (by simp; omega)).trans ((Below.heap_setCell _ _ _ _ (by simp; omega)).trans (Below.heap_setCell _ _ _ _ (by simp; omega)))) (fun q _ hP => by omega) _ _ _ _ _ HT3.out
    · exact (bset (bset (bset HB3.out (p := ⟨g + 1, 0, none⟩) (by show w.heap.size ≤ g + 1; omega) _) (p := ⟨g + 1, 1, none⟩) (by show w.heap.size ≤ g + 1; omega) _) (p := ⟨g + 1, 2, none⟩) (by show w.heap.size ≤ g + 1; omega) _)
  · have HE := Lib.hid (show delT s k (d + 1) T = .mk 1 [(k : Int)] [] by unfold delT; rw [hdd]; rfl)
    clear hdd
    try rw [Bool.not_false]
    try rw [Bool.not_true]
    go_wp2_with fail
    refine bodyPost_ret (v := .agg #[.int .i64 1, .slice (some ⟨W3.heap.size, 0, none⟩) 1 1, .slice none 0 0]) ?_ rfl ⟨_, _, _, rfl, ?_, ?_⟩
    · simp [results, Try.results39, go_sem, o0, o1, o2, hol3]
    · rw [HE.out]
      refine ⟨rfl, by simp, by simp, ⟨some ⟨W3.heap.size, 0, none⟩, 1, rfl, fun j hj => ⟨W3.heap.size, 0, rfl, by omega, ?_⟩⟩, ⟨none, 0, rfl, fun k T hT => by simp at hT⟩⟩
      obtain rfl : j = 0 := by simpa using hj
      refine (cell_of_row _ _ 0 #[.int .i64 (k : Int)] 3 (0, 0) ?_)
      have := heap_alloc_new (((W3.setCell ⟨g + 1, 0, none⟩ (.int .i64 1)).setCell ⟨g + 1, 1, none⟩ (.slice (some ⟨W3.heap.size, 0, none⟩) 1 1)).setCell ⟨g + 1, 2, none⟩ (.slice none 0 0)) (.cells #[.int .i64 (k : Int)] 3)
      simpa using this
    · exact (balloc (bset (bset (bset HB3.out (p := ⟨g + 1, 0, none⟩) (by show w.heap.size ≤ g + 1; omega) _) (p := ⟨g + 1, 1, none⟩) (by show w.heap.size ≤ g + 1; omega) _) (p := ⟨g + 1, 2, none⟩) (by show w.heap.size ≤ g + 1; omega) _) _)

end Go.Proofs.Ytobdnepmjcbjeaa

namespace Go.Proofs.Ytobdnepmjcbjeaa
set_option linter.unusedVariables false
set_option linter.unusedSimpArgs false
open Go.RowKit

def mixL (s : Nat) (ms : List Mem) (k : Nat) : List Mem := (delM s ms).take k ++ ms.drop k

theorem mixL_len (s : Nat) (ms : List Mem) (k : Nat) : (mixL s ms k).length = ms.length := by
  unfold mixL
  rw [List.length_append, List.length_take, List.length_drop, delM_len]
  omega

theorem mixL_get {s k : Nat} {ms : List Mem} {m : Mem} (h : ms[k]? = some m) : (mixL s ms k)[k]? = some m := by
  have hl := (List.getElem?_eq_some_iff.1 h).1
  unfold mixL
  rw [List.getElem?_append_right (by rw [List.length_take, delM_len]; omega), List.length_take, delM_len, Nat.min_eq_left (by omega), Nat.sub_self, List.getElem?_drop]
  exact h

theorem mixL_set {s k : Nat} {ms : List Mem} {m : Mem} (h : ms[k]? = some m) : (mixL s ms k).set k (delOne s k m) = mixL s ms (k + 1) := by
  have hl := (List.getElem?_eq_some_iff.1 h).1
  have hm := (List.getElem?_eq_some_iff.1 h).2
  have e1 : ms.drop k = m :: ms.drop (k + 1) := by rw [← hm]; exact List.drop_eq_getElem_cons hl
  have e2 := delM_take (s := s) h
  have e3 : ((delM s ms).take k).length = k := by rw [List.length_take, delM_len]; omega
  unfold mixL
  rw [e1, e2, List.set_append_right _ _ (by omega), e3, Nat.sub_self, List.set_cons_zero, List.append_assoc]
  rfl

theorem mixL_same {s k : Nat} {ms : List Mem} {m : Mem} (h : ms[k]? = some m) (hd : delOne s k m = m) : mixL s ms (k + 1) = mixL s ms k := by
  rw [← mixL_set h, hd]
  have hg := mixL_get (s := s) h
  have hl := (List.getElem?_eq_some_iff.1 hg).1
  apply List.ext_getElem?
  intro i
  rcases (show i = k ∨ i ≠ k by omega) with rfl | hi
  · rw [List.getElem?_set_self hl, hg]
  · rw [List.getElem?_set_ne (by omega)]

/-- Another member in a row of members. -/
theorem GRow.put {Q : Nat → Prop} {B d gb n cap k : Nat} {W W' : World} {ms : List Mem} {m : Mem} {cs : List Value} {y0 y1 y2 : Value}
    (hk : k < ms.length) (hn : n = ms.length) (hown : W'.ownsRow B 39 4 (.slice (some ⟨gb, 0, none⟩) n cap) n cs)
    (hcs : ∀ j x, j ≠ k → ms[j]? = some x → ∃ x0 x1 x2, cs[j * 4]? = some (.bool x.1) ∧ cs[j * 4 + 1]? = some x0 ∧ cs[j * 4 + 2]? = some x1 ∧ cs[j * 4 + 3]? = some x2 ∧ TAt (fun b => Q b ∧ b ≠ gb) d W x0 x1 x2 x.2)
    (h0 : cs[k * 4]? = some (.bool m.1)) (h1 : cs[k * 4 + 1]? = some y0) (h2 : cs[k * 4 + 2]? = some y1) (h3 : cs[k * 4 + 3]? = some y2)
    (hT : TAt (fun b => Q b ∧ b ≠ gb) d W y0 y1 y2 m.2) (hfar : ∀ q, q ≠ gb → W'.heap[q]? = W.heap[q]?) : GRow Q B d W' (.slice (some ⟨gb, 0, none⟩) n cap) (ms.set k m) := by
  have up : ∀ {z0 z1 z2 : Value} {S : Tree}, TAt (fun b => Q b ∧ b ≠ gb) d W z0 z1 z2 S → TAt (fun b => Q b ∧ (Value.slice (some ⟨gb, 0, none⟩) n cap).ownBlock ≠ some b) d W' z0 z1 z2 S := fun h =>
    TAt.both (fun q _ hq => hfar q hq.2) (fun q _ hq => ⟨hq.1, fun e => hq.2 (by simp [Value.ownBlock] at e; omega)⟩) _ _ _ _ _ h
  refine ⟨cs, by rw [List.length_set, ← hn]; exact hown, fun j x hx => ?_⟩
  rcases Nat.lt_trichotomy j k with hj | hj | hj
  · rw [List.getElem?_set_ne (by omega)] at hx
    obtain ⟨x0, x1, x2, e0, e1, e2, e3, e4⟩ := hcs j x (by omega) hx
    exact ⟨x0, x1, x2, e0, e1, e2, e3, up e4⟩
  · subst hj
    rw [List.getElem?_set_self hk] at hx
    obtain rfl := Option.some.inj hx
    exact ⟨y0, y1, y2, h0, h1, h2, h3, up hT⟩
  · rw [List.getElem?_set_ne (by omega)] at hx
    obtain ⟨x0, x1, x2, e0, e1, e2, e3, e4⟩ := hcs j x (by omega) hx
    exact ⟨x0, x1, x2, e0, e1, e2, e3, up e4⟩

theorem GRow.open' {Q : Nat → Prop} {B d k : Nat} {W : World} {v : Value} {ms : List Mem} (h : GRow Q B d W v ms) (hk : k < ms.length) : ∃ gb cap cs, v = .slice (some ⟨gb, 0, none⟩) ms.length cap ∧ B ≤ gb ∧ W.ownsRow B 39 4 (.slice (some ⟨gb, 0, none⟩) ms.length cap) ms.length cs ∧
    ∀ j x, ms[j]? = some x → ∃ x0 x1 x2, cs[j * 4]? = some (.bool x.1) ∧ cs[j * 4 + 1]? = some x0 ∧ cs[j * 4 + 2]? = some x1 ∧ cs[j * 4 + 3]? = some x2 ∧ TAt (fun b => Q b ∧ b ≠ gb) d W x0 x1 x2 x.2 := by
  obtain ⟨cs, h1, h2⟩ := h
  have h1' := h1
  rcases h1.2 with ⟨hv, h0⟩ | ⟨g, cap, cur, hv, hb, _⟩
  · omega
  · subst hv
    refine ⟨g, cap, cs, rfl, hb, h1', fun j x hx => ?_⟩
    obtain ⟨x0, x1, x2, e0, e1, e2, e3, e4⟩ := h2 j x hx
    exact ⟨x0, x1, x2, e0, e1, e2, e3, e4.imp (fun q _ hq => ⟨hq.1, fun e => hq.2 (by rw [e]; rfl)⟩)⟩

/-- The world of Delete: the argument's box g, the result g + 1, the copy in box r. -/
structure DelW (w : World) (g r : Nat) (v0 v : Value) (ms L : List Mem) (W : World) : Prop where
  box : W.heap[g]? = some (.cells #[v0] 24 (0, 0))
  res : W.heap[g + 1]? = some (.cells #[.slice none 0 0] 24 (0, 0))
  out : W.heap[r]? = some (.cells #[v] 24 (0, 0))
  row : GRow (fun q => g + 2 ≤ q) (g + 2) 2 W v L
  old : MemsAt (fun q => q < g) 2 W v0 ms
  below : Below w.heap.size w W

theorem DelW.bel {w W W' : World} {g r : Nat} {v0 v : Value} {ms L : List Mem} (h : DelW w g r v0 v ms L W) (hb : Below W.heap.size W W') : DelW w g r v0 v ms L W' :=
  ⟨(hb.block _ (Array.getElem?_eq_some_iff.1 h.box).1).trans h.box, (hb.block _ (Array.getElem?_eq_some_iff.1 h.res).1).trans h.res, (hb.block _ (Array.getElem?_eq_some_iff.1 h.out).1).trans h.out, h.row.keep (fun q _ hq => hb.block q hq), h.old.below hb, bstep h.below hb⟩

/-- What changes the row's block alone. -/
theorem DelW.put {w W W' : World} {g r gb : Nat} {v0 v : Value} {ms L L' : List Mem} (h : DelW w g r v0 v ms L W) (hg : w.heap.size = g) (hgb : g + 2 ≤ gb) (hr : r ≠ gb) (hfar : ∀ q, q ≠ gb → W'.heap[q]? = W.heap[q]?) (hrow : GRow (fun q => g + 2 ≤ q) (g + 2) 2 W' v L') (hbel : Below w.heap.size w W') : DelW w g r v0 v ms L' W' :=
  ⟨(hfar g (by omega)).trans h.box, (hfar (g + 1) (by omega)).trans h.res, (hfar r hr).trans h.out, hrow, h.old.both (fun k _ hk => hfar k (by omega)) (fun k _ hk => hk), hbel⟩

/-- A member is stored whole. -/
theorem DelW.store4 {w W : World} {g r gb n cap k : Nat} {v0 : Value} {ms L : List Mem} {m : Mem} {y0 y1 y2 : Value} (h : DelW w g r v0 (.slice (some ⟨gb, 0, none⟩) n cap) ms L W) (hg : w.heap.size = g) (hr : r ≠ gb) (hk : k < L.length)
    (hT : TAt (fun q => g + 2 ≤ q ∧ q ≠ gb) 2 W y0 y1 y2 m.2) : DelW w g r v0 (.slice (some ⟨gb, 0, none⟩) n cap) ms (L.set k m) ((((W.setCell ⟨gb, k * 4, none⟩ (.bool m.1)).setCell ⟨gb, k * 4 + 1, none⟩ y0).setCell ⟨gb, k * 4 + 2, none⟩ y1).setCell ⟨gb, k * 4 + 3, none⟩ y2) := by
  obtain ⟨gb', cap', cs, hv, hgb, hown, hcs⟩ := h.row.open' hk
  injection hv with e1 e2 e3
  injection e1 with e1
  injection e1 with e1 _ _
  subst e1 e2 e3
  have hl := hown.1
  have far : ∀ q, q ≠ gb → ((((W.setCell ⟨gb, k * 4, none⟩ (.bool m.1)).setCell ⟨gb, k * 4 + 1, none⟩ y0).setCell ⟨gb, k * 4 + 2, none⟩ y1).setCell ⟨gb, k * 4 + 3, none⟩ y2).heap[q]? = W.heap[q]? := fun q hq =>
    (Below.heap_setCell _ _ _ _ (by simpa using hq)).trans ((Below.heap_setCell _ _ _ _ (by simpa using hq)).trans ((Below.heap_setCell _ _ _ _ (by simpa using hq)).trans (Below.heap_setCell _ _ _ _ (by simpa using hq))))
  refine h.put hg hgb hr far (GRow.put hk rfl ((((hown.stored (k * 4) (.bool m.1)).1.stored (k * 4 + 1) y0).1.stored (k * 4 + 2) y1).1.stored (k * 4 + 3) y2).1 (fun j x hj hx => ?_) ?_ ?_ ?_ ?_ hT far) ?_
  · obtain ⟨x0, x1, x2, a0, a1, a2, a3, a4⟩ := hcs j x hx
    refine ⟨x0, x1, x2, ?_, ?_, ?_, ?_, a4⟩
    · rw [List.getElem?_set_ne (by omega), List.getElem?_set_ne (by omega), List.getElem?_set_ne (by omega), List.getElem?_set_ne (by omega)]; exact a0
    · rw [List.getElem?_set_ne (by omega), List.getElem?_set_ne (by omega), List.getElem?_set_ne (by omega), List.getElem?_set_ne (by omega)]; exact a1
    · rw [List.getElem?_set_ne (by omega), List.getElem?_set_ne (by omega), List.getElem?_set_ne (by omega), List.getElem?_set_ne (by omega)]; exact a2
    · rw [List.getElem?_set_ne (by omega), List.getElem?_set_ne (by omega), List.getElem?_set_ne (by omega), List.getElem?_set_ne (by omega)]; exact a3
  · rw [List.getElem?_set_ne (by omega), List.getElem?_set_ne (by omega), List.getElem?_set_ne (by omega), List.getElem?_set_self (by omega)]
  · rw [List.getElem?_set_ne (by omega), List.getElem?_set_ne (by omega), List.getElem?_set_self (by first | omega | (simp; omega))]
  · rw [List.getElem?_set_ne (by omega), List.getElem?_set_self (by simp; omega)]
  · rw [List.getElem?_set_self (by simp; omega)]
  · exact bset (bset (bset (bset h.below (p := ⟨gb, k * 4, none⟩) (by show w.heap.size ≤ gb; omega) _) (p := ⟨gb, k * 4 + 1, none⟩) (by show w.heap.size ≤ gb; omega) _) (p := ⟨gb, k * 4 + 2, none⟩) (by show w.heap.size ≤ gb; omega) _) (p := ⟨gb, k * 4 + 3, none⟩) (by show w.heap.size ≤ gb; omega) _

/-- A declared member's trust is stored. -/
theorem DelW.store3 {w W : World} {g r gb n cap k : Nat} {v0 : Value} {ms L : List Mem} {m : Mem} {y0 y1 y2 : Value} (h : DelW w g r v0 (.slice (some ⟨gb, 0, none⟩) n cap) ms L W) (hg : w.heap.size = g) (hr : r ≠ gb) (hk : k < L.length) (hb : ∀ x, L[k]? = some x → x.1 = m.1)
    (hT : TAt (fun q => g + 2 ≤ q ∧ q ≠ gb) 2 W y0 y1 y2 m.2) : DelW w g r v0 (.slice (some ⟨gb, 0, none⟩) n cap) ms (L.set k m) (((W.setCell ⟨gb, k * 4 + 1, none⟩ y0).setCell ⟨gb, k * 4 + 2, none⟩ y1).setCell ⟨gb, k * 4 + 3, none⟩ y2) := by
  obtain ⟨gb', cap', cs, hv, hgb, hown, hcs⟩ := h.row.open' hk
  injection hv with e1 e2 e3
  injection e1 with e1
  injection e1 with e1 _ _
  subst e1 e2 e3
  have hl := hown.1
  have far : ∀ q, q ≠ gb → (((W.setCell ⟨gb, k * 4 + 1, none⟩ y0).setCell ⟨gb, k * 4 + 2, none⟩ y1).setCell ⟨gb, k * 4 + 3, none⟩ y2).heap[q]? = W.heap[q]? := fun q hq =>
    (Below.heap_setCell _ _ _ _ (by simpa using hq)).trans ((Below.heap_setCell _ _ _ _ (by simpa using hq)).trans (Below.heap_setCell _ _ _ _ (by simpa using hq)))
  refine h.put hg hgb hr far (GRow.put hk rfl (((hown.stored (k * 4 + 1) y0).1.stored (k * 4 + 2) y1).1.stored (k * 4 + 3) y2).1 (fun j x hj hx => ?_) ?_ ?_ ?_ ?_ hT far) ?_
  · obtain ⟨x0, x1, x2, a0, a1, a2, a3, a4⟩ := hcs j x hx
    refine ⟨x0, x1, x2, ?_, ?_, ?_, ?_, a4⟩
    · rw [List.getElem?_set_ne (by omega), List.getElem?_set_ne (by omega), List.getElem?_set_ne (by omega)]; exact a0
    · rw [List.getElem?_set_ne (by omega), List.getElem?_set_ne (by omega), List.getElem?_set_ne (by omega)]; exact a1
    · rw [List.getElem?_set_ne (by omega), List.getElem?_set_ne (by omega), List.getElem?_set_ne (by omega)]; exact a2
    · rw [List.getElem?_set_ne (by omega), List.getElem?_set_ne (by omega), List.getElem?_set_ne (by omega)]; exact a3
  · rw [List.getElem?_set_ne (by omega), List.getElem?_set_ne (by omega), List.getElem?_set_ne (by omega)]
    obtain ⟨x0, x1, x2, a0, _⟩ := hcs k _ (List.getElem?_eq_getElem hk)
    rw [a0, hb _ (List.getElem?_eq_getElem hk)]
  · rw [List.getElem?_set_ne (by omega), List.getElem?_set_ne (by omega), List.getElem?_set_self (by first | omega | (simp; omega))]
  · rw [List.getElem?_set_ne (by omega), List.getElem?_set_self (by simp; omega)]
  · rw [List.getElem?_set_self (by simp; omega)]
  · exact bset (bset (bset h.below (p := ⟨gb, k * 4 + 1, none⟩) (by show w.heap.size ≤ gb; omega) _) (p := ⟨gb, k * 4 + 2, none⟩) (by show w.heap.size ≤ gb; omega) _) (p := ⟨gb, k * 4 + 3, none⟩) (by show w.heap.size ≤ gb; omega) _

/-- The cells of the row at a member. -/
theorem DelW.cells {w W : World} {g r gb n cap k : Nat} {v0 : Value} {ms L : List Mem} (h : DelW w g r v0 (.slice (some ⟨gb, 0, none⟩) n cap) ms L W) (hk : k < L.length) :
    (∃ u, W.cell? ⟨gb, k * 4, none⟩ = some u) ∧ (∃ u, W.cell? ⟨gb, k * 4 + 1, none⟩ = some u) ∧ (∃ u, W.cell? ⟨gb, k * 4 + 2, none⟩ = some u) ∧ (∃ u, W.cell? ⟨gb, k * 4 + 3, none⟩ = some u) ∧ (∀ j, W.frozen? ⟨gb, j, none⟩ = false) ∧ gb < W.heap.size := by
  obtain ⟨gb', cap', cs, hv, hgb, hown, hcs⟩ := h.row.open' hk
  injection hv with e1 e2 e3
  injection e1 with e1
  injection e1 with e1 _ _
  subst e1 e2 e3
  have hl := hown.1
  refine ⟨⟨_, (hown.cellAt (k * 4) (by omega)).trans (List.getElem?_eq_getElem (by omega))⟩, ⟨_, (hown.cellAt (k * 4 + 1) (by omega)).trans (List.getElem?_eq_getElem (by omega))⟩, ⟨_, (hown.cellAt (k * 4 + 2) (by omega)).trans (List.getElem?_eq_getElem (by omega))⟩, ⟨_, (hown.cellAt (k * 4 + 3) (by omega)).trans (List.getElem?_eq_getElem (by omega))⟩, hown.frozenAt, (hown.lt gb rfl).2⟩

set_option maxRecDepth 100000 in
set_option maxHeartbeats 8000000 in
theorem pdelete_run (P : Nat → Prop) (ms : List Mem) (v : Value) (s : Nat) (w : World) (hl : ms.length ≤ 10) (hs : s < 1024) (h : MemsAt P 2 w v ms) (hok : MemsOk ms.length ms) :
    Calls Try.prog 21 #[.agg #[v], .int .i64 (s : Int)] w fun e w' => ∃ v', e = .returned (.agg #[v']) ∧ MemsAt (fun b => w.heap.size ≤ b) 2 w' v' (delM s ms) ∧ Below w.heap.size w w' := by
  obtain ⟨A, c, rfl⟩ := h.slice
  have hsv := Lib.hid (show setB (s : Int) = true from setB_iff.2 ⟨by omega, by omega⟩)
  have hb2 : Below w.heap.size w ((w.alloc (.cells #[.slice A ms.length c] 24)).alloc (.cells #[.slice none 0 0] 24)) := balloc (balloc (bref w) _) _
  have k0 : ((w.alloc (.cells #[.slice A ms.length c] 24)).alloc (.cells #[.slice none 0 0] 24)).heap[w.heap.size]? = some (.cells #[.slice A ms.length c] 24 (0, 0)) := alloc_on (alloc_at rfl)
  have k1 : ((w.alloc (.cells #[.slice A ms.length c] 24)).alloc (.cells #[.slice none 0 0] 24)).heap[w.heap.size + 1]? = some (.cells #[.slice none 0 0] 24 (0, 0)) := alloc_at (alloc_sz _ _)
  have hsz : ((w.alloc (.cells #[.slice A ms.length c] 24)).alloc (.cells #[.slice none 0 0] 24)).heap.size = w.heap.size + 2 := by rw [alloc_sz, alloc_sz]
  have H := Lib.hid ((h.both (Q := fun b => b < w.heap.size) (fun _ _ _ => rfl) (fun k hk _ => hk)).below hb2)
  have HB := Lib.hid hb2
  have K0 := Lib.hid k0
  have K1 := Lib.hid k1
  have HOK := Lib.hid hok
  clear h hb2 k0 k1 hok
  go_enter Try.func21, Try.ntmps21
  go_upto_region 1 with fail
  generalize ((w.alloc (.cells #[.slice A ms.length c] 24)).alloc (.cells #[.slice none 0 0] 24)) = W1 at *
  generalize hg : w.heap.size = g at *
  have HG := Lib.hid hg
  clear hg
  have c0 : W1.cell? ⟨g, 0, none⟩ = some (.slice A ms.length c) := cell_of_row _ _ 0 _ _ (0, 0) K0.out
  go_wp2_with fail
  refine (pconfig_run 2 _ _ ms _ hl H.out).mono ?_
  rintro e W2 ⟨v', rfl, hR, hb⟩
  have hms := hR.mems (P := fun _ => True) (fun _ _ => trivial)
  obtain ⟨A2, c2, rfl⟩ := hms.slice
  have hbA := balloc hb (.cells #[.slice A2 ms.length c2] 24)
  have HD := Lib.hid (show DelW w g W2.heap.size (.slice A ms.length c) (.slice A2 ms.length c2) ms (mixL s ms 0) (W2.alloc (.cells #[.slice A2 ms.length c2] 24)) from by
    refine ⟨(hbA.block g (by omega)).trans K0.out, (hbA.block (g + 1) (by omega)).trans K1.out, alloc_at rfl, ?_, H.out.below hbA, ?_⟩
    · have h1 := hR.keep (W' := W2.alloc (.cells #[.slice A2 ms.length c2] 24)) (fun q _ hq => Below.heap_alloc _ _ _ hq)
      obtain ⟨cs, h3, h4⟩ := h1
      rw [show mixL s ms 0 = ms from rfl]
      exact ⟨cs, own_down h3 (by omega), fun k m hm => by
        obtain ⟨x0, x1, x2, e0, e1, e2, e3, e4⟩ := h4 k m hm
        exact ⟨x0, x1, x2, e0, e1, e2, e3, e4.imp (fun q _ hP => ⟨by have := hP.1; omega, hP.2⟩)⟩⟩
    · have h1 := HB.out
      rw [← HG.out] at h1
      exact h1.trans (hbA.mono (by have := HG.out; omega)))
  have hrl : W2.heap.size < (W2.alloc (.cells #[.slice A2 ms.length c2] 24)).heap.size := by rw [alloc_sz]; omega
  have hbs := hb.size
  have HNE := Lib.hid (show ∀ gb, (Value.slice A2 ms.length c2).ownBlock = some gb → gb < W2.heap.size from fun gb hgb => (hR.own gb hgb).2)
  clear hms hR hb hbA c0
  go_upto_region 2 with fail
  generalize W2.alloc (.cells #[.slice A2 ms.length c2] 24) = W3 at *
  generalize W2.heap.size = r at *
  go_wp2_with fail
  refine (setValid_run _ _).mono ?_
  rintro e w2 ⟨rfl, rfl⟩
  rw [hsv.out]
  have c0 : W3.cell? ⟨g, 0, none⟩ = some (.slice A ms.length c) := cell_of_row _ _ 0 _ _ (0, 0) HD.out.box
  go_wp2_with fail
  clear c0
  go_loopw [17] (fun t W => ∃ k : Nat, k ≤ ms.length ∧ t = .int .i64 k ∧ Hid (DelW w g r (.slice A ms.length c) (.slice A2 ms.length c2) ms (mixL s ms k) W)) (fun t _ => ms.length - (intOf t).toNat)
  case atStart => exact ⟨0, Nat.zero_le _, rfl, HD⟩
  case round =>
    clear HD hrl
    obtain ⟨k, hk, rfl, hD⟩ := hrel
    by_cases hlt : k < ms.length
    · obtain ⟨m, hm⟩ : ∃ m, ms[k]? = some m := ⟨_, List.getElem?_eq_getElem hlt⟩
      obtain ⟨A', c', hv, hc⟩ := hD.out.old
      injection hv with hv1 hv2 hv3
      subst hv1
      obtain ⟨b, off, x0, x1, x2, rfl, hPb, e0, e1, e2, e3, hTk⟩ := hc k m hm
      obtain ⟨t', A1, n1, c1, B1, m1, c1', rfl, rfl, rfl⟩ := hTk.form
      obtain ⟨bm, T⟩ := m
      have hM := HOK.out _ (List.mem_of_getElem? hm)
      have HM1 := Lib.hid hM.1
      have HM2 := Lib.hid hM.2
      have HX := Lib.hid hm
      have hkk : k < 10 := by omega
      clear hc hM hm hv2 hv3
      have hbl := cell_lt e0
      have hbx : (wr.alloc (.cells #[.bool bm, .int .i64 t', .slice A1 n1 c1, .slice B1 m1 c1'] 39)).heap[wr.heap.size]? = some (.cells #[.bool bm, .int .i64 t', .slice A1 n1 c1, .slice B1 m1 c1'] 39 (0, 0)) := alloc_at rfl
      have hbA := balloc (bref wr) (.cells #[.bool bm, .int .i64 t', .slice A1 n1 c1, .slice B1 m1 c1'] 39)
      have hD4 := Lib.hid (hD.out.bel hbA)
      have HT4 := Lib.hid ((hTk.below hbA))
      have hrw : r < wr.heap.size := (Array.getElem?_eq_some_iff.1 hD.out.out).1
      have hgw : g + 1 < wr.heap.size := (Array.getElem?_eq_some_iff.1 hD.out.res).1
      clear hbA hTk hD
      go_upto_region 7 with fail
      generalize wr.alloc (.cells #[.bool bm, .int .i64 t', .slice A1 n1 c1, .slice B1 m1 c1'] 39) = W4 at *
      generalize wr.heap.size = r7 at *
      clear e0 e1 e2 e3 hbl
      obtain ⟨gb, cap, cs0, hv, hgb, hown, hcs⟩ := hD4.out.row.open' (by rw [mixL_len]; exact hlt : k < (mixL s ms k).length)
      injection hv with hv1 hv2 hv3
      subst hv1
      have hgr : gb < r := HNE.out gb rfl
      clear hown hcs hv2 hv3
      have hkl : k < (mixL s ms k).length := by rw [mixL_len]; exact hlt
      have q0 : W4.cell? ⟨r, 0, none⟩ = some (.slice (some ⟨gb, 0, none⟩) ms.length c2) := cell_of_row _ _ 0 _ _ (0, 0) hD4.out.out
      have hbit := hasB_bit hs hkk
      cases hb : s.testBit k
      · rw [hb] at hbit
        have f0 : W4.cell? ⟨r7, 0, none⟩ = some (.bool bm) := cell_of_row _ _ 0 _ _ (0, 0) hbx
        cases bm
        · have hsame := mixL_same (s := s) HX.out (by unfold delOne; rw [hbit]; rfl)
          go_wp2_with fail
          refine (has_run _ _ _).mono ?_
          rintro e w2 ⟨rfl, rfl⟩
          rw [hbit]
          go_wp2_with fail
          go_roundw
          case rel => exact ⟨k + 1, by omega, by go_num, by rw [hsame]; exact hD4⟩
          case measure => simp [intOf]; omega
        · have f1 : W4.cell? ⟨r7, 1, none⟩ = some (.int .i64 t') := cell_of_row _ _ 1 _ _ (0, 0) hbx
          have f2 : W4.cell? ⟨r7, 2, none⟩ = some (.slice A1 n1 c1) := cell_of_row _ _ 2 _ _ (0, 0) hbx
          have f3 : W4.cell? ⟨r7, 3, none⟩ = some (.slice B1 m1 c1') := cell_of_row _ _ 3 _ _ (0, 0) hbx
          have HWT := Lib.hid (HM1.out rfl)
          go_wp2_with fail
          refine (has_run _ _ _).mono ?_
          rintro e w2 ⟨rfl, rfl⟩
          rw [hbit]
          go_upto_region 10 with fail
          have hDd := Lib.hid (hD4.out.bel (W' := W4.drew) ⟨rfl, rfl, rfl, Nat.le_refl _, fun _ _ => rfl⟩)
          have HTd := Lib.hid (HT4.out.below (w' := W4.drew) ⟨rfl, rfl, rfl, Nat.le_refl _, fun _ _ => rfl⟩)
          go_region_with ((go_at_call 39; refine (delT_run _ ms.length s k 1 T _ _ _ _ hs (by exact HTd.out) HWT.out).mono ?_; rintro e W5 ⟨y0, y1, y2, rfl, hT5, hb5⟩; obtain ⟨t2, E1, n2, d1, E2, n3, d2, rfl, rfl, rfl⟩ := hT5.form; have hD5 := Lib.hid (hDd.out.bel (W' := W5) hb5); have HT5 := Lib.hid hT5; have q5 := cell_of_row W5 r 0 _ _ (0, 0) hD5.out.out; obtain ⟨⟨u0, p0⟩, ⟨u1, p1⟩, ⟨u2, p2⟩, ⟨u3, p3⟩, hfz, hgl⟩ := hD5.out.cells hkl; have z1 := hfz (k * 4 + 1); have z2 := hfz (k * 4 + 2); have z3 := hfz (k * 4 + 3)))
          all_goals
            have hset := hD5.out.store3 (k := k) (m := (true, delT s k 2 T)) HG.out (by omega) hkl (fun x hx => by rw [mixL_get HX.out] at hx; rw [← Option.some.inj hx]) (HT5.out.imp (fun q _ hq => by
              have h1 : W4.heap.size ≤ q := hq
              have h2 : r < W4.heap.size := (Array.getElem?_eq_some_iff.1 hD4.out.out).1
              have h3 : g + 1 < W4.heap.size := (Array.getElem?_eq_some_iff.1 hD4.out.res).1
              omega))
            rw [show (mixL s ms k).set k (true, delT s k 2 T) = mixL s ms (k + 1) by rw [← mixL_set HX.out]; unfold delOne; rw [hbit]; rfl] at hset
            have HSET := Lib.hid hset
            clear hset hfz
            go_wp2_with fail
            go_roundw
            case rel => exact ⟨k + 1, by omega, by go_num, by first | exact HSET | exact Lib.hid (HSET.out.bel ⟨rfl, rfl, rfl, Nat.le_refl _, fun _ _ => rfl⟩)⟩
            case measure => simp [intOf]; omega
      · rw [hb] at hbit
        obtain ⟨⟨u0, p0⟩, ⟨u1, p1⟩, ⟨u2, p2⟩, ⟨u3, p3⟩, hfz, hgl⟩ := hD4.out.cells hkl
        have z0 := hfz (k * 4)
        have z1 := hfz (k * 4 + 1)
        have z2 := hfz (k * 4 + 2)
        have z3 := hfz (k * 4 + 3)
        have hset := hD4.out.store4 (k := k) (m := (false, .mk 0 [] [])) (y0 := .int .i64 0) (y1 := .slice none 0 0) (y2 := .slice none 0 0) HG.out (by omega) hkl (TAt.empty _ 1 _ none none 0 0)
        rw [show (mixL s ms k).set k (false, .mk 0 [] []) = mixL s ms (k + 1) by rw [← mixL_set HX.out]; unfold delOne; rw [hbit]; rfl] at hset
        have HSET := Lib.hid hset
        clear hset hfz
        go_wp2_with fail
        refine (has_run _ _ _).mono ?_
        rintro e w2 ⟨rfl, rfl⟩
        rw [hbit]
        go_wp2_with fail
        go_roundw
        case rel => exact ⟨k + 1, by omega, by go_num, HSET⟩
        case measure => simp [intOf]; omega
    · obtain rfl : k = ms.length := by omega
      have hfull : mixL s ms ms.length = delM s ms := by
        unfold mixL
        rw [List.drop_length, List.append_nil, ← delM_len s ms, List.take_length]
      rw [hfull] at hD
      have z0 : wr.cell? ⟨g + 1, 0, none⟩ = some (.slice none 0 0) := cell_of_row _ _ 0 _ _ (0, 0) hD.out.res
      have zf : wr.frozen? ⟨g + 1, 0, none⟩ = false := by simp [World.frozen?, hD.out.res]
      have q0 : wr.cell? ⟨r, 0, none⟩ = some (.slice A2 ms.length c2) := cell_of_row _ _ 0 _ _ (0, 0) hD.out.out
      have hzl := cell_lt z0
      go_wp2_with fail
      refine bodyPost_ret (v := .agg #[.slice A2 ms.length c2]) ?_ rfl ⟨_, rfl, ?_, ?_⟩
      · simp [results, Try.results21, go_sem, z0]
      · have hk := hD.out.row.keep (W' := wr.setCell ⟨g + 1, 0, none⟩ (.slice A2 ms.length c2)) (fun q hq _ => Below.heap_setCell _ _ _ _ (by simp; omega))
        exact hk.mems (fun q hq => by have := HG.out; omega)
      · exact bset hD.out.below (p := ⟨g + 1, 0, none⟩) (by show w.heap.size ≤ g + 1; have := HG.out; omega) _

end Go.Proofs.Ytobdnepmjcbjeaa

namespace Go.Proofs.Ytobdnepmjcbjeaa
set_option linter.unusedVariables false
set_option linter.unusedSimpArgs false
open Go.RowKit

set_option maxRecDepth 100000 in
set_option maxHeartbeats 400000 in
theorem dmembers_run (A : Option Addr) (n c : Nat) (hn : n ≤ 10) (w : World) : Calls Try.prog 35 #[.agg #[.slice A n c]] w fun e w' => e = .returned (.int .i64 ((2 ^ n - 1 : Nat) : Int)) ∧ Below w.heap.size w w' := by
  have hp := pow11 n (by omega)
  have hp1 : 1 ≤ 2 ^ n := Nat.one_le_pow _ _ (by omega)
  have hp2 : 2 ^ n ≤ 2 ^ 10 := Nat.pow_le_pow_right (by omega) hn
  obtain ⟨N, hN⟩ : ∃ N, 2 ^ n = N := ⟨_, rfl⟩
  rw [hN] at hp hp1 hp2 ⊢
  clear hN
  have hw1 : wrap64 ((N : Int) - 1) = (N : Int) - 1 := by unfold wrap64; omega
  have hn64 : (n : Int) < 64 := by omega
  have HE := Lib.hid (show ((N - 1 : Nat) : Int) = (N : Int) - 1 by omega)
  go_enter Try.func35, Try.ntmps35
  go_wp2_with fail
  go_ret
  exact ⟨by rw [HE.out]; rfl, balloc (bref _) _⟩

theorem minS_zero {s n : Nat} (hs : s < 2 ^ n) : minS s (2 ^ n - 1) = 0 := by
  apply Nat.eq_of_testBit_eq
  intro k
  rw [minS_bit, Nat.testBit_two_pow_sub_one, Nat.zero_testBit]
  rcases Nat.lt_or_ge k n with h | h
  · simp [h]
  · rw [Nat.testBit_lt_two_pow (Nat.lt_of_lt_of_le hs (Nat.pow_le_pow_right (by decide) h))]; rfl

set_option maxRecDepth 100000 in
set_option maxHeartbeats 2000000 in
theorem validSet_run (P : Nat → Prop) (ms : List Mem) (v : Value) (s : Nat) (w : World) (hl : ms.length ≤ 10) (hs : s < 2 ^ ms.length) (h : MemsAt P 2 w v ms) (hok : MemsOk ms.length ms) :
    Calls Try.prog 19 #[.agg #[v], .int .i64 (s : Int)] w fun e w' => e = .returned (.int .i64 0) ∧ Below w.heap.size w w' := by
  obtain ⟨A, c, rfl⟩ := h.slice
  have hb1 : Below w.heap.size w (w.alloc (.cells #[.slice A ms.length c] 24)) := balloc (bref w) _
  have k0 : (w.alloc (.cells #[.slice A ms.length c] 24)).heap[w.heap.size]? = some (.cells #[.slice A ms.length c] 24 (0, 0)) := alloc_at rfl
  have hp2 : 2 ^ ms.length ≤ 2 ^ 10 := Nat.pow_le_pow_right (by omega) hl
  have hs10 : s < 1024 := by omega
  have hm10 : 2 ^ ms.length - 1 < 1024 := by omega
  have han := andNot_nat s (2 ^ ms.length - 1) hs10 hm10
  rw [show s ^^^ (s &&& (2 ^ ms.length - 1)) = 0 from minS_zero hs] at han
  have HMR := Lib.hid (fun W => dmembers_run A ms.length c hl W)
  obtain ⟨M, hM⟩ : ∃ M, 2 ^ ms.length - 1 = M := ⟨_, rfl⟩
  rw [hM] at han HMR hm10
  have H := Lib.hid (h.below hb1)
  have HB := Lib.hid hb1
  have K0 := Lib.hid k0
  clear h hb1 k0 hM hp2 hs
  go_enter Try.func19, Try.ntmps19
  go_upto_region 1 with fail
  generalize w.alloc (.cells #[.slice A ms.length c] 24) = W1 at *
  generalize hg : w.heap.size = g at *
  have HG := Lib.hid hg
  clear hg
  have c0 : W1.cell? ⟨g, 0, none⟩ = some (.slice A ms.length c) := cell_of_row _ _ 0 _ _ (0, 0) K0.out
  have HBw := Lib.hid (show Below w.heap.size w W1 by rw [HG.out]; exact HB.out)
  have hs0 : ¬ (s : Int) < 0 := by omega
  go_wp2_with fail
  refine (cvalid_run P ms _ _ hl H.out hok).mono ?_
  rintro e W2 ⟨rfl, hb2⟩
  have c2 := (hb2.cell (cell_lt c0)).trans c0
  have HB2 := Lib.hid (bstep HBw.out hb2)
  clear hb2 c0
  go_wp2_with fail
  refine (HMR.out _).mono ?_
  rintro e W3 ⟨rfl, hb3⟩
  have HB3 := Lib.hid (bstep HB2.out hb3)
  clear hb3 c2
  go_wp2_with fail
  go_ret
  exact ⟨rfl, HB3.out⟩

/-- Does s split? -/
def Spl (ms : List Mem) (s : Nat) : Prop := ∃ t, t < 2 ^ ms.length ∧ Apart 2 (delM s ms) t

def SplOk (ms : List Mem) (s : Nat) (e : Ending) : Prop := ∃ b : Bool, e = .returned (.tuple #[.bool b, .int .i64 0]) ∧ (b = true ↔ Spl ms s)

set_option maxRecDepth 100000 in
set_option maxHeartbeats 2000000 in
theorem splits_run (P : Nat → Prop) (ms : List Mem) (v : Value) (s : Nat) (w : World) (hl : ms.length ≤ 10) (hs : s < 2 ^ ms.length) (h : MemsAt P 2 w v ms) (hok : MemsOk ms.length ms) :
    Calls Try.prog 11 #[.agg #[v], .int .i64 (s : Int)] w fun e w' => SplOk ms s e ∧ Below w.heap.size w w' := by
  obtain ⟨A, c, rfl⟩ := h.slice
  have hb1 : Below w.heap.size w (w.alloc (.cells #[.slice A ms.length c] 24)) := balloc (bref w) _
  have k0 : (w.alloc (.cells #[.slice A ms.length c] 24)).heap[w.heap.size]? = some (.cells #[.slice A ms.length c] 24 (0, 0)) := alloc_at rfl
  have hp2 : 2 ^ ms.length ≤ 2 ^ 10 := Nat.pow_le_pow_right (by omega) hl
  have hs10 : s < 1024 := by omega
  have H := Lib.hid (h.below hb1)
  have HB := Lib.hid hb1
  have K0 := Lib.hid k0
  have HOK := Lib.hid hok
  have HOKD := Lib.hid (delM_ok (s := s) hok)
  have HDL := Lib.hid (delM_len s ms)
  clear h hb1 k0 hok
  go_enter Try.func11, Try.ntmps11
  go_upto_region 1 with fail
  generalize w.alloc (.cells #[.slice A ms.length c] 24) = W1 at *
  generalize hg : w.heap.size = g at *
  have HG := Lib.hid hg
  clear hg
  have c0 : W1.cell? ⟨g, 0, none⟩ = some (.slice A ms.length c) := cell_of_row _ _ 0 _ _ (0, 0) K0.out
  have HBw := Lib.hid (show Below w.heap.size w W1 by rw [HG.out]; exact HB.out)
  go_wp2_with fail
  refine (validSet_run P ms _ s _ hl hs H.out HOK.out).mono ?_
  rintro e W2 ⟨rfl, hb2⟩
  have c2 := (hb2.cell (cell_lt c0)).trans c0
  have HB2 := Lib.hid (bstep HBw.out hb2)
  have H2 := Lib.hid (H.out.below hb2)
  clear hb2 c0
  go_wp2_with fail
  refine (pdelete_run _ ms _ s _ hl hs10 H2.out HOK.out).mono ?_
  rintro e W3 ⟨v3, rfl, hX, hb3⟩
  have HX := Lib.hid hX
  have HB3 := Lib.hid (bstep HB2.out hb3)
  clear hb3 c2 hX
  go_wp2_with fail
  refine (holds12_run _ (delM s ms) _ _ (by rw [HDL.out]; exact hl) HX.out HOKD.out).mono ?_
  rintro e W4 ⟨hh, hb4⟩
  have HB4 := Lib.hid (bstep HB3.out hb4)
  clear hb4
  rcases hh with ⟨rfl, hno⟩ | ⟨rfl, hyes⟩
  · have HN := Lib.hid (show SplOk ms s (.returned (.tuple #[.bool false, .int .i64 0])) from ⟨false, rfl, by
      rw [HDL.out] at hno
      simp only [Bool.false_eq_true, false_iff]
      rintro ⟨t, h1, h2⟩
      exact hno t h1 h2⟩)
    clear hno
    go_wp2_with fail
    go_ret2
    exact ⟨HN.out, HB4.out⟩
  · have HN := Lib.hid (show SplOk ms s (.returned (.tuple #[.bool true, .int .i64 0])) from ⟨true, rfl, by
      rw [HDL.out] at hyes
      simpa [Spl] using hyes⟩)
    clear hyes
    go_wp2_with fail
    go_ret2
    exact ⟨HN.out, HB4.out⟩

end Go.Proofs.Ytobdnepmjcbjeaa

namespace Go.Proofs.Ytobdnepmjcbjeaa
set_option linter.unusedVariables false
set_option linter.unusedSimpArgs false
open Go.RowKit

def orI (x y : Int) : Int := if x = 0 then y else x

def cmpI (a b : Int) : Int := if a < b then -1 else if b < a then 1 else 0

set_option maxHeartbeats 400000 in
theorem cmp_any (a b : Int) (w : World) :
    Calls Try.prog 59 #[.int .i64 a, .int .i64 b] w fun e w' => e = .returned (.int .i64 (cmpI a b)) ∧ w = w' := by
  rcases Int.lt_trichotomy a b with h | h | h
  · have hv : cmpI a b = -1 := by unfold cmpI; rw [if_pos h]
    have HV := Lib.hid hv
    clear hv
    go_enter Try.func59, Try.ntmps59
    go_wp2
    go_ret
    exact ⟨by rw [HV.out]; rfl, rfl⟩
  · subst h
    have hv : cmpI a a = 0 := by unfold cmpI; simp
    have HV := Lib.hid hv
    clear hv
    go_enter Try.func59, Try.ntmps59
    go_wp2
    go_ret
    exact ⟨by rw [HV.out]; rfl, rfl⟩
  · have hv : cmpI a b = 1 := by unfold cmpI; rw [if_neg (by omega), if_pos h]
    have HV := Lib.hid hv
    have hn : ¬ a < b := by omega
    clear hv
    go_enter Try.func59, Try.ntmps59
    go_wp2
    go_ret
    exact ⟨by rw [HV.out]; rfl, rfl⟩

set_option maxHeartbeats 1000000 in
theorem or_run (x y : Int) (g : Nat) (w : World) (h0 : w.cell? ⟨g, 0, none⟩ = some (.int .i64 x)) (h1 : w.cell? ⟨g, 1, none⟩ = some (.int .i64 y)) :
    Calls Try.prog 60 #[.slice (some ⟨g, 0, none⟩) 2 2] w fun e w' => e = .returned (.int .i64 (orI x y)) ∧ w = w' := by
  have key : ∀ r, orI x y = r → (x = 0 → y = 0 ∨ y ≠ 0) := fun _ _ _ => by omega
  by_cases hx : x = 0
  · have hx0 : (x == 0) = true := by simp [hx]
    have hx1 : (x != 0) = false := by simp [hx]
    by_cases hy : y = 0
    · have hy0 : (y != 0) = false := by simp [hy]
      have HO := Lib.hid (show orI x y = 0 by unfold orI; simp [hx, hy])
      clear key hx hy
      go_enter Try.func60, Try.ntmps60
      go_wp2_with fail
      go_loop [8] (fun t => ∃ q : Nat, q ≤ 2 ∧ t = .int .i64 q) (fun t => 2 - (intOf t).toNat)
      case atStart => exact ⟨0, by omega, rfl⟩
      case round =>
        obtain ⟨q, hq, rfl⟩ := hrel
        match q, hq with
        | 0, _ =>
          go_wp2_with fail
          go_round
          case rel => exact ⟨1, by omega, rfl⟩
          case measure => simp [intOf]
        | 1, _ =>
          go_wp2_with fail
          go_round
          case rel => exact ⟨2, by omega, rfl⟩
          case measure => simp [intOf]
        | 2, _ =>
          go_wp2_with fail
          go_ret
          exact ⟨by rw [HO.out]; rfl, rfl⟩
    · have hy0 : (y != 0) = true := by simp [hy]
      have HO := Lib.hid (show orI x y = y by unfold orI; simp [hx])
      clear key hx hy
      go_enter Try.func60, Try.ntmps60
      go_wp2_with fail
      go_loop [8] (fun t => ∃ q : Nat, q ≤ 1 ∧ t = .int .i64 q) (fun t => 2 - (intOf t).toNat)
      case atStart => exact ⟨0, by omega, rfl⟩
      case round =>
        obtain ⟨q, hq, rfl⟩ := hrel
        match q, hq with
        | 0, _ =>
          go_wp2_with fail
          go_round
          case rel => exact ⟨1, by omega, rfl⟩
          case measure => simp [intOf]
        | 1, _ =>
          go_wp2_with fail
          go_ret
          exact ⟨by rw [HO.out]; rfl, rfl⟩
  · have hx1 : (x != 0) = true := by simp [hx]
    have HO := Lib.hid (show orI x y = x by unfold orI; simp [hx])
    clear key hx
    go_enter Try.func60, Try.ntmps60
    go_wp2_with fail
    go_loop [8] (fun t => t = .int .i64 0) (fun t => 0)
    case atStart => rfl
    case round =>
      obtain rfl := hrel
      go_wp2_with fail
      go_ret
      exact ⟨by rw [HO.out]; rfl, rfl⟩

/-- The place of a set in the order of sets. -/
def keyC (s : Nat) : Nat := popc s * 1024 + s

/-- What nodeset.Compare answers. -/
def cmpN (a b : Int) : Int := if setB a = setB b then (if setB a = true then orI (cmpI (popc a.toNat : Nat) (popc b.toNat : Nat)) (cmpI a b) else cmpI a b) else if setB b = true then -1 else 1

set_option maxHeartbeats 2000000 in
theorem pcompare_run (a b : Int) (w : World) :
    Calls Try.prog 41 #[.int .i64 a, .int .i64 b] w fun e w' => e = .returned (.int .i64 (cmpN a b)) ∧ ∃ os, w' = Go.Sort.grow w os := by
  cases ha : setB a <;> cases hb : setB b
  · have HV := Lib.hid (show cmpN a b = cmpI a b by unfold cmpN; rw [ha, hb]; simp)
    go_enter Try.func41, Try.ntmps41
    go_wp2_with (first | (go_at_call 22; refine (setValid_run _ _).mono ?_; rintro e w2 ⟨rfl, rfl⟩) | (go_at_call 59; refine (cmp_any _ _ _).mono ?_; rintro e w2 ⟨rfl, rfl⟩))
    go_ret
    exact ⟨by rw [HV.out]; rfl, #[], by rw [Go.Sort.grow_empty]⟩
  · have HV := Lib.hid (show cmpN a b = -1 by unfold cmpN; rw [ha, hb]; simp)
    go_enter Try.func41, Try.ntmps41
    go_wp2_with (first | (go_at_call 22; refine (setValid_run _ _).mono ?_; rintro e w2 ⟨rfl, rfl⟩))
    go_ret
    exact ⟨by rw [HV.out]; rfl, #[], by rw [Go.Sort.grow_empty]⟩
  · have HV := Lib.hid (show cmpN a b = 1 by unfold cmpN; rw [ha, hb]; simp)
    go_enter Try.func41, Try.ntmps41
    go_wp2_with (first | (go_at_call 22; refine (setValid_run _ _).mono ?_; rintro e w2 ⟨rfl, rfl⟩))
    go_ret
    exact ⟨by rw [HV.out]; rfl, #[], by rw [Go.Sort.grow_empty]⟩
  · obtain ⟨a0, a1⟩ := setB_iff.1 ha
    obtain ⟨b0, b1⟩ := setB_iff.1 hb
    obtain ⟨s, rfl⟩ := Int.eq_ofNat_of_zero_le a0
    obtain ⟨t, rfl⟩ := Int.eq_ofNat_of_zero_le b0
    have HV := Lib.hid (show cmpN s t = orI (cmpI (popc s : Nat) (popc t : Nat)) (cmpI s t) by unfold cmpN; rw [ha, hb]; simp)
    go_enter Try.func41, Try.ntmps41
    go_wp2_with fail
    refine (setValid_run _ _).mono ?_
    rintro e w2 ⟨rfl, rfl⟩
    rw [ha]
    go_wp2_with fail
    refine (setValid_run _ _).mono ?_
    rintro e w2 ⟨rfl, rfl⟩
    rw [hb]
    go_wp2_with fail
    refine (setValid_run _ _).mono ?_
    rintro e w2 ⟨rfl, rfl⟩
    rw [ha]
    go_wp2_with fail
    refine (psize_run s (by omega) _).mono ?_
    rintro e w2 ⟨rfl, rfl⟩
    go_wp2_with fail
    refine (psize_run t (by omega) _).mono ?_
    rintro e w2 ⟨rfl, rfl⟩
    generalize popc s = ps at *
    generalize popc t = pt at *
    go_wp2_with fail
    refine (cmp_any _ _ _).mono ?_
    rintro e w2 ⟨rfl, rfl⟩
    generalize cmpI ps pt = u at *
    go_wp2_with fail
    refine (cmp_any _ _ _).mono ?_
    rintro e w2 ⟨rfl, rfl⟩
    generalize cmpI s t = v at *
    go_wp2_with fail
    refine (or_run u v _ _ (cell_of_row _ _ 0 _ _ (0, 0) (heap_alloc_new _ _)) (cell_of_row _ _ 1 _ _ (0, 0) (heap_alloc_new _ _))).mono ?_
    rintro e w2 ⟨rfl, rfl⟩
    go_wp2_with fail
    go_ret
    exact ⟨by rw [HV.out]; rfl, #[.cells #[.int .i64 u, .int .i64 v] 3], Go.Sort.alloc_eq_grow _ _⟩

/-- The three keys of the order of sets. -/
def rkA (a : Int) : Int := if setB a = true then 1 else 0

def rkB (a : Int) : Int := if setB a = true then (popc a.toNat : Nat) else 0

theorem orI_lt (x y : Int) : (orI x y < 0) ↔ (x < 0 ∨ (x = 0 ∧ y < 0)) := by unfold orI; split <;> omega

theorem cmpI_lt (x y : Int) : (cmpI x y < 0) ↔ x < y := by unfold cmpI; split <;> (try split) <;> omega

theorem cmpI_eq (x y : Int) : (cmpI x y = 0) ↔ x = y := by unfold cmpI; split <;> (try split) <;> omega

theorem cmpN_lt (x y : Int) : (cmpN x y < 0) ↔ (rkA x < rkA y ∨ (rkA x = rkA y ∧ (rkB x < rkB y ∨ (rkB x = rkB y ∧ x < y)))) := by
  unfold cmpN rkA rkB
  cases setB x <;> cases setB y <;> simp [orI_lt, cmpI_lt, cmpI_eq]

theorem cmpN_cast (s t : Nat) (hs : s < 1024) (ht : t < 1024) : (cmpN s t < 0) ↔ keyC s < keyC t := by
  have h1 : setB (s : Int) = true := setB_iff.2 ⟨by omega, by omega⟩
  have h2 : setB (t : Int) = true := setB_iff.2 ⟨by omega, by omega⟩
  rw [cmpN_lt]
  unfold rkA rkB keyC
  rw [if_pos h1, if_pos h2, if_pos h1, if_pos h2]
  simp only [Int.toNat_natCast, Int.lt_irrefl, false_or, true_and, Int.ofNat_lt, Int.natCast_inj]
  omega

theorem zc_eq : Try.zeroCells52 = Array.replicate 1024 (.bool false) := by kernel_rfl

theorem zc_size : Try.zeroCells52.size = 1024 := by rw [zc_eq]; exact Array.size_replicate

theorem zc_one : Try.zeroCells52.all (·.oneCell') = true := by rw [zc_eq, Array.all_eq_true]; intro i hi; rw [Array.getElem_replicate]; rfl

theorem zc_info : (Try.prog.info? 52).map (·.size) = some Try.zeroCells52.size := by rw [zc_size]; kernel_rfl

/-- Block tb says which sets are there. -/
def ThereAt (w : World) (tb : Nat) (p : Nat → Bool) : Prop := ∃ c, w.heap[tb]? = some (.cells c 52 (0, 0)) ∧ c.size = 1024 ∧ ∀ t, t < 1024 → c[t]? = some (.bool (p t))

theorem ThereAt.zero (w : World) : ThereAt (w.alloc (.cells Try.zeroCells52 52)) w.heap.size (fun _ => false) :=
  ⟨_, heap_alloc_new _ _, zc_size, fun t ht => by rw [zc_eq, Array.getElem?_replicate, if_pos ht]⟩

theorem ThereAt.keep {w w' : World} {tb : Nat} {p : Nat → Bool} (h : ThereAt w tb p) (hk : w'.heap[tb]? = w.heap[tb]?) : ThereAt w' tb p := by
  obtain ⟨c, h1, h2⟩ := h; exact ⟨c, hk.trans h1, h2⟩

theorem ThereAt.lt {w : World} {tb : Nat} {p : Nat → Bool} (h : ThereAt w tb p) : tb < w.heap.size := by
  obtain ⟨c, h1, h2⟩ := h
  rcases Nat.lt_or_ge tb w.heap.size with h3 | h3
  · exact h3
  · rw [Array.getElem?_eq_none h3] at h1; cases h1

theorem ThereAt.below {w w' : World} {tb : Nat} {p : Nat → Bool} (h : ThereAt w tb p) (hb : Below w.heap.size w w') : ThereAt w' tb p := h.keep (hb.block _ h.lt)

theorem ThereAt.cell {w : World} {tb : Nat} {p : Nat → Bool} (h : ThereAt w tb p) (t : Nat) (ht : t < 1024) : w.cell? ⟨tb, t, none⟩ = some (.bool (p t)) := by
  obtain ⟨c, h1, h2, h3⟩ := h
  rw [cell_of_row _ _ t c _ (0, 0) h1]; exact h3 t ht

theorem ThereAt.fr {w : World} {tb : Nat} {p : Nat → Bool} (h : ThereAt w tb p) (t : Nat) : w.frozen? ⟨tb, t, none⟩ = false := by
  obtain ⟨c, h1, _⟩ := h
  simp [World.frozen?, h1]

theorem ThereAt.congr {w : World} {tb : Nat} {p q : Nat → Bool} (h : ThereAt w tb p) (hq : ∀ t, t < 1024 → q t = p t) : ThereAt w tb q := by
  obtain ⟨c, h1, h2, h3⟩ := h
  exact ⟨c, h1, h2, fun t ht => by rw [hq t ht]; exact h3 t ht⟩

theorem ThereAt.set {w : World} {tb : Nat} {p : Nat → Bool} (h : ThereAt w tb p) (s : Nat) (hs : s < 1024) : ThereAt (w.setCell ⟨tb, s, none⟩ (.bool true)) tb (fun t => p t || t == s) := by
  obtain ⟨c, h1, h2, h3⟩ := h
  refine ⟨c.setIfInBounds s (.bool true), ?_, by simp [h2], fun t ht => ?_⟩
  · simp [World.setCell, Array.getElem?_modify, h1]
  · rw [Array.getElem?_setIfInBounds]
    by_cases e : s = t
    · subst e; rw [if_pos rfl, if_pos (by omega)]; simp
    · rw [if_neg e, h3 t ht]
      have : (t == s) = false := by simp; omega
      simp only [this, Bool.or_false]

set_option maxHeartbeats 1000000 in
theorem least1_run (tb : Nat) (p : Nat → Bool) (t : Nat) (ht : t < 1024) (w : World) (h : ThereAt w tb p) :
    Calls Try.prog 24 #[.int .i64 (t : Int), .pointer (some ⟨tb, 0, none⟩)] w fun e w' => e = .returned (.bool (p t)) ∧ w = w' := by
  have h1 := h.cell t ht
  generalize p t = b at *
  clear h
  go_enter Try.func24, Try.ntmps24
  go_wp2_with fail
  go_ret
  exact ⟨rfl, rfl⟩

theorem dif_nat (a b : Nat) (ha : a < 1024) (hb : b < 1024) : bits .andNot .i64 (a : Int) (b : Int) = ((a ^^^ (a &&& b) : Nat) : Int) := by
  have hx : a ^^^ (a &&& b) < 2 ^ 63 := Nat.xor_lt_two_pow (by omega) (Nat.lt_of_le_of_lt Nat.and_le_left (by omega))
  show IntKind.i64.wrap ((BitVec.ofInt 64 (a : Int) &&& ~~~BitVec.ofInt 64 (b : Int)).toNat : Int) = _
  have e : (BitVec.ofInt 64 (a : Int) &&& ~~~BitVec.ofInt 64 (b : Int)).toNat = a ^^^ (a &&& b) := by
    apply Nat.eq_of_testBit_eq
    intro i
    rw [BitVec.toNat_and, BitVec.toNat_not, ofInt_i64 a (by omega), ofInt_i64 b (by omega), Nat.testBit_and, Nat.testBit_xor, Nat.testBit_and]
    have h2 : (2 : Nat) ^ 64 - 1 - b = 2 ^ 64 - (b + 1) := by omega
    rw [h2, Nat.testBit_two_pow_sub_succ (by omega)]
    rcases Nat.lt_or_ge i 64 with hi | hi
    · simp only [hi, decide_true, Bool.true_and]
      cases a.testBit i <;> cases b.testBit i <;> rfl
    · have h10 : (1024 : Nat) ≤ 2 ^ i := Nat.le_trans (by decide) (Nat.pow_le_pow_right (n := 2) (by omega) hi)
      rw [Nat.testBit_lt_two_pow (show a < 2 ^ i by omega)]; rfl
  rw [e, IntKind.wrap_i64]
  omega

/-- Is t a subset of s? -/
def subB (t s : Nat) : Bool := t &&& s == t

theorem xor_zero {a b : Nat} : a ^^^ b = 0 ↔ a = b := by
  constructor
  · intro h
    apply Nat.eq_of_testBit_eq
    intro i
    have := congrArg (fun x => x.testBit i) h
    simp only [Nat.testBit_xor, Nat.zero_testBit] at this
    revert this
    cases a.testBit i <;> cases b.testBit i <;> simp
  · rintro rfl; exact Nat.xor_self _

theorem andnot_sub (t s : Nat) (ht : t < 1024) (hs : s < 1024) : (bits .andNot .i64 (t : Int) (s : Int) == 0) = subB t s := by
  rw [dif_nat t s ht hs]
  unfold subB
  rw [Bool.eq_iff_iff]
  simp only [beq_iff_eq]
  rw [show ((0 : Int)) = ((0 : Nat) : Int) from rfl, Int.natCast_inj, xor_zero]
  exact eq_comm

set_option maxHeartbeats 1000000 in
theorem least2_run (sb s t : Nat) (ht : t < 1024) (hs : s < 1024) (w : World) (h : w.cell? ⟨sb, 0, none⟩ = some (.int .i64 (s : Int))) :
    Calls Try.prog 26 #[.int .i64 (t : Int), .pointer (some ⟨sb, 0, none⟩)] w fun e w' => e = .returned (.bool (subB t s)) ∧ w = w' := by
  have HA := Lib.hid (andnot_sub t s ht hs)
  go_enter Try.func26, Try.ntmps26
  go_wp2_with fail
  go_ret
  exact ⟨by rw [← HA.out]; rfl, rfl⟩

end Go.Proofs.Ytobdnepmjcbjeaa

namespace Go.Proofs
open Go.Shelf
def Ytobdnepmjcbjeaa.sortL_ren : Go.Shelf.Ren := ⟨fun | 6 => 40 | 15 => 58 | 14 => 57 | 28 => 83 | 29 => 84 | 20 => 75 | 21 => 76 | 22 => 77 | 23 => 78 | 24 => 79 | 25 => 80 | 26 => 81 | 27 => 82 | 46 => 88 | 47 => 89 | 48 => 90 | 49 => 91 | 50 => 92 | 57 => 94 | n => n, fun | 22 => 26 | 24 => 3 | 25 => 65 | 3 => 3 | 39 => 69 | 0 => 0 | 53 => 84 | 55 => 86 | 4 => 4 | 46 => 97 | 45 => 96 | 50 => 73 | 5 => 5 | 9 => 9 | 66 => 103 | 70 => 71 | 76 => 108 | 77 => 109 | n => n, fun | n => n⟩
theorem Ytobdnepmjcbjeaa.sortL : Go.Proofs.SlLaysF.n6 Try.prog Ytobdnepmjcbjeaa.sortL_ren := {
  mixed := by kernel_rfl
  f6 := ⟨Try.f40.name, by decide, Try.func40.trans (congrArg some (by kernel_rfl))⟩
  f14 := ⟨Try.f57.name, by decide, Try.func57.trans (congrArg some (by kernel_rfl))⟩
  f15 := Try.func58.trans (congrArg some (by kernel_rfl))
  f20 := ⟨Try.f75.name, by decide, Try.func75.trans (congrArg some (by kernel_rfl))⟩
  f21 := ⟨Try.f76.name, by decide, Try.func76.trans (congrArg some (by kernel_rfl))⟩
  f22 := ⟨Try.f77.name, by decide, Try.func77.trans (congrArg some (by kernel_rfl))⟩
  f23 := ⟨Try.f78.name, by decide, Try.func78.trans (congrArg some (by kernel_rfl))⟩
  f24 := ⟨Try.f79.name, by decide, Try.func79.trans (congrArg some (by kernel_rfl))⟩
  f25 := ⟨Try.f80.name, by decide, Try.func80.trans (congrArg some (by kernel_rfl))⟩
  f26 := ⟨Try.f81.name, by decide, Try.func81.trans (congrArg some (by kernel_rfl))⟩
  f27 := ⟨Try.f82.name, by decide, Try.func82.trans (congrArg some (by kernel_rfl))⟩
  f28 := Try.func83.trans (congrArg some (by kernel_rfl))
  f29 := Try.func84.trans (congrArg some (by kernel_rfl))
  f46 := ⟨Try.f88.name, by decide, Try.func88.trans (congrArg some (by kernel_rfl))⟩
  f47 := Try.func89.trans (congrArg some (by kernel_rfl))
  f48 := Try.func90.trans (congrArg some (by kernel_rfl))
  f49 := ⟨Try.f91.name, by decide, Try.func91.trans (congrArg some (by kernel_rfl))⟩
  f50 := ⟨Try.f92.name, by decide, Try.func92.trans (congrArg some (by kernel_rfl))⟩
  f57 := ⟨Try.f94.name, by decide, Try.func94.trans (congrArg some (by kernel_rfl))⟩
  t0 := Try.underlying0
  a0 := Try.isAgg0
  z0 := Try.sizeOf0
  v0 := Try.zeroValue0
  t3 := Try.underlying3
  a3 := Try.isAgg3
  z3 := Try.sizeOf3
  v3 := Try.zeroValue3
  t4 := Try.underlying4
  a4 := Try.isAgg4
  z4 := Try.sizeOf4
  v4 := Try.zeroValue4
  t5 := Try.underlying5
  a5 := Try.isAgg5
  z5 := Try.sizeOf5
  v5 := Try.zeroValue5
  t9 := Try.underlying9
  a9 := Try.isAgg9
  z9 := Try.sizeOf9
  v9 := Try.zeroValue9
  t22 := Try.underlying26
  a22 := Try.isAgg26
  z22 := Try.sizeOf26
  v22 := Try.zeroValue26
  a24 := Try.isAgg3
  z24 := Try.sizeOf3
  t25 := Try.underlying65
  a25 := Try.isAgg65
  z25 := Try.sizeOf65
  v25 := Try.zeroValue65
  t39 := Try.underlying69
  a39 := Try.isAgg69
  z39 := Try.sizeOf69
  v39 := Try.zeroValue69
  t45 := Try.underlying96
  a45 := Try.isAgg96
  z45 := Try.sizeOf96
  v45 := Try.zeroValue96
  t46 := Try.underlying97
  a46 := Try.isAgg97
  z46 := Try.sizeOf97
  v46 := Try.zeroValue97
  t50 := Try.underlying73
  a50 := Try.isAgg73
  z50 := Try.sizeOf73
  v50 := Try.zeroValue73
  t53 := Try.underlying84
  a53 := Try.isAgg84
  z53 := Try.sizeOf84
  v53 := Try.zeroValue84
  t55 := Try.underlying86
  a55 := Try.isAgg86
  z55 := Try.sizeOf86
  v55 := Try.zeroValue86
  t66 := Try.underlying103
  a66 := Try.isAgg103
  z66 := Try.sizeOf103
  v66 := Try.zeroValue103
  t70 := Try.underlying71
  a70 := Try.isAgg71
  z70 := Try.sizeOf71
  v70 := Try.zeroValue71
  t76 := Try.underlying108
  a76 := Try.isAgg108
  z76 := Try.sizeOf108
  v76 := Try.zeroValue108
  t77 := Try.underlying109
  a77 := Try.isAgg109
  z77 := Try.sizeOf109
  v77 := Try.zeroValue109 }
end Go.Proofs

namespace Go.Proofs.Ytobdnepmjcbjeaa
set_option linter.unusedVariables false
set_option linter.unusedSimpArgs false
open Go.RowKit Go.Sort

theorem ltN_iff (x y : Int) : Go.Proofs.ltOf cmpN x y = true ↔ (rkA x < rkA y ∨ (rkA x = rkA y ∧ (rkB x < rkB y ∨ (rkB x = rkB y ∧ x < y)))) := by
  unfold Go.Proofs.ltOf
  rw [decide_eq_true_iff, cmpN_lt]

theorem ltN_not (x y : Int) : Go.Proofs.ltOf cmpN x y = false ↔ ¬ (rkA x < rkA y ∨ (rkA x = rkA y ∧ (rkB x < rkB y ∨ (rkB x = rkB y ∧ x < y)))) := by
  rw [← ltN_iff, Bool.not_eq_true]

theorem swoN : SWO (Go.Proofs.ltOf cmpN) where
  irrefl x := by rw [ltN_not]; omega
  trans x y z h1 h2 := by rw [ltN_iff] at *; omega
  ntrans x y z h1 h2 := by rw [ltN_not] at *; omega

theorem totN (x y : Int) (h1 : Go.Proofs.ltOf cmpN x y = false) (h2 : Go.Proofs.ltOf cmpN y x = false) : x = y := by rw [ltN_not] at *; omega

def zs (l : List Nat) : List Int := l.map (fun t : Nat => (t : Int))

theorem zs_len (l : List Nat) : (zs l).length = l.length := List.length_map _

theorem zs_get (l : List Nat) (k : Nat) : (zs l).getD k 0 = ((l.getD k 0 : Nat) : Int) := by
  unfold zs
  rw [List.getD_eq_getElem?_getD, List.getD_eq_getElem?_getD, List.getElem?_map]
  cases l[k]? <;> rfl

theorem zs_snoc (l : List Nat) (x : Nat) : zs (l ++ [x]) = zs l ++ [(x : Int)] := by unfold zs; rw [List.map_append]; rfl

theorem NodesAt.of_ownZ {W : World} {B : Nat} {v : Value} {l : List Nat} (h : W.ownsRow B 3 1 v l.length ((zs l).map (Value.int .i64))) : NodesAt (fun b => B ≤ b) W v (zs l) := NodesAt.of_own (by rw [zs_len]; exact h)

theorem own_snocZ {w : World} {v : Value} {B : Nat} {l : List Nat} {x : Nat} (h : w.ownsRow B 3 1 v (l.length + 1) ((zs l).map (Value.int .i64) ++ [.int .i64 (x : Int)])) : w.ownsRow B 3 1 v (l ++ [x]).length ((zs (l ++ [x])).map (Value.int .i64)) := by
  rw [zs_snoc, List.map_append, List.length_append]; exact h

/-- In the order of sets, each once. -/
def Asc (l : List Nat) : Prop := l.Pairwise (fun a b => keyC a < keyC b)

theorem keyC_inj {a b : Nat} (ha : a < 1024) (hb : b < 1024) (h : keyC a = keyC b) : a = b := by unfold keyC at h; omega

theorem sorted_nat (l : List Nat) (hl : ∀ t ∈ l, t < 1024) (hd : l.Nodup) :
    ∃ m : List Nat, (zs l).mergeSort (fun x y => !(Go.Proofs.ltOf cmpN) y x) = zs m ∧ m.Perm l ∧ Asc m := by
  have hp := List.mergeSort_perm (zs l) (fun x y => !(Go.Proofs.ltOf cmpN) y x)
  have hs := List.pairwise_mergeSort (le := fun x y => !(Go.Proofs.ltOf cmpN) y x)
    (fun a b c h1 h2 => by simp only [Bool.not_eq_true', ltN_not] at *; omega)
    (fun a b => by
      by_cases h : Go.Proofs.ltOf cmpN b a = true
      · have : Go.Proofs.ltOf cmpN a b = false := by rw [ltN_iff] at h; rw [ltN_not]; omega
        simp [this]
      · simp [Bool.eq_false_iff.2 h]) (zs l)
  generalize (zs l).mergeSort (fun x y => !(Go.Proofs.ltOf cmpN) y x) = ts at *
  have hz : ∀ x ∈ ts, ∃ t : Nat, x = (t : Int) ∧ t ∈ l := fun x hx => by
    have := hp.mem_iff.1 hx
    obtain ⟨t, ht, rfl⟩ := List.mem_map.1 this
    exact ⟨t, rfl, ht⟩
  have hts : ts = zs (ts.map Int.toNat) := by
    unfold zs
    rw [List.map_map]
    conv => lhs; rw [← List.map_id ts]
    exact List.map_congr_left (fun x hx => by obtain ⟨t, rfl, _⟩ := hz x hx; rfl)
  have hpm : (ts.map Int.toNat).Perm l := by
    have := hp.map Int.toNat
    refine this.trans (List.Perm.of_eq ?_)
    unfold zs
    rw [List.map_map]
    conv => rhs; rw [← List.map_id l]
    exact List.map_congr_left (fun x _ => rfl)
  refine ⟨ts.map Int.toNat, hts, hpm, ?_⟩
  have hnd : (ts.map Int.toNat).Nodup := hpm.nodup_iff.2 hd
  unfold Asc
  generalize hm : ts.map Int.toNat = m at *
  rw [hts] at hs
  have hs2 : m.Pairwise (fun a b : Nat => (!(Go.Proofs.ltOf cmpN) (b : Int) (a : Int)) = true) := List.pairwise_map.1 hs
  have h3 := (List.Pairwise.and hs2 (List.nodup_iff_pairwise_ne.1 hnd))
  refine List.Pairwise.imp_of_mem (fun {a b} ha hb h => ?_) h3
  obtain ⟨h1, h2⟩ := h
  have ha' := hl a (hpm.mem_iff.1 ha)
  have hb' := hl b (hpm.mem_iff.1 hb)
  have h4 : ¬ keyC b < keyC a := by
    rw [← cmpN_cast b a hb' ha']
    simp only [Bool.not_eq_true'] at h1
    unfold Go.Proofs.ltOf at h1
    exact of_decide_eq_false h1
  rcases Nat.lt_trichotomy (keyC a) (keyC b) with h | h | h
  · exact h
  · exact (h2 (keyC_inj ha' hb' h)).elim
  · exact (h4 h).elim

theorem enters_cmp : ∀ args w, (callFunc 41 args).run Try.prog w = .ok (.enter 41 args) w := enters_of Try.func41 (by kernel_rfl) rfl

set_option maxHeartbeats 1000000 in
/-- slices.SortFunc by nodeset.Compare, over a row of the call's own that holds sets. -/
theorem sortN_run (l : List Nat) (hl : ∀ t ∈ l, t < 1024) (hd : l.Nodup) (v : Value) (B : Nat) (w : World) (hlen : l.length ≤ 100000) (hown : w.ownsRow B 3 1 v l.length ((zs l).map (Value.int .i64))) :
    Calls Try.prog 40 #[v, .func (.func 41) #[] #[]] w fun e w' => e = .returned (.tuple #[]) ∧ ∃ m : List Nat, m.Perm l ∧ Asc m ∧ m.length = l.length ∧ w'.ownsRow B 3 1 v l.length ((zs m).map (Value.int .i64)) ∧ w.grownBy w' v.ownBlock := by
  obtain ⟨m, hm, hp, ha⟩ := sorted_nat l hl hd
  have hlm := hp.length_eq
  rcases hown.2 with ⟨rfl, h0⟩ | ⟨g, cap, cur, rfl, hB, hcell, hnc, hcm, hsz, htk⟩
  · obtain rfl := List.eq_nil_of_length_eq_zero h0
    have h := AnyF.slices_SortFunc_none (P := Try.prog) (ρ := sortL_ren) { sortL with } none 0 (.func (.func 41) #[] #[]) w
    refine (show Calls Try.prog 40 _ _ _ from h).mono ?_
    rintro e w' ⟨rfl, rfl⟩
    obtain rfl := List.eq_nil_of_length_eq_zero (show m.length = 0 by rw [hlm]; rfl)
    exact ⟨rfl, [], hp, ha, rfl, hown, World.grownBy.refl _ _⟩
  · have hg : g < w.heap.size := (Array.getElem?_eq_some_iff.1 hcell).1
    have hH : Holds (Value.int .i64) w g 0 (zs l).toArray := holds_of_blockI hcell (by rw [zs_len]; simpa using htk)
    have hS := Any.slices_SortFunc_total sortL (Value.int .i64) (fun _ => rfl) cmpN swoN 41 #[] g 0 cap (zs l).toArray w enters_cmp
      (fun mm os dk hs x y => (pcompare_run x y _).mono fun _ _ ⟨he, os', hw⟩ => ⟨he, 0, os', by rw [hw]; rfl⟩) hH hg (by simp [zs_len]; omega) totN
    rw [show (zs l).toArray.size = l.length by simp [zs_len], show (zs l).toArray.toList = zs l from rfl, hm] at hS
    refine (show Calls Try.prog 40 _ _ _ from hS).mono ?_
    rintro e w' ⟨rfl, n, os, rfl⟩
    have h1 := ownsRow_sortedI (w := w) (base := B) (g := g) (cap := cap) (n := n) (e := 3) (os := os) (cur := cur) (ss := zs l) (ts := zs m) (by rw [zs_len, zs_len, hlm]) hB hcell (by rw [zs_len]; exact hnc) hcm hsz
    rw [zs_len] at h1
    exact ⟨rfl, m, hp, ha, hlm, h1, grownBy_sortedI _⟩

end Go.Proofs.Ytobdnepmjcbjeaa

namespace Go.Proofs.Ytobdnepmjcbjeaa
set_option linter.unusedVariables false
set_option linter.unusedSimpArgs false
open Go.RowKit

/-- The sets below 2^n of which p holds, in order. -/
def IsFind (n : Nat) (p : Nat → Bool) (l : List Nat) : Prop := Asc l ∧ (∀ t, t ∈ l ↔ (t < 2 ^ n ∧ p t = true)) ∧ l.length ≤ 1024

set_option maxRecDepth 100000 in
set_option maxHeartbeats 4000000 in
theorem findL_run (tb n : Nat) (hn : n ≤ 10) (p : Nat → Bool) (w : World) (hT : ThereAt w tb p) :
    Calls Try.prog 23 #[.int .i64 (n : Int), .func (.func 24) #[] #[.pointer (some ⟨tb, 0, none⟩)]] w fun e w' => ∃ v l, e = .returned v ∧ w'.ownsRow w.heap.size 3 1 v l.length ((zs l).map (Value.int .i64)) ∧ IsFind n p l ∧ Below w.heap.size w w' := by
  obtain ⟨i0, hin, hz0, hz1, hz2⟩ := info_parts infoInt
  have hp := pow11 n (by omega)
  have h10 : 2 ^ n ≤ 2 ^ 10 := Nat.pow_le_pow_right (by omega) hn
  have HF := Lib.hid (show ∀ l, IsFind n p l ↔ (Asc l ∧ (∀ t, t ∈ l ↔ (t < 2 ^ n ∧ p t = true)) ∧ l.length ≤ 1024) from fun _ => Iff.rfl)
  have hn0 : (0 : Int) ≤ (n : Int) := by omega
  have hn64 : ¬ (64 : Int) ≤ (n : Int) := by omega
  obtain ⟨N, hN⟩ : ∃ N, 2 ^ n = N := ⟨_, rfl⟩
  rw [hN] at hp h10
  rw [hN] at HF
  clear hN
  have HT := Lib.hid hT
  have htb := hT.lt
  clear hT
  go_enter Try.func23, Try.ntmps23
  go_wp2_with fail
  go_loopw [5, 9] (fun v t W => ∃ (k : Nat) (l : List Nat) (vv : Value), k ≤ N ∧ v = vv ∧ t = .int .i64 k ∧ W.ownsRow w.heap.size 3 1 vv l.length ((zs l).map (Value.int .i64)) ∧ Hid (l = (List.range k).filter p) ∧ Hid (Below w.heap.size w W)) (fun _ t _ => N - (intOf t).toNat)
  case atStart => exact ⟨0, [], .slice none 0 0, by omega, rfl, rfl, World.ownsRow_nil _ _ _ _, Lib.hid rfl, Lib.hid (bref _)⟩
  case round =>
    obtain ⟨k, l, v, hk, hv, rfl, hown, hL, hB⟩ := hrel
    replace hv := hv.symm
    subst hv
    have hlen : l.length ≤ k := by rw [hL.out]; exact Nat.le_trans (List.length_filter_le _ _) (by simp)
    have HOWN := Lib.hid hown
    by_cases hlt : k < N
    · have HTk := Lib.hid (HT.out.keep (hB.out.block tb htb))
      rcases (show p k = false ∨ p k = true by cases p k <;> simp) with hpk | hpk
      · have HL2 := Lib.hid (show l = (List.range (k + 1)).filter p by rw [List.range_succ, List.filter_append, ← hL.out]; simp [hpk])
        have HP := Lib.hid hpk
        clear hown hpk
        go_wp2_with fail
        refine (least1_run tb p k (by omega) _ HTk.out).mono ?_
        rintro e w2 ⟨rfl, rfl⟩
        rw [HP.out]
        go_wp2_with fail
        go_roundw
        case rel => exact ⟨k + 1, l, _, by omega, rfl, by go_num, HOWN.out, HL2, hB⟩
        case measure => simp [intOf]; omega
      · have HL2 := Lib.hid (show l ++ [k] = (List.range (k + 1)).filter p by rw [List.range_succ, List.filter_append, ← hL.out]; simp [hpk])
        have HP := Lib.hid hpk
        have hbs := hB.out.size
        have hzl := zs_len l
        clear hpk
        go_wp2_with fail
        refine (least1_run tb p k (by omega) _ HTk.out).mono ?_
        rintro e w2 ⟨rfl, rfl⟩
        rw [HP.out]
        go_wp2_with (at_builtin; refine wpList_append_own _ rfl _ _ 26 rfl w.heap.size 3 i0 (.int .i64 0) 1 8 Try.underlying26 hin hz0 hz1 hz2 rfl (by decide) _ _ _ rfl (hown.alloc _) ⟨wr.heap.size, 0, none⟩ 1 1 [.int .i64 (k : Int)] rfl rfl (cell_one_new _ _ _) (fun u hu => by simp at hu; subst hu; rfl) (by unfold maxLen; omega) (by omega) (by simp; omega) ?_; intro v' w1 hown' hgrow hnil)
        have HO := Lib.hid (own_snocZ hown')
        have HB4 := Lib.hid (Below.grown (balloc hB.out (.cells #[.int .i64 (k : Int)] 3)) hgrow (by simp; omega) (fun j hj => (hown.lt j hj).1))
        clear hown' hgrow hnil hown
        go_roundw
        case rel => exact ⟨k + 1, l ++ [k], _, by omega, rfl, by go_num, HO.out, HL2, HB4⟩
        case measure => simp [intOf]; omega
    · obtain rfl : k = N := by omega
      have hmem : ∀ t ∈ l, t < 1024 := fun t ht => by
        rw [hL.out] at ht
        have := List.mem_range.1 (List.mem_filter.1 ht).1
        omega
      have hnd : l.Nodup := by rw [hL.out]; exact List.nodup_iff_pairwise_ne.2 ((List.nodup_iff_pairwise_ne.1 List.nodup_range).filter _)
      have HS := Lib.hid (fun W => sortN_run l hmem hnd v w.heap.size W (by omega))
      have HLT := Lib.hid (fun j hj => (hown.lt j hj).1)
      obtain ⟨A, c, hv⟩ := own_slice hown
      clear hown hmem hnd
      subst hv
      go_wp2_with fail
      refine (HS.out _ HOWN.out).mono ?_
      rintro e w2 ⟨rfl, m, hpm, hasc, hml, hown2, hg2⟩
      have HR := Lib.hid (show w2.ownsRow w.heap.size 3 1 (.slice A l.length c) m.length ((zs m).map (Value.int .i64)) ∧ IsFind n p m ∧ Below w.heap.size w w2 from
        ⟨by rw [hml]; exact hown2, (HF.out m).2 ⟨hasc, fun t => by rw [hpm.mem_iff, hL.out, List.mem_filter, List.mem_range], by omega⟩, Below.grown hB.out hg2 hB.out.size (fun j hj => HLT.out j hj)⟩)
      clear hown2 hg2 hpm hasc hml
      go_wp2_with fail
      go_ret
      exact ⟨_, m, rfl, HR.out⟩

set_option maxHeartbeats 1000000 in
theorem indexL2_run (P : Nat → Prop) (v : Value) (ls : List Nat) (sb s : Nat) (w : World) (hN : NodesAt P w v (zs ls)) (hl : ∀ t ∈ ls, t < 1024) (hlen : ls.length ≤ 100000) (hs : s < 1024) (hc : w.cell? ⟨sb, 0, none⟩ = some (.int .i64 (s : Int))) :
    Calls Try.prog 42 #[v, .func (.func 26) #[] #[.pointer (some ⟨sb, 0, none⟩)]] w fun e w' => (∃ i : Int, e = .returned (.int .i64 i) ∧ decide (0 ≤ i) = ls.any (fun t => subB t s)) ∧ w = w' := by
  obtain ⟨A, c, rfl, hN2⟩ := hN
  rw [zs_len] at hN2 ⊢
  have H := Lib.hid hN2
  have HL := Lib.hid hl
  clear hN2 hl
  go_enter Try.func42, Try.ntmps42
  go_wp2_with fail
  go_loop [8] (fun t => ∃ k : Nat, k ≤ ls.length ∧ t = .int .i64 k ∧ Hid ((ls.take k).any (fun t => subB t s) = false)) (fun t => ls.length - (intOf t).toNat)
  case atStart => exact ⟨0, by omega, rfl, Lib.hid rfl⟩
  case round =>
    obtain ⟨k, hk, rfl, hA⟩ := hrel
    by_cases hlt : k < ls.length
    · obtain ⟨b, off, rfl, hPb, hcc⟩ := H.out k hlt
      have hx0 : ls[k]? = some (ls.getD k 0) := by rw [List.getD_eq_getElem?_getD, List.getElem?_eq_getElem hlt]; rfl
      have hx1 := HL.out _ (List.mem_of_getElem? hx0)
      rw [zs_get] at hcc
      have HTK := Lib.hid (show ls.take (k + 1) = ls.take k ++ [ls.getD k 0] by rw [List.take_add_one, hx0]; rfl)
      have HM := Lib.hid (List.mem_of_getElem? hx0)
      clear hx0 hPb
      generalize ls.getD k 0 = x at *
      rcases (show subB x s = false ∨ subB x s = true by cases subB x s <;> simp) with hq | hq
      · have HQ := Lib.hid hq
        have HA2 := Lib.hid (show (ls.take (k + 1)).any (fun t => subB t s) = false by rw [HTK.out, List.any_append, hA.out]; simp [hq])
        clear hq
        go_wp2_with fail
        refine (least2_run sb s x hx1 hs _ hc).mono ?_
        rintro e w2 ⟨rfl, rfl⟩
        rw [HQ.out]
        go_wp2_with fail
        go_round
        case rel => exact ⟨k + 1, by omega, by go_num, HA2⟩
        case measure => simp [intOf]; omega
      · have HQ := Lib.hid hq
        have HA2 := Lib.hid (show ls.any (fun t => subB t s) = true from List.any_eq_true.2 ⟨x, HM.out, hq⟩)
        clear hq
        go_wp2_with fail
        refine (least2_run sb s x hx1 hs _ hc).mono ?_
        rintro e w2 ⟨rfl, rfl⟩
        rw [HQ.out]
        go_wp2_with fail
        go_ret
        exact ⟨⟨_, rfl, by rw [HA2.out]; exact decide_eq_true (by omega)⟩, rfl⟩
    · obtain rfl : k = ls.length := by omega
      have HA2 := Lib.hid (show ls.any (fun t => subB t s) = false by have := hA.out; rwa [List.take_length] at this)
      go_wp2_with fail
      go_ret
      exact ⟨⟨_, rfl, by rw [HA2.out]; rfl⟩, rfl⟩

set_option maxHeartbeats 1000000 in
theorem containsL2_run (P : Nat → Prop) (v : Value) (ls : List Nat) (sb s : Nat) (w : World) (hN : NodesAt P w v (zs ls)) (hl : ∀ t ∈ ls, t < 1024) (hlen : ls.length ≤ 100000) (hs : s < 1024) (hc : w.cell? ⟨sb, 0, none⟩ = some (.int .i64 (s : Int))) :
    Calls Try.prog 25 #[v, .func (.func 26) #[] #[.pointer (some ⟨sb, 0, none⟩)]] w fun e w' => e = .returned (.bool (ls.any (fun t => subB t s))) ∧ w = w' := by
  have hN0 := hN
  obtain ⟨A, c, rfl, _⟩ := hN0
  have HN := Lib.hid hN
  have HL := Lib.hid hl
  have HC := Lib.hid hc
  clear hN hl hc
  go_enter Try.func25, Try.ntmps25
  go_wp2_with fail
  refine (indexL2_run P _ ls sb s _ HN.out HL.out hlen hs HC.out).mono ?_
  rintro e w2 ⟨⟨i, rfl, hi⟩, rfl⟩
  have HI := Lib.hid hi
  clear hi
  go_wp2_with fail
  go_ret
  exact ⟨by rw [← HI.out]; rfl, rfl⟩

theorem subB_iff {t s : Nat} : subB t s = true ↔ t &&& s = t := by unfold subB; simp

theorem subB_refl (t : Nat) : subB t t = true := subB_iff.2 (Nat.and_self t)

theorem subB_trans {a b c : Nat} (h1 : subB a b = true) (h2 : subB b c = true) : subB a c = true := by
  rw [subB_iff] at *
  rw [← h1, Nat.and_assoc, h2]

theorem subB_bit {t s k : Nat} (h : subB t s = true) (hk : t.testBit k = true) : s.testBit k = true := by
  rw [subB_iff] at h
  rw [← h, Nat.testBit_and, Bool.and_eq_true] at hk
  exact hk.2

theorem subB_le {t s : Nat} (h : subB t s = true) : t ≤ s := by
  rw [subB_iff] at h
  rw [← h]; exact Nat.and_le_right

theorem subB_popc {t s : Nat} (h : subB t s = true) : popc t ≤ popc s := by
  unfold popc
  exact List.countP_mono_left (fun i _ hi => subB_bit h hi)

theorem subB_key {t s : Nat} (h : subB t s = true) (hne : t ≠ s) : keyC t < keyC s := by
  have h1 := subB_popc h
  have h2 := subB_le h
  unfold keyC
  omega

/-- The sets of which p holds and of which no proper subset is such a set, in order. -/
def IsLeast (p : Nat → Bool) (l : List Nat) : Prop := Asc l ∧ (∀ t, t ∈ l ↔ (t < 1024 ∧ p t = true ∧ ∀ y, p y = true → subB y t = true → y = t)) ∧ l.length ≤ 1024

theorem asc_nodup {l : List Nat} (h : Asc l) : l.Nodup := List.nodup_iff_pairwise_ne.2 (h.imp (fun h e => by rw [e] at h; exact Nat.lt_irrefl _ h))

theorem asc_get {l : List Nat} (h : Asc l) {i j : Nat} {a b : Nat} (ha : l[i]? = some a) (hb : l[j]? = some b) (hk : keyC a < keyC b) : i < j := by
  rcases Nat.lt_trichotomy i j with hij | hij | hij
  · exact hij
  · subst hij; rw [ha] at hb; cases hb; omega
  · obtain ⟨h1, h2⟩ := List.getElem?_eq_some_iff.1 ha
    obtain ⟨h3, h4⟩ := List.getElem?_eq_some_iff.1 hb
    have := List.pairwise_iff_getElem.1 h j i h3 h1 hij
    rw [h2, h4] at this
    omega

/-- Two lists in order with the same sets are one. -/
theorem asc_ext : ∀ {l m : List Nat}, Asc l → Asc m → (∀ t, t ∈ l ↔ t ∈ m) → l = m
  | [], [], _, _, _ => rfl
  | [], b :: m, _, _, h => by have := (h b).2 (by simp); cases this
  | a :: l, [], _, _, h => by have := (h a).1 (by simp); cases this
  | a :: l, b :: m, h1, h2, h => by
    obtain ⟨ha, hl⟩ := List.pairwise_cons.1 h1
    obtain ⟨hb, hm⟩ := List.pairwise_cons.1 h2
    have e : a = b := by
      rcases List.mem_cons.1 ((h a).1 (by simp)) with h3 | h3
      · exact h3
      · rcases List.mem_cons.1 ((h b).2 (by simp)) with h4 | h4
        · exact h4.symm
        · have := hb a h3; have := ha b h4; omega
    subst e
    rw [asc_ext hl hm (fun t => by
      have h3 := h t
      rw [List.mem_cons, List.mem_cons] at h3
      constructor
      · intro ht
        rcases h3.1 (.inr ht) with h4 | h4
        · subst h4; have := ha t ht; omega
        · exact h4
      · intro ht
        rcases h3.2 (.inr ht) with h4 | h4
        · subst h4; have := hb t ht; omega
        · exact h4)]

theorem isLeast_ext {p q : Nat → Bool} {l m : List Nat} (h1 : IsLeast p l) (h2 : IsLeast q m) (hpq : ∀ t, t < 1024 → p t = q t) (hp : ∀ t, p t = true → t < 1024) (hq : ∀ t, q t = true → t < 1024) : l = m := by
  have e : p = q := by
    funext t
    rcases Nat.lt_or_ge t 1024 with h | h
    · exact hpq t h
    · cases ha : p t <;> cases hb : q t
      · rfl
      · have := hq t hb; omega
      · have := hp t ha; omega
      · rfl
  subst e
  exact asc_ext h1.1 h2.1 (fun t => by rw [h1.2.1 t, h2.2.1 t])

/-- Below each set of which p holds there is a least one. -/
theorem least_below {p : Nat → Bool} : ∀ (n t : Nat), t ≤ n → p t = true → ∃ y, p y = true ∧ subB y t = true ∧ ∀ z, p z = true → subB z y = true → z = y := by
  intro n
  induction n with
  | zero =>
    intro t ht hp
    obtain rfl : t = 0 := by omega
    exact ⟨0, hp, subB_refl _, fun z _ hz => by have := subB_le hz; omega⟩
  | succ n ih =>
    intro t ht hp
    by_cases h : ∃ z, p z = true ∧ subB z t = true ∧ z ≠ t
    · obtain ⟨z, h1, h2, h3⟩ := h
      have := subB_le h2
      obtain ⟨y, y1, y2, y3⟩ := ih z (by omega) h1
      exact ⟨y, y1, subB_trans y2 h2, y3⟩
    · exact ⟨t, hp, subB_refl _, fun z hz hs => Classical.byContradiction (fun hne => h ⟨z, hz, hs, hne⟩)⟩

/-- One set further. -/
theorem least_step {p : Nat → Bool} {n : Nat} (hn : ∀ t, p t = true → t < 2 ^ n) {L : List Nat} (hL : IsFind n p L) (q : Nat → Bool) (hq : ∀ t, q t = true ↔ (p t = true ∧ ∀ y, p y = true → subB y t = true → y = t)) {k s : Nat} (hk : L[k]? = some s) :
    ((L.take k).filter q).any (fun t => subB t s) = !q s := by
  have hps := ((hL.2.1 s).1 (List.mem_of_getElem? hk)).2
  rw [Bool.eq_iff_iff]
  simp only [Bool.not_eq_true', List.any_eq_true]
  constructor
  · rintro ⟨t, ht, hts⟩
    obtain ⟨ht1, ht2⟩ := List.mem_filter.1 ht
    cases hqs : q s
    · rfl
    · have e := ((hq s).1 hqs).2 t ((hq t).1 ht2).1 hts
      subst e
      obtain ⟨i, hi⟩ := List.mem_iff_getElem?.1 ht1
      have hik : i < k := by
        have := (List.getElem?_eq_some_iff.1 hi).1
        simp at this; omega
      rw [List.getElem?_take_of_lt hik] at hi
      have h2 := List.getElem?_eq_some_iff.1 hi
      have h3 := List.getElem?_eq_some_iff.1 hk
      obtain ⟨h2, e2⟩ := h2
      obtain ⟨h3, e3⟩ := h3
      have := List.pairwise_iff_getElem.1 hL.1 i k h2 h3 hik
      rw [e2, e3] at this
      omega
  · intro hqs
    obtain ⟨y, y1, y2, y3⟩ := least_below (p := p) s s (Nat.le_refl _) hps
    have hne : y ≠ s := by
      rintro rfl
      have := (hq y).2 ⟨hps, fun z hz hs => y3 z hz hs⟩
      rw [hqs] at this; cases this
    have hy : y ∈ L := (hL.2.1 y).2 ⟨hn y y1, y1⟩
    obtain ⟨i, hi⟩ := List.mem_iff_getElem?.1 hy
    have hik := asc_get hL.1 hi hk (subB_key y2 hne)
    refine ⟨y, List.mem_filter.2 ⟨List.mem_iff_getElem?.2 ⟨i, by rw [List.getElem?_take_of_lt hik]; exact hi⟩, (hq y).2 ⟨y1, y3⟩⟩, y2⟩

theorem least_end {p : Nat → Bool} (hn : ∀ t, p t = true → t < 1024) {L : List Nat} (hL : IsFind 10 p L) (q : Nat → Bool) (hq : ∀ t, q t = true ↔ (p t = true ∧ ∀ y, p y = true → subB y t = true → y = t)) : IsLeast p (L.filter q) :=
  ⟨hL.1.filter _, fun t => by
    rw [List.mem_filter, hL.2.1 t, hq t]
    constructor
    · rintro ⟨⟨h1, _⟩, h2, h3⟩; exact ⟨h1, h2, h3⟩
    · rintro ⟨h1, h2, h3⟩; exact ⟨⟨h1, h2⟩, h2, h3⟩, Nat.le_trans (List.length_filter_le _ _) hL.2.2⟩

/-- The sets of a list of ints. -/
def pz (z : List Int) (t : Nat) : Bool := decide (t < 1024) && decide ((t : Int) ∈ z)

theorem pz_iff {z : List Int} {t : Nat} : pz z t = true ↔ t < 1024 ∧ (t : Int) ∈ z := by unfold pz; simp

theorem pz_lt {z : List Int} {t : Nat} (h : pz z t = true) : t < 1024 := (pz_iff.1 h).1

/-- Is it a least one? -/
noncomputable def leB (p : Nat → Bool) (t : Nat) : Bool := @decide (p t = true ∧ ∀ y, p y = true → subB y t = true → y = t) (Classical.propDecidable _)

theorem leB_iff (p : Nat → Bool) (t : Nat) : leB p t = true ↔ (p t = true ∧ ∀ y, p y = true → subB y t = true → y = t) := by unfold leB; exact @decide_eq_true_iff _ (Classical.propDecidable _)

set_option maxRecDepth 100000 in
set_option maxHeartbeats 4000000 in
theorem pleast_run (P : Nat → Prop) (v : Value) (z : List Int) (w : World) (hz : z.length ≤ 1000000) (hN : NodesAt P w v z) :
    Calls Try.prog 12 #[v] w fun e w' => ∃ v' l, e = .returned v' ∧ w'.ownsRow w.heap.size 3 1 v' l.length ((zs l).map (Value.int .i64)) ∧ IsLeast (pz z) l ∧ Below w.heap.size w w' := by
  obtain ⟨i0, hin, hz0, hz1, hz2⟩ := info_parts infoInt
  obtain ⟨A, c, rfl, hN2⟩ := hN
  have HZ := run_storeCells_new (P := Try.prog) w 52 Try.zeroCells52 Try.zeroCells52 zc_info rfl zc_one
  have hT0 := ThereAt.zero w
  have hb0 := balloc (bref w) (.cells Try.zeroCells52 52)
  have H := Lib.hid hN2
  have HT0 := Lib.hid hT0
  have HB0 := Lib.hid hb0
  clear hN2 hT0 hb0
  go_enter Try.func12, Try.ntmps12
  go_wp2_with fail
  clear HZ
  generalize hg : w.heap.size = g at *
  have HG := Lib.hid hg
  clear hg
  generalize w.alloc (.cells Try.zeroCells52 52) = W1 at *
  go_loopw [12] (fun t W => ∃ k : Nat, k ≤ z.length ∧ t = .int .i64 k ∧ Hid (ThereAt W g (pz (z.take k))) ∧ Hid (Below g w W)) (fun t _ => z.length - (intOf t).toNat)
  case atStart => exact ⟨0, by omega, rfl, Lib.hid (HT0.out.congr (fun t ht => by unfold pz; simp)), HB0⟩
  case round =>
    clear HT0 HB0
    obtain ⟨k, hk, rfl, hT, hB⟩ := hrel
    by_cases hlt : k < z.length
    · obtain ⟨b, off, rfl, _, hcc⟩ := H.out k hlt
      have hx0 : z[k]? = some (z.getD k 0) := by rw [List.getD_eq_getElem?_getD, List.getElem?_eq_getElem hlt]; rfl
      have HTK := Lib.hid (show z.take (k + 1) = z.take k ++ [z.getD k 0] by rw [List.take_add_one, hx0]; rfl)
      clear hx0
      generalize z.getD k 0 = x at *
      have hbl : b < w.heap.size := cell_lt hcc
      rw [HG.out] at hbl
      have hc2 := (World.cell?_of_block (a := ⟨b, off + k, none⟩) (hB.out.block b hbl)).trans hcc
      clear hcc
      rcases (show setB x = false ∨ setB x = true by cases setB x <;> simp) with hq | hq
      · have HQ := Lib.hid hq
        have HT2 := Lib.hid (hT.out.congr (q := pz (z.take (k + 1))) (fun t ht => by
          unfold pz
          rw [HTK.out]
          have : ¬ (t : Int) = x := fun e => by
            have h2 : setB x = true := setB_iff.2 ⟨by omega, by omega⟩
            rw [hq] at h2; cases h2
          simp [this]))
        clear hq
        go_wp2_with fail
        refine (setValid_run _ _).mono ?_
        rintro e w2 ⟨rfl, rfl⟩
        rw [HQ.out]
        go_wp2_with fail
        go_roundw
        case rel => exact ⟨k + 1, by omega, by go_num, HT2, hB⟩
        case measure => simp [intOf]; omega
      · have HQ := Lib.hid hq
        obtain ⟨x0, x1⟩ := setB_iff.1 hq
        obtain ⟨s, rfl⟩ := Int.eq_ofNat_of_zero_le x0
        have hs : s < 1024 := by omega
        have HT2 := Lib.hid ((hT.out.set s hs).congr (q := pz (z.take (k + 1))) (fun t ht => by
          unfold pz
          rw [HTK.out, Bool.eq_iff_iff]
          simp only [Bool.and_eq_true, decide_eq_true_iff, Bool.or_eq_true, beq_iff_eq, List.mem_append, List.mem_singleton, Int.natCast_inj]
          by_cases e : t = s <;> simp [e, hs, ht]))
        have hcw := hT.out.cell s hs
        have hcf := hT.out.fr s
        have hsz := hT.out.lt
        have HB2 := Lib.hid (hB.out.setCell (p := ⟨g, s, none⟩) (Nat.le_refl g) (.bool true))
        clear hq
        go_wp2_with fail
        refine (setValid_run _ _).mono ?_
        rintro e w2 ⟨rfl, rfl⟩
        rw [HQ.out]
        go_wp2_with fail
        go_roundw
        case rel => exact ⟨k + 1, by omega, by go_num, HT2, HB2⟩
        case measure => simp [intOf]; omega
    · obtain rfl : k = z.length := by omega
      rw [List.take_length] at hT
      have HQ := Lib.hid (leB_iff (pz z))
      have HPL := Lib.hid (show ∀ t, pz z t = true → t < 1024 from fun t h => pz_lt h)
      generalize leB (pz z) = q at *
      have HE := Lib.hid (fun L hL => least_end (p := pz z) HPL.out (L := L) hL q HQ.out)
      have HST := Lib.hid (fun L hL k s hk => least_step (p := pz z) (n := 10) HPL.out (L := L) hL q HQ.out (k := k) (s := s) hk)
      clear H
      go_wp2_with fail
      refine (findL_run g 10 (by omega) (pz z) _ hT.out).mono ?_
      rintro e W2 ⟨vF, L, rfl, hownF, hF, hbF⟩
      have hNF := NodesAt.of_ownZ hownF
      obtain ⟨A2, c2, hvF⟩ := own_slice hownF
      subst hvF
      have hFlen := hF.2.2
      have HL := Lib.hid (fun k s hk => HST.out L hF k s hk)
      have HE2 := Lib.hid (HE.out L hF)
      have HLT := Lib.hid (fun t (ht : t ∈ L) => ((hF.2.1 t).1 ht).1)
      have hbs1 := hB.out.size
      have hgB : g ≤ wr.heap.size := by have := hB.out.size; rw [HG.out] at this; exact this
      have HB2 := Lib.hid (hB.out.trans (hbF.mono hgB))
      clear hB hF hbF hownF HE HST hT HPL HQ
      generalize hg2 : W2.heap.size = g2 at *
      have HNF := Lib.hid (hNF.both (Q := fun b => b < g2) (fun _ _ _ => rfl) (fun k hk _ => by rw [← hg2]; exact hk))
      have HG2 := Lib.hid hg2
      have hgg : g ≤ g2 := by have := HB2.out.size; rw [HG.out, hg2] at this; exact this
      clear hNF hg2
      go_wp2_with fail
      go_loopw [6, 24] (fun v t W => ∃ (k : Nat) (l : List Nat) (vv : Value), k ≤ L.length ∧ v = vv ∧ t = .int .i64 k ∧ W.ownsRow g2 3 1 vv l.length ((zs l).map (Value.int .i64)) ∧ Hid (l = (L.take k).filter q) ∧ Hid (Below g2 W2 W)) (fun _ t _ => L.length - (intOf t).toNat)
      case atStart => exact ⟨0, [], .slice none 0 0, by omega, rfl, rfl, World.ownsRow_nil _ _ _ _, Lib.hid rfl, Lib.hid (by rw [← HG2.out]; exact bref _)⟩
      case round =>
        obtain ⟨k, l, v, hk, hv, rfl, hown, hl, hB⟩ := hrel
        replace hv := hv.symm
        subst hv
        have hlen : l.length ≤ 1024 := by
          rw [hl.out]
          refine Nat.le_trans (List.length_filter_le _ _) ?_
          simp; omega
        have HOWN := Lib.hid hown
        by_cases hlt : k < L.length
        · obtain ⟨A', c', hv', hN3⟩ := HNF.out
          rw [zs_len] at hv'
          cases hv'
          obtain ⟨b, off, rfl, hPb, hcc⟩ := hN3 k (by rw [zs_len]; exact hlt)
          have hx0 : L[k]? = some (L.getD k 0) := by rw [List.getD_eq_getElem?_getD, List.getElem?_eq_getElem hlt]; rfl
          have HTK := Lib.hid (show L.take (k + 1) = L.take k ++ [L.getD k 0] by rw [List.take_add_one, hx0]; rfl)
          have HLS := Lib.hid (show l.any (fun t => subB t (L.getD k 0)) = !q (L.getD k 0) by rw [hl.out]; exact HL.out k _ hx0)
          have hs := HLT.out _ (List.mem_of_getElem? hx0)
          rw [zs_get] at hcc
          clear hx0 hN3
          generalize L.getD k 0 = x at *
          have hc2 := (World.cell?_of_block (a := ⟨b, off + k, none⟩) (hB.out.block b hPb)).trans hcc
          clear hcc hPb
          have HLM := Lib.hid (show ∀ t ∈ l, t < 1024 from fun t ht => by
            rw [hl.out] at ht
            exact HLT.out t (List.mem_of_mem_take (List.mem_filter.1 ht).1))
          have hbs : g2 ≤ wr.heap.size := by have := hB.out.size; rw [HG2.out] at this; exact this
          have hzl := zs_len l
          have hba := balloc (bref wr) (.cells #[.int .i64 (x : Int)] 3)
          have HBA := Lib.hid (hB.out.alloc hbs (.cells #[.int .i64 (x : Int)] 3))
          have HCX := Lib.hid (cell_of_row _ _ 0 _ _ (0, 0) (heap_alloc_new wr (.cells #[.int .i64 (x : Int)] 3)))
          have HOA := Lib.hid (hown.alloc (.cells #[.int .i64 (x : Int)] 3))
          clear hba hown
          go_wp2_with fail
          refine (containsL2_run (fun b => g2 ≤ b) v l wr.heap.size x _ (NodesAt.of_ownZ HOA.out) HLM.out (by omega) hs HCX.out).mono ?_
          rintro e w2 ⟨rfl, rfl⟩
          rw [HLS.out]
          rcases (show q x = false ∨ q x = true by cases q x <;> simp) with hq | hq
          · have HL2 := Lib.hid (show l = (L.take (k + 1)).filter q by rw [HTK.out, List.filter_append, ← hl.out]; simp [hq])
            have HQ := Lib.hid hq
            clear hq
            rw [HQ.out]
            go_wp2_with fail
            go_roundw
            case rel => exact ⟨k + 1, l, _, by omega, rfl, by go_num, HOA.out, HL2, HBA⟩
            case measure => simp [intOf]; omega
          · have HL2 := Lib.hid (show l ++ [x] = (L.take (k + 1)).filter q by rw [HTK.out, List.filter_append, ← hl.out]; simp [hq])
            have HQ := Lib.hid hq
            clear hq
            rw [HQ.out]
            generalize hW3 : wr.alloc (.cells #[.int .i64 (x : Int)] 3) = W3 at *
            have hsz3 : wr.heap.size ≤ W3.heap.size := by rw [← hW3]; simp
            clear hW3
            have hown := HOA.out
            have hcx := HCX.out
            go_wp2_with (at_builtin; refine wpList_append_own _ rfl _ _ 26 rfl g2 3 i0 (.int .i64 0) 1 8 Try.underlying26 hin hz0 hz1 hz2 rfl (by decide) _ _ _ rfl (hown.alloc _) ⟨W3.heap.size, 0, none⟩ 1 1 [.int .i64 (x : Int)] rfl rfl (cell_one_new _ _ _) (fun u hu => by simp at hu; subst hu; rfl) (by unfold maxLen; omega) (by omega) (by simp; omega) ?_; intro v' w1 hown' hgrow hnil)
            have HO := Lib.hid (own_snocZ hown')
            have HB4 := Lib.hid (Below.grown (HBA.out.alloc (by omega) (.cells #[.int .i64 (x : Int)] 3)) hgrow (by simp; omega) (fun j hj => (hown.lt j hj).1))
            clear hown' hgrow hnil hown hcx
            go_roundw
            case rel => exact ⟨k + 1, l ++ [x], _, by omega, rfl, by go_num, HO.out, HL2, HB4⟩
            case measure => simp [intOf]; omega
        · obtain rfl : k = L.length := by omega
          have HR := Lib.hid (show wr.ownsRow g 3 1 v l.length ((zs l).map (Value.int .i64)) ∧ IsLeast (pz z) l ∧ Below g w wr from by
            refine ⟨?_, ?_, ?_⟩
            · obtain ⟨h1, h2⟩ := hown
              refine ⟨h1, ?_⟩
              rcases h2 with h2 | ⟨gg, cap, cur, e1, e2, e3⟩
              · exact .inl h2
              · exact .inr ⟨gg, cap, cur, e1, Nat.le_trans hgg e2, e3⟩
            · have := HE2.out
              rw [hl.out, List.take_length]; exact this
            · exact HB2.out.trans (hB.out.mono hgg))
          obtain ⟨Ar, cr, hvr⟩ := own_slice hown
          subst hvr
          clear hown HOWN
          go_wp2_with fail
          go_ret
          exact ⟨_, l, rfl, by rw [HG.out]; exact HR.out⟩

end Go.Proofs.Ytobdnepmjcbjeaa

namespace Go.Proofs.Ytobdnepmjcbjeaa
set_option linter.unusedVariables false
set_option linter.unusedSimpArgs false
open Go.RowKit

/-- Is s a quorum? -/
noncomputable def qB (d : Nat) (ms : List Mem) (s : Nat) : Bool := @decide (s ≠ 0 ∧ Sub s (declS ms ms.length) ∧ Closed d ms s) (Classical.propDecidable _)

theorem qB_iff (d : Nat) (ms : List Mem) (s : Nat) : qB d ms s = true ↔ (s ≠ 0 ∧ Sub s (declS ms ms.length) ∧ Closed d ms s) := by unfold qB; exact @decide_eq_true_iff _ (Classical.propDecidable _)

/-- All quorums, ascending. -/
noncomputable def allQ (d : Nat) (ms : List Mem) : List Nat := (List.range (2 ^ ms.length)).filter (qB d ms)

theorem allQ_len (d : Nat) (ms : List Mem) (h : ms.length ≤ 10) : (allQ d ms).length ≤ 1024 := by
  have h10 : 2 ^ ms.length ≤ 2 ^ 10 := Nat.pow_le_pow_right (by omega) h
  unfold allQ
  exact Nat.le_trans (List.length_filter_le _ _) (by simp; omega)

theorem allQ_mem (d : Nat) (ms : List Mem) (t : Nat) : t ∈ allQ d ms ↔ (t < 2 ^ ms.length ∧ qB d ms t = true) := by unfold allQ; rw [List.mem_filter, List.mem_range]

set_option maxRecDepth 100000 in
set_option maxHeartbeats 4000000 in
theorem qall_run (P : Nat → Prop) (ms : List Mem) (v : Value) (w : World) (hl : ms.length ≤ 10) (h : MemsAt P 2 w v ms) (hok : MemsOk ms.length ms) :
    Calls Try.prog 27 #[.agg #[v]] w fun e w' => ∃ v', e = .returned (.tuple #[v', .int .i64 0]) ∧ w'.ownsRow w.heap.size 3 1 v' (allQ 2 ms).length ((zs (allQ 2 ms)).map (Value.int .i64)) ∧ Below w.heap.size w w' := by
  obtain ⟨i0, hin, hz0, hz1, hz2⟩ := info_parts infoInt
  obtain ⟨A, c, rfl⟩ := h.slice
  have hb1 : Below w.heap.size w (w.alloc (.cells #[.slice A ms.length c] 24)) := balloc (bref w) _
  have k0 : (w.alloc (.cells #[.slice A ms.length c] 24)).heap[w.heap.size]? = some (.cells #[.slice A ms.length c] 24 (0, 0)) := alloc_at rfl
  have hp := pow11 ms.length (by omega)
  have h10 : 2 ^ ms.length ≤ 2 ^ 10 := Nat.pow_le_pow_right (by omega) hl
  have HQA := Lib.hid (show allQ 2 ms = (List.range (2 ^ ms.length)).filter (qB 2 ms) from rfl)
  have HQI := Lib.hid (qB_iff 2 ms)
  generalize qB 2 ms = q at *
  generalize allQ 2 ms = aq at *
  obtain ⟨N, hN⟩ : ∃ N, 2 ^ ms.length = N := ⟨_, rfl⟩
  rw [hN] at hp h10 HQA
  clear hN
  have hn0 : (0 : Int) ≤ (ms.length : Int) := by omega
  have hn64 : ¬ (64 : Int) ≤ (ms.length : Int) := by omega
  have H := Lib.hid (h.below hb1)
  have HB := Lib.hid hb1
  have K0 := Lib.hid k0
  have HOK := Lib.hid hok
  clear h hb1 k0 hok
  go_enter Try.func27, Try.ntmps27
  go_upto_region 1 with fail
  generalize w.alloc (.cells #[.slice A ms.length c] 24) = W1 at *
  generalize hg : w.heap.size = g at *
  have HG := Lib.hid hg
  clear hg
  have c0 : W1.cell? ⟨g, 0, none⟩ = some (.slice A ms.length c) := cell_of_row _ _ 0 _ _ (0, 0) K0.out
  have hgl := cell_lt c0
  go_wp2_with fail
  refine (cvalid_run P ms _ _ hl H.out HOK.out).mono ?_
  rintro e W2 ⟨rfl, hb2⟩
  have HB2 := Lib.hid hb2
  have d0 := (hb2.cell hgl).trans c0
  have HM2 := Lib.hid (H.out.below hb2)
  have hgl2 := cell_lt d0
  clear hb2 c0
  go_wp2_with fail
  rw [hp]
  go_loopw [5, 16] (fun v t W => ∃ (k : Nat) (l : List Nat) (vv : Value), k ≤ N ∧ v = vv ∧ t = .int .i64 k ∧ W.ownsRow W2.heap.size 3 1 vv l.length ((zs l).map (Value.int .i64)) ∧ Hid (l = (List.range k).filter q) ∧ Hid (Below W2.heap.size W2 W)) (fun _ t _ => N - (intOf t).toNat)
  case atStart => exact ⟨0, [], .slice none 0 0, by omega, rfl, rfl, World.ownsRow_nil _ _ _ _, Lib.hid rfl, Lib.hid (bref _)⟩
  case round =>
    obtain ⟨k, l, v, hk, hv, rfl, hown, hL, hB⟩ := hrel
    replace hv := hv.symm
    subst hv
    have hlen : l.length ≤ k := by rw [hL.out]; exact Nat.le_trans (List.length_filter_le _ _) (by simp)
    have HOWN := Lib.hid hown
    have hbs := hB.out.size
    by_cases hlt : k < N
    · have e0 := (hB.out.cell hgl2).trans d0
      have HMk := Lib.hid (HM2.out.below hB.out)
      clear hown
      go_wp2_with fail
      refine (quorum_run P 2 ms _ k _ hl (by omega) HMk.out).mono ?_
      rintro e W5 ⟨b, rfl, hb, hb5⟩
      have HB5 := Lib.hid (bstep hB.out hb5)
      have HO5 := Lib.hid (own_keepG HOWN.out (fun j _ _ hl => hb5.block j hl))
      rcases (show b = false ∨ b = true by cases b <;> simp) with rfl | rfl
      · have hqk : q k = false := by
          cases hq : q k
          · rfl
          · exact absurd (hb.2 ((HQI.out k).1 hq)) (by simp)
        have HL2 := Lib.hid (show l = (List.range (k + 1)).filter q by rw [List.range_succ, List.filter_append, ← hL.out]; simp [hqk])
        clear hb hqk hb5
        go_wp2_with fail
        go_roundw
        case rel => exact ⟨k + 1, l, _, by omega, rfl, by go_num, HO5.out, HL2, HB5⟩
        case measure => simp [intOf]; omega
      · have hqk : q k = true := (HQI.out k).2 (hb.1 rfl)
        have HL2 := Lib.hid (show l ++ [k] = (List.range (k + 1)).filter q by rw [List.range_succ, List.filter_append, ← hL.out]; simp [hqk])
        have hown := HO5.out
        have hsz5 := hb5.size
        have hzl := zs_len l
        clear hb hqk hb5
        go_wp2_with (at_builtin; refine wpList_append_own _ rfl _ _ 26 rfl W2.heap.size 3 i0 (.int .i64 0) 1 8 Try.underlying26 hin hz0 hz1 hz2 rfl (by decide) _ _ _ rfl (hown.alloc _) ⟨W5.heap.size, 0, none⟩ 1 1 [.int .i64 (k : Int)] rfl rfl (cell_one_new _ _ _) (fun u hu => by simp at hu; subst hu; rfl) (by unfold maxLen; omega) (by omega) (by simp; omega) ?_; intro v' w1 hown' hgrow hnil)
        have HO := Lib.hid (own_snocZ hown')
        have HB6 := Lib.hid (Below.grown (balloc HB5.out (.cells #[.int .i64 (k : Int)] 3)) hgrow (by simp; omega) (fun j hj => (hown.lt j hj).1))
        clear hown' hgrow hnil hown
        go_roundw
        case rel => exact ⟨k + 1, l ++ [k], _, by omega, rfl, by go_num, HO.out, HL2, HB6⟩
        case measure => simp [intOf]; omega
    · obtain rfl : k = N := by omega
      have hla : l = aq := by rw [hL.out, HQA.out]
      subst hla
      have hg2 : g ≤ W2.heap.size := by omega
      have HR := Lib.hid (show wr.ownsRow g 3 1 v l.length ((zs l).map (Value.int .i64)) ∧ Below g w wr from by
        refine ⟨?_, ?_⟩
        · obtain ⟨h1, h2⟩ := hown
          refine ⟨h1, ?_⟩
          rcases h2 with h2 | ⟨gg, cap, cur, e1, e2, e3⟩
          · exact .inl h2
          · exact .inr ⟨gg, cap, cur, e1, Nat.le_trans hg2 e2, e3⟩
        · have h0 := HB.out
          rw [← HG.out] at h0
          have h1 := bstep (bstep h0 HB2.out) hB.out
          rwa [HG.out] at h1)
      obtain ⟨Ar, cr, hvr⟩ := own_slice hown
      subst hvr
      clear hown HOWN
      go_wp2_with fail
      go_ret2
      exact ⟨_, rfl, by rw [HG.out]; exact HR.out⟩

set_option maxHeartbeats 2000000 in
theorem qmin_run (P : Nat → Prop) (ms : List Mem) (v : Value) (w : World) (hl : ms.length ≤ 10) (h : MemsAt P 2 w v ms) (hok : MemsOk ms.length ms) :
    Calls Try.prog 13 #[.agg #[v]] w fun e w' => ∃ v' l, e = .returned (.tuple #[v', .int .i64 0]) ∧ w'.ownsRow w.heap.size 3 1 v' l.length ((zs l).map (Value.int .i64)) ∧ IsLeast (pz (zs (allQ 2 ms))) l ∧ Below w.heap.size w w' := by
  obtain ⟨A, c, rfl⟩ := h.slice
  have hb1 : Below w.heap.size w (w.alloc (.cells #[.slice A ms.length c] 24)) := balloc (bref w) _
  have k0 : (w.alloc (.cells #[.slice A ms.length c] 24)).heap[w.heap.size]? = some (.cells #[.slice A ms.length c] 24 (0, 0)) := alloc_at rfl
  have H := Lib.hid (h.below hb1)
  have HB := Lib.hid hb1
  have K0 := Lib.hid k0
  have HAL := Lib.hid (allQ_len 2 ms hl)
  have HQR := Lib.hid (fun W (hm : MemsAt P 2 W (.slice A ms.length c) ms) => qall_run P ms _ W hl hm hok)
  clear h hb1 k0 hok
  generalize allQ 2 ms = aq at *
  go_enter Try.func13, Try.ntmps13
  go_upto_region 1 with fail
  generalize w.alloc (.cells #[.slice A ms.length c] 24) = W1 at *
  have c0 : W1.cell? ⟨w.heap.size, 0, none⟩ = some (.slice A ms.length c) := cell_of_row _ _ 0 _ _ (0, 0) K0.out
  go_wp2_with fail
  refine (HQR.out _ H.out).mono ?_
  rintro e W2 ⟨v2, rfl, ho2, hb2⟩
  have HN := Lib.hid (NodesAt.of_ownZ ho2)
  have HB2 := Lib.hid (bstep HB.out hb2)
  obtain ⟨A2, c2, hv2⟩ := own_slice ho2
  subst hv2
  clear ho2 hb2 c0
  go_wp2_with fail
  refine (pleast_run _ _ (zs aq) _ (by rw [zs_len]; have := HAL.out; omega) HN.out).mono ?_
  rintro e W3 ⟨v3, l, rfl, ho3, hl3, hb3⟩
  have HF := Lib.hid (show W3.ownsRow w.heap.size 3 1 v3 l.length ((zs l).map (Value.int .i64)) ∧ IsLeast (pz (zs aq)) l ∧ Below w.heap.size w W3 from
    ⟨⟨ho3.1, by
      rcases ho3.2 with h2 | ⟨gg, cap, cur, e1, e2, e3⟩
      · exact .inl h2
      · exact .inr ⟨gg, cap, cur, e1, Nat.le_trans HB2.out.size e2, e3⟩⟩, hl3, bstep HB2.out hb3⟩)
  obtain ⟨A3, c3, hv3⟩ := own_slice ho3
  subst hv3
  clear ho3 hl3 hb3
  go_wp2_with fail
  go_ret2
  exact ⟨_, l, rfl, HF.out⟩

end Go.Proofs.Ytobdnepmjcbjeaa

namespace Go.Proofs.Ytobdnepmjcbjeaa
set_option linter.unusedVariables false
set_option linter.unusedSimpArgs false
open Go.RowKit

/-- The sets below 2^n of which p holds, in order. -/
def IsFound (n : Nat) (p : Nat → Bool) (l : List Nat) : Prop := Asc l ∧ (∀ t, t ∈ l ↔ (t < 2 ^ n ∧ p t = true)) ∧ l.length ≤ 1024

set_option maxRecDepth 100000 in
set_option maxHeartbeats 4000000 in
theorem findG_run (G tb n : Nat) (hn : n ≤ 10) (p : Nat → Bool) (w : World) (eg : ∀ args w, (callFunc G args).run Try.prog w = .ok (.enter G args) w)
    (hcl : ∀ k : Nat, k < 2 ^ n → ∀ W, Below w.heap.size w W → Calls Try.prog G #[.int .i64 (k : Int), .pointer (some ⟨tb, 0, none⟩)] W fun e w' => e = .returned (.bool (p k)) ∧ Below W.heap.size W w') :
    Calls Try.prog 23 #[.int .i64 (n : Int), .func (.func G) #[] #[.pointer (some ⟨tb, 0, none⟩)]] w fun e w' => ∃ v l, e = .returned v ∧ w'.ownsRow w.heap.size 3 1 v l.length ((zs l).map (Value.int .i64)) ∧ IsFound n p l ∧ Below w.heap.size w w' := by
  obtain ⟨i0, hin, hz0, hz1, hz2⟩ := info_parts infoInt
  have hp := pow11 n (by omega)
  have h10 : 2 ^ n ≤ 2 ^ 10 := Nat.pow_le_pow_right (by omega) hn
  have HF := Lib.hid (show ∀ l, IsFound n p l ↔ (Asc l ∧ (∀ t, t ∈ l ↔ (t < 2 ^ n ∧ p t = true)) ∧ l.length ≤ 1024) from fun _ => Iff.rfl)
  have hn0 : (0 : Int) ≤ (n : Int) := by omega
  have hn64 : ¬ (64 : Int) ≤ (n : Int) := by omega
  obtain ⟨N, hN⟩ : ∃ N, 2 ^ n = N := ⟨_, rfl⟩
  rw [hN] at hp h10 HF hcl
  clear hN
  have HCL := Lib.hid hcl
  clear hcl
  go_enter Try.func23, Try.ntmps23
  go_wp2_with fail
  go_loopw [5, 9] (fun v t W => ∃ (k : Nat) (l : List Nat) (vv : Value), k ≤ N ∧ v = vv ∧ t = .int .i64 k ∧ W.ownsRow w.heap.size 3 1 vv l.length ((zs l).map (Value.int .i64)) ∧ Hid (l = (List.range k).filter p) ∧ Hid (Below w.heap.size w W)) (fun _ t _ => N - (intOf t).toNat)
  case atStart => exact ⟨0, [], .slice none 0 0, by omega, rfl, rfl, World.ownsRow_nil _ _ _ _, Lib.hid rfl, Lib.hid (bref _)⟩
  case round =>
    obtain ⟨k, l, v, hk, hv, rfl, hown, hL, hB⟩ := hrel
    replace hv := hv.symm
    subst hv
    have hlen : l.length ≤ k := by rw [hL.out]; exact Nat.le_trans (List.length_filter_le _ _) (by simp)
    have HOWN := Lib.hid hown
    by_cases hlt : k < N
    · have hownk := hown
      clear hown
      go_wp2_with fail
      refine (HCL.out k hlt _ hB.out).mono ?_
      rintro e W5 ⟨rfl, hb5⟩
      have HB5 := Lib.hid (bstep hB.out hb5)
      have HO5 := Lib.hid (show W5.ownsRow w.heap.size 3 1 v l.length ((zs l).map (Value.int .i64)) from by
        refine ⟨hownk.1, ?_⟩
        rcases hownk.2 with h2 | ⟨gg, cap, cur, e1, e2, e3, e4⟩
        · exact .inl h2
        · exact .inr ⟨gg, cap, cur, e1, e2, (hb5.block gg (Array.getElem?_eq_some_iff.1 e3).1).trans e3, e4⟩)
      have hs5 := hb5.size
      have hs0 := hB.out.size
      clear hb5 hownk
      rcases (show p k = false ∨ p k = true by cases p k <;> simp) with hpk | hpk
      · have HL2 := Lib.hid (show l = (List.range (k + 1)).filter p by rw [List.range_succ, List.filter_append, ← hL.out]; simp [hpk])
        have HP := Lib.hid hpk
        clear hpk
        rw [HP.out]
        go_wp2_with fail
        go_roundw
        case rel => exact ⟨k + 1, l, _, by omega, rfl, by go_num, HO5.out, HL2, HB5⟩
        case measure => simp [intOf]; omega
      · have HL2 := Lib.hid (show l ++ [k] = (List.range (k + 1)).filter p by rw [List.range_succ, List.filter_append, ← hL.out]; simp [hpk])
        have HP := Lib.hid hpk
        have hzl := zs_len l
        have hown := HO5.out
        clear hpk
        rw [HP.out]
        go_wp2_with (at_builtin; refine wpList_append_own _ rfl _ _ 26 rfl w.heap.size 3 i0 (.int .i64 0) 1 8 Try.underlying26 hin hz0 hz1 hz2 rfl (by decide) _ _ _ rfl (hown.alloc _) ⟨W5.heap.size, 0, none⟩ 1 1 [.int .i64 (k : Int)] rfl rfl (cell_one_new _ _ _) (fun u hu => by simp at hu; subst hu; rfl) (by unfold maxLen; omega) (by omega) (by simp; omega) ?_; intro v' w1 hown' hgrow hnil)
        have HO := Lib.hid (own_snocZ hown')
        have HB4 := Lib.hid (Below.grown (balloc HB5.out (.cells #[.int .i64 (k : Int)] 3)) hgrow (by simp; omega) (fun j hj => (hown.lt j hj).1))
        clear hown' hgrow hnil hown
        go_roundw
        case rel => exact ⟨k + 1, l ++ [k], _, by omega, rfl, by go_num, HO.out, HL2, HB4⟩
        case measure => simp [intOf]; omega
    · obtain rfl : k = N := by omega
      have hmem : ∀ t ∈ l, t < 1024 := fun t ht => by
        rw [hL.out] at ht
        have := List.mem_range.1 (List.mem_filter.1 ht).1
        omega
      have hnd : l.Nodup := by rw [hL.out]; exact List.nodup_iff_pairwise_ne.2 ((List.nodup_iff_pairwise_ne.1 List.nodup_range).filter _)
      have HS := Lib.hid (fun W => sortN_run l hmem hnd v w.heap.size W (by omega))
      have HLT := Lib.hid (fun j hj => (hown.lt j hj).1)
      obtain ⟨A, c, hv⟩ := own_slice hown
      clear hown hmem hnd
      subst hv
      go_wp2_with fail
      refine (HS.out _ HOWN.out).mono ?_
      rintro e w2 ⟨rfl, m, hpm, hasc, hml, hown2, hg2⟩
      have HR := Lib.hid (show w2.ownsRow w.heap.size 3 1 (.slice A l.length c) m.length ((zs m).map (Value.int .i64)) ∧ IsFound n p m ∧ Below w.heap.size w w2 from
        ⟨by rw [hml]; exact hown2, (HF.out m).2 ⟨hasc, fun t => by rw [hpm.mem_iff, hL.out, List.mem_filter, List.mem_range], by omega⟩, Below.grown hB.out hg2 hB.out.size (fun j hj => HLT.out j hj)⟩)
      clear hown2 hg2 hpm hasc hml
      go_wp2_with fail
      go_ret
      exact ⟨_, m, rfl, HR.out⟩

end Go.Proofs.Ytobdnepmjcbjeaa

namespace Go.Proofs.Ytobdnepmjcbjeaa
set_option linter.unusedVariables false
set_option linter.unusedSimpArgs false
open Go.RowKit

theorem mAt {w : World} {o : Obj} {k : Nat} (h : w.heap.size = k) : (w.alloc o).heap[k]? = some o := by rw [← h]; exact heap_alloc_new _ _

theorem mOn {w : World} {o v : Obj} {k : Nat} (h : w.heap[k]? = some v) : (w.alloc o).heap[k]? = some v := by
  have hl : k < w.heap.size := by
    rcases Nat.lt_or_ge k w.heap.size with h1 | h1
    · exact h1
    · rw [Array.getElem?_eq_none h1] at h; cases h
  exact (heap_alloc_old _ _ hl).trans h

theorem mSz (w : World) (o : Obj) : (w.alloc o).heap.size = w.heap.size + 1 := by simp

set_option maxHeartbeats 1000000 in
theorem indexG_run (G tb : Nat) (p : Nat → Bool) (P : Nat → Prop) (v : Value) (ls : List Nat) (w : World) (eg : ∀ args w, (callFunc G args).run Try.prog w = .ok (.enter G args) w) (hlen : ls.length ≤ 100000) (hN : NodesAt P w v (zs ls))
    (hcl : ∀ x : Nat, x ∈ ls → ∀ W, Below w.heap.size w W → Calls Try.prog G #[.int .i64 (x : Int), .pointer (some ⟨tb, 0, none⟩)] W fun e w' => e = .returned (.bool (p x)) ∧ Below W.heap.size W w') :
    Calls Try.prog 42 #[v, .func (.func G) #[] #[.pointer (some ⟨tb, 0, none⟩)]] w fun e w' => (∃ i : Int, e = .returned (.int .i64 i) ∧ decide (0 ≤ i) = ls.any p) ∧ Below w.heap.size w w' := by
  obtain ⟨A, c, rfl, hN2⟩ := hN
  rw [zs_len] at hN2 ⊢
  have H := Lib.hid hN2
  have HCL := Lib.hid hcl
  clear hN2 hcl
  go_enter Try.func42, Try.ntmps42
  go_wp2_with fail
  go_loopw [8] (fun t W => ∃ k : Nat, k ≤ ls.length ∧ t = .int .i64 k ∧ Hid ((ls.take k).any p = false) ∧ Hid (Below w.heap.size w W)) (fun t _ => ls.length - (intOf t).toNat)
  case atStart => exact ⟨0, Nat.zero_le _, rfl, Lib.hid rfl, Lib.hid (bref _)⟩
  case round =>
    obtain ⟨k, hk, rfl, hA, hB⟩ := hrel
    by_cases hlt : k < ls.length
    · obtain ⟨b, off, rfl, hPb, hcc⟩ := H.out k hlt
      have hx0 : ls[k]? = some (ls.getD k 0) := by rw [List.getD_eq_getElem?_getD, List.getElem?_eq_getElem hlt]; rfl
      have hxm := List.mem_of_getElem? hx0
      rw [zs_get] at hcc
      have hc2 := (World.cell?_of_block (a := ⟨b, off + k, none⟩) (hB.out.block b (cell_lt hcc))).trans hcc
      have HTK := Lib.hid (show ls.take (k + 1) = ls.take k ++ [ls.getD k 0] by rw [List.take_add_one, hx0]; rfl)
      clear hx0 hPb hcc
      generalize ls.getD k 0 = x at *
      have HX := Lib.hid hxm
      clear hxm
      go_wp2_with fail
      refine (HCL.out x HX.out _ hB.out).mono ?_
      rintro e W5 ⟨rfl, hb5⟩
      have HB5 := Lib.hid (bstep hB.out hb5)
      clear hb5
      rcases (show p x = false ∨ p x = true by cases p x <;> simp) with hq | hq
      · have HQ := Lib.hid hq
        have HA2 := Lib.hid (show (ls.take (k + 1)).any p = false by rw [HTK.out, List.any_append, hA.out]; simp [hq])
        clear hq
        rw [HQ.out]
        go_wp2_with fail
        go_roundw
        case rel => exact ⟨k + 1, hlt, by go_num, HA2, HB5⟩
        case measure => simp [intOf]; omega
      · have HQ := Lib.hid hq
        have HA2 := Lib.hid (show ls.any p = true from List.any_eq_true.2 ⟨x, HX.out, hq⟩)
        clear hq
        rw [HQ.out]
        go_wp2_with fail
        go_ret
        exact ⟨⟨_, rfl, by rw [HA2.out]; exact decide_eq_true (by omega)⟩, HB5.out⟩
    · obtain rfl : k = ls.length := by omega
      have HA2 := Lib.hid (show ls.any p = false by have := hA.out; rwa [List.take_length] at this)
      go_wp2_with fail
      go_ret
      exact ⟨⟨_, rfl, by rw [HA2.out]; rfl⟩, hB.out⟩

set_option maxHeartbeats 1000000 in
theorem containsG_run (G tb : Nat) (p : Nat → Bool) (P : Nat → Prop) (v : Value) (ls : List Nat) (w : World) (eg : ∀ args w, (callFunc G args).run Try.prog w = .ok (.enter G args) w) (hlen : ls.length ≤ 100000) (hN : NodesAt P w v (zs ls))
    (hcl : ∀ x : Nat, x ∈ ls → ∀ W, Below w.heap.size w W → Calls Try.prog G #[.int .i64 (x : Int), .pointer (some ⟨tb, 0, none⟩)] W fun e w' => e = .returned (.bool (p x)) ∧ Below W.heap.size W w') :
    Calls Try.prog 25 #[v, .func (.func G) #[] #[.pointer (some ⟨tb, 0, none⟩)]] w fun e w' => e = .returned (.bool (ls.any p)) ∧ Below w.heap.size w w' := by
  have hN0 := hN
  obtain ⟨A, c, rfl, _⟩ := hN0
  have HI := Lib.hid (indexG_run G tb p P _ ls w eg hlen hN hcl)
  clear hN hcl
  go_enter Try.func25, Try.ntmps25
  go_wp2_with fail
  refine HI.out.mono ?_
  rintro e w2 ⟨⟨i, rfl, hi⟩, hb⟩
  have HQ := Lib.hid hi
  have HB := Lib.hid hb
  clear hi hb
  go_wp2_with fail
  go_ret
  exact ⟨by rw [← HQ.out]; rfl, HB.out⟩

set_option maxHeartbeats 1000000 in
theorem meet1_run (t n : Nat) (nb : Nat) (hn : n ≤ 10) (ht : t < 2 ^ n) (w : World) (h : w.cell? ⟨nb, 0, none⟩ = some (.int .i64 (n : Int))) :
    Calls Try.prog 28 #[.int .i64 (t : Int), .pointer (some ⟨nb, 0, none⟩)] w fun e w' => e = .returned (.bool false) ∧ Below w.heap.size w w' := by
  have hp := pow11 n (by omega)
  obtain ⟨N, hN⟩ : ∃ N, 2 ^ n = N := ⟨_, rfl⟩
  rw [hN] at hp ht
  clear hN
  have hn0 : (0 : Int) ≤ (n : Int) := by omega
  have hn64 : ¬ (64 : Int) ≤ (n : Int) := by omega
  have q1 : ¬ (t : Int) < 0 := by omega
  have q2 : ¬ (N : Int) ≤ (t : Int) := by omega
  go_enter Try.func28, Try.ntmps28
  go_wp2_with fail
  go_ret
  exact ⟨rfl, bref _⟩

set_option maxHeartbeats 1000000 in
theorem meet21_run (t s : Nat) (sb : Nat) (ht : t < 1024) (hs : s < 1024) (w : World) (h : w.cell? ⟨sb, 0, none⟩ = some (.int .i64 (s : Int))) :
    Calls Try.prog 30 #[.int .i64 (t : Int), .pointer (some ⟨sb, 0, none⟩)] w fun e w' => e = .returned (.bool (s &&& t == 0)) ∧ Below w.heap.size w w' := by
  have q1 := i64_and_nat s t (by omega) (by omega)
  have HQ := Lib.hid (show (((s &&& t : Nat) : Int) == 0) = (s &&& t == 0) from by
    rw [Bool.eq_iff_iff]; simp only [beq_iff_eq]; omega)
  go_enter Try.func30, Try.ntmps30
  go_wp2_with fail
  go_ret
  exact ⟨by rw [← HQ.out]; rfl, bref _⟩

theorem enters_m21 : ∀ args w, (callFunc 30 args).run Try.prog w = .ok (.enter 30 args) w := enters_of Try.func30 (by kernel_rfl) rfl

theorem enters_m2 : ∀ args w, (callFunc 29 args).run Try.prog w = .ok (.enter 29 args) w := enters_of Try.func29 (by kernel_rfl) rfl

theorem enters_m1 : ∀ args w, (callFunc 28 args).run Try.prog w = .ok (.enter 28 args) w := enters_of Try.func28 (by kernel_rfl) rfl

set_option maxHeartbeats 1000000 in
theorem meet2_run (P : Nat → Prop) (A : Option Addr) (n c : Nat) (ls : List Nat) (lb s : Nat) (hl : ∀ t ∈ ls, t < 1024) (hlen : ls.length ≤ 1024) (hs : s < 1024) (w : World) (h : w.cell? ⟨lb, 0, none⟩ = some (.slice A n c)) (hN : NodesAt P w (.slice A n c) (zs ls)) :
    Calls Try.prog 29 #[.int .i64 (s : Int), .pointer (some ⟨lb, 0, none⟩)] w fun e w' => e = .returned (.bool (!ls.any (fun t => s &&& t == 0))) ∧ Below w.heap.size w w' := by
  have hba := balloc (bref w) (.cells #[.int .i64 (s : Int)] 3)
  have hcs : (w.alloc (.cells #[.int .i64 (s : Int)] 3)).cell? ⟨w.heap.size, 0, none⟩ = some (.int .i64 (s : Int)) := cell_of_row _ _ 0 _ _ (0, 0) (heap_alloc_new _ _)
  have hcl := (hba.cell (cell_lt h)).trans h
  have HC := Lib.hid (containsG_run 30 w.heap.size (fun t => s &&& t == 0) P (.slice A n c) ls (w.alloc (.cells #[.int .i64 (s : Int)] 3)) enters_m21 (by omega) (hN.below hba) (fun x hx W hB => meet21_run x s w.heap.size (hl x hx) hs W ((hB.cell (cell_lt hcs)).trans hcs)))
  have HBA := Lib.hid hba
  clear hN hl hcs
  go_enter Try.func29, Try.ntmps29
  go_wp2_with fail
  refine HC.out.mono ?_
  rintro e w2 ⟨rfl, hb⟩
  have HB := Lib.hid (bstep HBA.out hb)
  clear hb
  go_wp2_with fail
  go_ret
  exact ⟨rfl, HB.out⟩

/-- Does s meet all sets of the list, and has only nodes below n? -/
def meetB (n : Nat) (ls : List Nat) (s : Nat) : Bool := decide (s < 2 ^ n) && !ls.any (fun t => s &&& t == 0)

set_option maxRecDepth 100000 in
set_option maxHeartbeats 4000000 in
theorem pmeeting_run (P : Nat → Prop) (v : Value) (ls : List Nat) (n : Nat) (hn : n ≤ 10) (hl : ∀ t ∈ ls, t < 2 ^ n) (hlen : ls.length ≤ 1024) (w : World) (hN : NodesAt P w v (zs ls)) :
    Calls Try.prog 14 #[v, .int .i64 (n : Int)] w fun e w' => ∃ v' m, e = .returned (.tuple #[v', .int .i64 0]) ∧ w'.ownsRow w.heap.size 3 1 v' m.length ((zs m).map (Value.int .i64)) ∧ IsLeast (meetB n ls) m ∧ Below w.heap.size w w' := by
  have h10 : 2 ^ n ≤ 2 ^ 10 := Nat.pow_le_pow_right (by omega) hn
  have hl10 : ∀ t ∈ ls, t < 1024 := fun t ht => Nat.lt_of_lt_of_le (hl t ht) h10
  obtain ⟨A, c, rfl, _⟩ := id hN
  rw [zs_len]
  obtain ⟨L, hL⟩ : ∃ L, ls.length = L := ⟨_, rfl⟩
  have HN0 := Lib.hid (show NodesAt P w (.slice A L c) (zs ls) by rw [← hL, ← zs_len ls]; exact hN)
  have hL10 : L ≤ 1024 := by omega
  rw [hL]
  have hb2 := balloc (balloc (bref w) (.cells #[.slice A L c] 26)) (.cells #[.int .i64 (n : Int)] 3)
  have k1 : ((w.alloc (.cells #[.slice A L c] 26)).alloc (.cells #[.int .i64 (n : Int)] 3)).cell? ⟨w.heap.size, 0, none⟩ = some (.slice A L c) := cell_of_row _ _ 0 _ _ (0, 0) (mOn (mAt rfl))
  have k2 : ((w.alloc (.cells #[.slice A L c] 26)).alloc (.cells #[.int .i64 (n : Int)] 3)).cell? ⟨w.heap.size + 1, 0, none⟩ = some (.int .i64 (n : Int)) := cell_of_row _ _ 0 _ _ (0, 0) (mAt (mSz _ _))
  have HN2 := Lib.hid (HN0.out.below hb2)
  have HB2 := Lib.hid hb2
  have HL := Lib.hid hL
  have HLN := Lib.hid hl
  have HL10 := Lib.hid hl10
  clear hN hb2 hL hl hl10 HN0
  go_enter Try.func14, Try.ntmps14
  go_upto_region 1 with fail
  generalize (w.alloc (.cells #[.slice A L c] 26)).alloc (.cells #[.int .i64 (n : Int)] 3) = W1 at *
  generalize hg : w.heap.size = g at *
  have HG := Lib.hid hg
  clear hg
  have q1 : ¬ (n : Int) < 0 := by omega
  have q2 : ¬ (10 : Int) < (n : Int) := by omega
  go_wp2_with fail
  refine (containsG_run 28 (g + 1) (fun _ => false) P _ ls _ enters_m1 (by have := HL.out; omega) HN2.out (fun x hx W hB => meet1_run x n (g + 1) hn (HLN.out x hx) W ((hB.cell (cell_lt k2)).trans k2))).mono ?_
  rintro e W3 ⟨rfl, hb3⟩
  rw [show ls.any (fun _ => false) = false by simp]
  have j1 := (hb3.cell (cell_lt k1)).trans k1
  have j2 := (hb3.cell (cell_lt k2)).trans k2
  have HN3 := Lib.hid (HN2.out.below hb3)
  have HB3 := Lib.hid hb3
  have q3 : ¬ (1024 : Int) < (L : Int) := by omega
  clear hb3 k1 k2 HN2
  go_wp2_with fail
  refine (findG_run 29 g n hn (fun s => !ls.any (fun t => s &&& t == 0)) _ enters_m2 (fun s hs W hB => meet2_run P A L c ls g s HL10.out (by have := HL.out; omega) (Nat.lt_of_lt_of_le hs h10) W ((hB.cell (cell_lt j1)).trans j1) (HN3.out.below hB))).mono ?_
  rintro e W4 ⟨vf, F, rfl, hof, hF, hb4⟩
  have HN4 := Lib.hid (NodesAt.of_ownZ hof)
  have HFL := Lib.hid hF.2.2
  have HFE := Lib.hid (show pz (zs F) = meetB n ls from by
    funext t
    rw [Bool.eq_iff_iff, pz_iff]
    unfold zs meetB
    rw [List.mem_map, Bool.and_eq_true, decide_eq_true_iff]
    constructor
    · rintro ⟨_, x, hx, e⟩
      obtain rfl := Int.ofNat.inj e
      exact (hF.2.1 x).1 hx
    · intro h
      exact ⟨by omega, t, (hF.2.1 t).2 h, rfl⟩)
  have HB4 := Lib.hid hb4
  obtain ⟨Af, cf, hvf⟩ := own_slice hof
  subst hvf
  clear hof hF hb4 j1 j2 HN3
  go_wp2_with fail
  refine (pleast_run _ _ (zs F) _ (by rw [zs_len]; have := HFL.out; omega) HN4.out).mono ?_
  rintro e W5 ⟨v5, m, rfl, ho5, hm5, hb5⟩
  rw [HFE.out] at hm5
  have HR := Lib.hid (show W5.ownsRow w.heap.size 3 1 v5 m.length ((zs m).map (Value.int .i64)) ∧ IsLeast (meetB n ls) m ∧ Below w.heap.size w W5 from by
    have h0 := HB2.out
    rw [← HG.out] at h0
    have h1 := bstep (bstep h0 HB3.out) HB4.out
    refine ⟨⟨ho5.1, ?_⟩, hm5, bstep h1 hb5⟩
    rcases ho5.2 with h2 | ⟨gg, cap, cur, e1, e2, e3⟩
    · exact .inl h2
    · exact .inr ⟨gg, cap, cur, e1, Nat.le_trans h1.size e2, e3⟩)
  obtain ⟨A5, c5, hv5⟩ := own_slice ho5
  subst hv5
  clear ho5 hm5 hb5
  go_wp2_with fail
  go_ret2
  exact ⟨_, m, rfl, by rw [← HG.out]; exact HR.out⟩

end Go.Proofs.Ytobdnepmjcbjeaa

namespace Go.Proofs.Ytobdnepmjcbjeaa
set_option linter.unusedVariables false
set_option linter.unusedSimpArgs false
open Go.RowKit

noncomputable def spB (ms : List Mem) (s : Nat) : Bool := @decide (Spl ms s) (Classical.propDecidable _)

theorem spB_iff (ms : List Mem) (s : Nat) : spB ms s = true ↔ Spl ms s := by unfold spB; exact @decide_eq_true_iff _ (Classical.propDecidable _)

/-- All sets that split, ascending. -/
noncomputable def allS (ms : List Mem) : List Nat := (List.range (2 ^ ms.length)).filter (spB ms)

theorem allS_len (ms : List Mem) (h : ms.length ≤ 10) : (allS ms).length ≤ 1024 := by
  have h10 : 2 ^ ms.length ≤ 2 ^ 10 := Nat.pow_le_pow_right (by omega) h
  unfold allS
  exact Nat.le_trans (List.length_filter_le _ _) (by simp; omega)

theorem allS_mem (ms : List Mem) (t : Nat) : t ∈ allS ms ↔ (t < 2 ^ ms.length ∧ spB ms t = true) := by unfold allS; rw [List.mem_filter, List.mem_range]

set_option maxRecDepth 100000 in
set_option maxHeartbeats 4000000 in
theorem splitting_run (P : Nat → Prop) (ms : List Mem) (v : Value) (w : World) (hl : ms.length ≤ 7) (h : MemsAt P 2 w v ms) (hok : MemsOk ms.length ms) :
    Calls Try.prog 5 #[.agg #[v]] w fun e w' => ∃ v' l, e = .returned (.tuple #[v', .int .i64 0]) ∧ w'.ownsRow w.heap.size 3 1 v' l.length ((zs l).map (Value.int .i64)) ∧ IsLeast (pz (zs (allS ms))) l ∧ Below w.heap.size w w' := by
  have hl10 : ms.length ≤ 10 := by omega
  obtain ⟨i0, hin, hz0, hz1, hz2⟩ := info_parts infoInt
  obtain ⟨A, c, rfl⟩ := h.slice
  have hb1 : Below w.heap.size w (w.alloc (.cells #[.slice A ms.length c] 24)) := balloc (bref w) _
  have k0 : (w.alloc (.cells #[.slice A ms.length c] 24)).heap[w.heap.size]? = some (.cells #[.slice A ms.length c] 24 (0, 0)) := alloc_at rfl
  have hp := pow11 ms.length (by omega)
  have h10 : 2 ^ ms.length ≤ 2 ^ 10 := Nat.pow_le_pow_right (by omega) hl10
  have HQA := Lib.hid (show allS ms = (List.range (2 ^ ms.length)).filter (spB ms) from rfl)
  have HAL := Lib.hid (allS_len ms hl10)
  have HQI := Lib.hid (spB_iff ms)
  generalize spB ms = q at *
  generalize allS ms = aq at *
  obtain ⟨N, hN⟩ : ∃ N, 2 ^ ms.length = N := ⟨_, rfl⟩
  rw [hN] at hp h10 HQA
  have HNN := Lib.hid hN
  clear hN
  have hn0 : (0 : Int) ≤ (ms.length : Int) := by omega
  have hn64 : ¬ (64 : Int) ≤ (ms.length : Int) := by omega
  have H := Lib.hid (h.below hb1)
  have HB := Lib.hid hb1
  have K0 := Lib.hid k0
  have HOK := Lib.hid hok
  clear h hb1 k0 hok
  go_enter Try.func5, Try.ntmps5
  go_upto_region 1 with fail
  generalize w.alloc (.cells #[.slice A ms.length c] 24) = W1 at *
  generalize hg : w.heap.size = g at *
  have HG := Lib.hid hg
  clear hg
  have c0 : W1.cell? ⟨g, 0, none⟩ = some (.slice A ms.length c) := cell_of_row _ _ 0 _ _ (0, 0) K0.out
  have hgl := cell_lt c0
  go_wp2_with fail
  refine (cvalid_run P ms _ _ hl10 H.out HOK.out).mono ?_
  rintro e W2 ⟨rfl, hb2⟩
  have HB2 := Lib.hid hb2
  have d0 := (hb2.cell hgl).trans c0
  have HM2 := Lib.hid (H.out.below hb2)
  have hgl2 := cell_lt d0
  clear hb2 c0
  go_wp2_with fail
  rw [hp]
  go_loopw [5, 22] (fun v t W => ∃ (k : Nat) (l : List Nat) (vv : Value), k ≤ N ∧ v = vv ∧ t = .int .i64 k ∧ W.ownsRow W2.heap.size 3 1 vv l.length ((zs l).map (Value.int .i64)) ∧ Hid (l = (List.range k).filter q) ∧ Hid (Below W2.heap.size W2 W)) (fun _ t _ => N - (intOf t).toNat)
  case atStart => exact ⟨0, [], .slice none 0 0, by omega, rfl, rfl, World.ownsRow_nil _ _ _ _, Lib.hid rfl, Lib.hid (bref _)⟩
  case round =>
    obtain ⟨k, l, v, hk, hv, rfl, hown, hL, hB⟩ := hrel
    replace hv := hv.symm
    subst hv
    have hlen : l.length ≤ k := by rw [hL.out]; exact Nat.le_trans (List.length_filter_le _ _) (by simp)
    have HOWN := Lib.hid hown
    have hbs := hB.out.size
    by_cases hlt : k < N
    · have e0 := (hB.out.cell hgl2).trans d0
      have HMk := Lib.hid (HM2.out.below hB.out)
      clear hown
      go_wp2_with fail
      refine (splits_run P ms _ k _ hl10 (by rw [HNN.out]; exact hlt) HMk.out HOK.out).mono ?_
      rintro e W5 ⟨⟨b, rfl, hb⟩, hb5⟩
      have HB5 := Lib.hid (bstep hB.out hb5)
      have HO5 := Lib.hid (own_keepG HOWN.out (fun j _ _ hl => hb5.block j hl))
      rcases (show b = false ∨ b = true by cases b <;> simp) with rfl | rfl
      · have hqk : q k = false := by
          cases hq : q k
          · rfl
          · exact absurd (hb.2 ((HQI.out k).1 hq)) (by simp)
        have HL2 := Lib.hid (show l = (List.range (k + 1)).filter q by rw [List.range_succ, List.filter_append, ← hL.out]; simp [hqk])
        clear hb hqk hb5
        go_wp2_with fail
        go_roundw
        case rel => exact ⟨k + 1, l, _, by omega, rfl, by go_num, HO5.out, HL2, HB5⟩
        case measure => simp [intOf]; omega
      · have hqk : q k = true := (HQI.out k).2 (hb.1 rfl)
        have HL2 := Lib.hid (show l ++ [k] = (List.range (k + 1)).filter q by rw [List.range_succ, List.filter_append, ← hL.out]; simp [hqk])
        have hown := HO5.out
        have hsz5 := hb5.size
        have hzl := zs_len l
        clear hb hqk hb5
        go_wp2_with (at_builtin; refine wpList_append_own _ rfl _ _ 26 rfl W2.heap.size 3 i0 (.int .i64 0) 1 8 Try.underlying26 hin hz0 hz1 hz2 rfl (by decide) _ _ _ rfl (hown.alloc _) ⟨W5.heap.size, 0, none⟩ 1 1 [.int .i64 (k : Int)] rfl rfl (cell_one_new _ _ _) (fun u hu => by simp at hu; subst hu; rfl) (by unfold maxLen; omega) (by omega) (by simp; omega) ?_; intro v' w1 hown' hgrow hnil)
        have HO := Lib.hid (own_snocZ hown')
        have HB6 := Lib.hid (Below.grown (balloc HB5.out (.cells #[.int .i64 (k : Int)] 3)) hgrow (by simp; omega) (fun j hj => (hown.lt j hj).1))
        clear hown' hgrow hnil hown
        go_roundw
        case rel => exact ⟨k + 1, l ++ [k], _, by omega, rfl, by go_num, HO.out, HL2, HB6⟩
        case measure => simp [intOf]; omega
    · obtain rfl : k = N := by omega
      have hla : l = aq := by rw [hL.out, HQA.out]
      subst hla
      have HNL := Lib.hid (NodesAt.of_ownZ hown)
      have HBF := Lib.hid (show Below w.heap.size w wr from by
        have h0 := HB.out
        rw [← HG.out] at h0
        exact bstep (bstep h0 HB2.out) hB.out)
      obtain ⟨Ar, cr, hvr⟩ := own_slice hown
      subst hvr
      clear hown HOWN
      go_wp2_with fail
      refine (pleast_run _ _ (zs l) _ (by rw [zs_len]; have := HAL.out; omega) HNL.out).mono ?_
      rintro e W7 ⟨v7, l7, rfl, ho7, hl7, hb7⟩
      have HF := Lib.hid (show W7.ownsRow w.heap.size 3 1 v7 l7.length ((zs l7).map (Value.int .i64)) ∧ IsLeast (pz (zs l)) l7 ∧ Below w.heap.size w W7 from
        ⟨⟨ho7.1, by
          rcases ho7.2 with h2 | ⟨gg, cap, cur, e1, e2, e3⟩
          · exact .inl h2
          · exact .inr ⟨gg, cap, cur, e1, Nat.le_trans HBF.out.size e2, e3⟩⟩, hl7, bstep HBF.out hb7⟩)
      obtain ⟨A3, c3, hv3⟩ := own_slice ho7
      subst hv3
      clear ho7 hl7 hb7
      go_wp2_with fail
      go_ret2
      exact ⟨_, l7, rfl, HF.out⟩

set_option maxRecDepth 100000 in
set_option maxHeartbeats 4000000 in
theorem halting_run (P : Nat → Prop) (ms : List Mem) (v : Value) (w : World) (hl : ms.length ≤ 10) (h : MemsAt P 2 w v ms) (hok : MemsOk ms.length ms) :
    Calls Try.prog 6 #[.agg #[v]] w fun e w' => ∃ v' l q, e = .returned (.tuple #[v', .int .i64 0]) ∧ w'.ownsRow w.heap.size 3 1 v' l.length ((zs l).map (Value.int .i64)) ∧ IsLeast (pz (zs (allQ 2 ms))) q ∧ IsLeast (meetB ms.length q) l ∧ Below w.heap.size w w' := by
  obtain ⟨A, c, rfl⟩ := h.slice
  have hb1 : Below w.heap.size w (w.alloc (.cells #[.slice A ms.length c] 24)) := balloc (bref w) _
  have k0 : (w.alloc (.cells #[.slice A ms.length c] 24)).heap[w.heap.size]? = some (.cells #[.slice A ms.length c] 24 (0, 0)) := alloc_at rfl
  have H := Lib.hid (h.below hb1)
  have HB := Lib.hid hb1
  have K0 := Lib.hid k0
  have HQR := Lib.hid (fun W (hm : MemsAt P 2 W (.slice A ms.length c) ms) => qmin_run P ms _ W hl hm hok)
  have HAM := Lib.hid (allQ_mem 2 ms)
  clear h hb1 k0 hok
  generalize allQ 2 ms = aq at *
  go_enter Try.func6, Try.ntmps6
  go_upto_region 1 with fail
  generalize w.alloc (.cells #[.slice A ms.length c] 24) = W1 at *
  generalize hg : w.heap.size = g at *
  have HG := Lib.hid hg
  clear hg
  have c0 : W1.cell? ⟨g, 0, none⟩ = some (.slice A ms.length c) := cell_of_row _ _ 0 _ _ (0, 0) K0.out
  have HBw := Lib.hid (show Below w.heap.size w W1 by rw [HG.out]; exact HB.out)
  go_wp2_with fail
  refine (HQR.out _ H.out).mono ?_
  rintro e W2 ⟨v2, q, rfl, ho2, hq2, hb2⟩
  have c2 := (hb2.cell (cell_lt c0)).trans c0
  have HN := Lib.hid (NodesAt.of_ownZ ho2)
  have HB2 := Lib.hid (bstep HBw.out hb2)
  have HQ := Lib.hid hq2
  have HQL := Lib.hid (show ∀ t ∈ q, t < 2 ^ ms.length from fun t ht => by
    have h1 := ((hq2.2.1 t).1 ht).2.1
    have h2 : t ∈ aq := by
      unfold pz at h1
      have h3 := of_decide_eq_true (Bool.and_eq_true_iff.1 h1).2
      unfold zs at h3
      obtain ⟨a, h4, h5⟩ := List.mem_map.1 h3
      have : a = t := by omega
      rw [← this]; exact h4
    exact ((HAM.out t).1 h2).1)
  have hql := hq2.2.2
  obtain ⟨A2, c3, hv2⟩ := own_slice ho2
  subst hv2
  clear ho2 hb2 c0 hq2
  go_wp2_with fail
  refine (pmeeting_run _ _ q ms.length hl HQL.out hql _ HN.out).mono ?_
  rintro e W3 ⟨v3, l, rfl, ho3, hl3, hb3⟩
  have HF := Lib.hid (show W3.ownsRow w.heap.size 3 1 v3 l.length ((zs l).map (Value.int .i64)) ∧ IsLeast (pz (zs aq)) q ∧ IsLeast (meetB ms.length q) l ∧ Below w.heap.size w W3 from
    ⟨⟨ho3.1, by
      rcases ho3.2 with h2 | ⟨gg, cap, cur, e1, e2, e3⟩
      · exact .inl h2
      · exact .inr ⟨gg, cap, cur, e1, Nat.le_trans HB2.out.size e2, e3⟩⟩, HQ.out, hl3, bstep HB2.out hb3⟩)
  obtain ⟨A3, c4, hv3⟩ := own_slice ho3
  subst hv3
  clear ho3 hl3 hb3
  go_wp2_with fail
  go_ret2
  exact ⟨_, l, q, rfl, HF.out⟩

end Go.Proofs.Ytobdnepmjcbjeaa
