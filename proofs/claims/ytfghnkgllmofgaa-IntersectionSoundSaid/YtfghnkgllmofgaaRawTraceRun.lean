/- Fused. -/
import Derived.Test.YtfghnkgllmofgaaRawRight
import Derived.Test.YtfghnkgllmofgaaTrace
import Derived.Test.YtfghnkgllmofgaaSearch
import Derived.Test.YtfghnkgllmofgaaRestrictRun
import Derived.Test.YtfghnkgllmofgaaRefHolds
import Derived.Test.YtfghnkgllmofgaaRefGr
import Derived.Test.YtfghnkgllmofgaaHeldF
namespace Go.Proofs.Ytfghnkgllmofgaa
set_option linter.unusedVariables false
set_option linter.unusedSimpArgs false
open Go.RowKit

theorem infoTrc : (Try.prog.info? 31).map (fun i => (i.zero, i.size, i.bytes)) = some (some (.agg #[.int .i64 0, .int .i64 0, .slice none 0 0]), 3, 40) := by kernel_rfl
/-- Children in a row of its own, of at most n levels. -/
def KidsAt (B n : Nat) (W : World) (v : Value) (k : Nat) : Prop :=
  ∃ cs : List Value, W.ownsRow B 31 3 v k cs ∧ ∀ i, i < k → ∃ x0 x1 x2, cs[i * 3]? = some x0 ∧ cs[i * 3 + 1]? = some x1 ∧ cs[i * 3 + 2]? = some x2 ∧ RawT (fun b => B ≤ b ∧ v.ownBlock ≠ some b) n W x0 x1 x2
theorem KidsAt.nil (B n : Nat) (W : World) : KidsAt B n W (.slice none 0 0) 0 := ⟨[], World.ownsRow_nil _ _ _ _, fun i h => by omega⟩
theorem KidsAt.own {B n k : Nat} {W : World} {v : Value} (h : KidsAt B n W v k) : ∀ j, v.ownBlock = some j → B ≤ j ∧ j < W.heap.size := by
  obtain ⟨cs, h1, _⟩ := h
  exact h1.lt
theorem RawT.keep {P : Nat → Prop} {w w' : World} {n : Nat} {k nd s : Value} (hs : w.heap.size ≤ w'.heap.size) (hk : ∀ q, q < w.heap.size → P q → w'.heap[q]? = w.heap[q]?) (h : RawT P n w k nd s) : RawT P n w' k nd s := h.both hs hk (fun _ _ h => h)
theorem RawT.imp {P Q : Nat → Prop} {w : World} {n : Nat} {k nd s : Value} (hq : ∀ q, q < w.heap.size → P q → Q q) (h : RawT P n w k nd s) : RawT Q n w k nd s := h.both (Nat.le_refl _) (fun _ _ _ => rfl) hq
theorem KidsAt.keep {B n k : Nat} {W W' : World} {v : Value} (h : KidsAt B n W v k) {r : Option Nat} (hg : W.grownBy W' r) (hr : ∀ j, r = some j → j < B) : KidsAt B n W' v k := by
  obtain ⟨cs, h1, h2⟩ := h
  refine ⟨cs, h1.kept hg ?_, fun i hi => ?_⟩
  · rcases hv : v.ownBlock with _ | j
    · exact .inl rfl
    · right; intro e; have := hr j e.symm; have := (h1.lt j hv).1; omega
  · obtain ⟨x0, x1, x2, e0, e1, e2, e3⟩ := h2 i hi
    exact ⟨x0, x1, x2, e0, e1, e2, e3.keep hg.size (fun q hq hP => hg.block q hq (fun e => by have := hr q e.symm; omega))⟩
theorem KidsAt.setLow {B n k : Nat} {W : World} {v : Value} (h : KidsAt B n W v k) {p : Addr} (hp : p.block < B) (u : Value) : KidsAt B n (W.setCell p u) v k :=
  h.keep (gset1 W p u) (fun j hj => by obtain rfl := Option.some.inj hj; exact hp)
theorem KidsAt.drew {B n k : Nat} {W : World} {v : Value} (h : KidsAt B n W v k) : KidsAt B n W.drew v k := by
  obtain ⟨cs, h1, h2⟩ := h
  refine ⟨cs, h1, fun i hi => ?_⟩
  obtain ⟨x0, x1, x2, e0, e1, e2, e3⟩ := h2 i hi
  exact ⟨x0, x1, x2, e0, e1, e2, RawT.keep (w := W) (w' := W.drew) (Nat.le_refl _) (fun q hq hP => rfl) e3⟩
theorem KidsAt.append {B n k : Nat} {W W' : World} {v x0 x1 x2 : Value} {cs : List Value} {g cap : Nat}
    (h1 : ∀ i, i < k → ∃ x0 x1 x2, cs[i * 3]? = some x0 ∧ cs[i * 3 + 1]? = some x1 ∧ cs[i * 3 + 2]? = some x2 ∧ RawT (fun b => B ≤ b ∧ v.ownBlock ≠ some b) n W x0 x1 x2)
    (hl : cs.length = k * 3)
    (hT : RawT (fun b => B ≤ b ∧ v.ownBlock ≠ some b) n W x0 x1 x2)
    (hown : W'.ownsRow B 31 3 (.slice (some ⟨g, 0, none⟩) (k + 1) cap) (k + 1) (cs ++ [x0, x1, x2])) (hg : W.grownBy W' v.ownBlock) (hat : v.ownBlock = some g ∨ g = W.heap.size) :
    KidsAt B n W' (.slice (some ⟨g, 0, none⟩) (k + 1) cap) (k + 1) := by
  have up : ∀ {y0 y1 y2 : Value}, RawT (fun b => B ≤ b ∧ v.ownBlock ≠ some b) n W y0 y1 y2 → RawT (fun b => B ≤ b ∧ (Value.slice (some ⟨g, 0, none⟩) (k + 1) cap).ownBlock ≠ some b) n W' y0 y1 y2 := fun h =>
    h.both hg.size (fun q hq hP => hg.block q hq (fun e => hP.2 e.symm)) (fun q hq hP => ⟨hP.1, fun e => by
      have e' : g = q := by simpa [Value.ownBlock] using e
      rcases hat with hat | hat
      · exact hP.2 (by rw [hat, e'])
      · omega⟩)
  refine ⟨cs ++ [x0, x1, x2], hown, fun i hi => ?_⟩
  rcases Nat.lt_or_ge i k with hk | hk
  · obtain ⟨y0, y1, y2, e0, e1, e2, e3⟩ := h1 i hk
    exact ⟨y0, y1, y2, by rw [List.getElem?_append_left (by omega)]; exact e0, by rw [List.getElem?_append_left (by omega)]; exact e1, by rw [List.getElem?_append_left (by omega)]; exact e2, up e3⟩
  · have hk2 : i = k := by omega
    subst hk2
    refine ⟨x0, x1, x2, ?_, ?_, ?_, up hT⟩
    · rw [List.getElem?_append_right (by omega)]; simp [hl]
    · rw [List.getElem?_append_right (by omega), show i * 3 + 1 - cs.length = 1 by omega]; rfl
    · rw [List.getElem?_append_right (by omega), show i * 3 + 2 - cs.length = 2 by omega]; rfl
theorem KidsAt.raw {B n k : Nat} {W : World} {v : Value} {P : Nat → Prop} (K N : Int) (hN : (Lit.int .i64 N).wf = true) (hk : k ≤ maxLen) (hP : ∀ b, B ≤ b → P b) (h : KidsAt B n W v k) : RawT P (n + 1) W (.int .i64 K) (.int .i64 N) v := by
  obtain ⟨cs, h2, h3⟩ := h
  rcases h2.2 with ⟨hv, h0⟩ | ⟨g, cap, cur, hv, hb, _⟩
  · exact ⟨K, N, none, k, 0, rfl, rfl, by rw [hv, h0], hN, hk, fun i hi => by omega⟩
  · refine ⟨K, N, some ⟨g, 0, none⟩, k, cap, rfl, rfl, hv, hN, hk, fun i hi => ?_⟩
    obtain ⟨x0, x1, x2, e0, e1, e2, e3⟩ := h3 i hi
    have c : ∀ j u, cs[j]? = some u → W.cell? ⟨g, 0 + j, none⟩ = some u := fun j u hu => by
      have := h2.cells (g := g) (by rw [hv]; rfl) j u hu
      rwa [Addr.add_lit] at this
    have c0 := c _ _ e0
    exact ⟨g, 0, x0, x1, x2, rfl, hP g hb, cell_lt c0, c0, by rw [Nat.add_assoc]; exact c _ _ e1, by rw [Nat.add_assoc]; exact c _ _ e2, e3.imp (fun q _ hq => hP q hq.1)⟩
theorem KidsAt.slice {B n k : Nat} {W : World} {v : Value} (h : KidsAt B n W v k) : ∃ A c, v = .slice A k c := by
  obtain ⟨cs, h1, _⟩ := h
  rcases h1.2 with ⟨hv, h0⟩ | ⟨g, cap, cur, hv, _⟩
  · exact ⟨none, 0, by rw [hv, h0]⟩
  · exact ⟨some ⟨g, 0, none⟩, cap, hv⟩
theorem cell_three_newT (w : World) (a b c : Value) (t : TypeId) : ∀ j u, [a, b, c][j]? = some u → (w.alloc (.cells #[a, b, c] t)).cell? ((⟨w.heap.size, 0, none⟩ : Addr).add j) = some u :=
  fun j u hu => World.news_of_block (heap_alloc_new w _) j u (by simpa using hu)
/-- How it stands in mk.trace: the tape, the configuration in its box, the result, the tree that is built. -/
structure TMade (w : World) (sb g xb n nd k : Nat) (vc v : Value) (ms : List Mem) (W : World) : Prop where
  tape : TapeOk W sb
  out : W.heap[g]? = some (.cells #[vc] 27 (0, 0))
  mems : MemsAt (fun b => sb < b ∧ b < g) 2 W vc ms
  low : sb < g
  base : w.heap.size ≤ g
  gr : w.grownBy W (some sb)
  res : TOut W (g + 1) (.int .i64 0) (.int .i64 0) (.slice none 0 0)
  x : TOut W xb (.int .i64 3) (.int .i64 (nd : Int)) v
  hx : g + 1 < xb
  kids : KidsAt (xb + 1) n W v k
theorem TOut.lt {W : World} {g : Nat} {k n s : Value} (h : TOut W g k n s) : g < W.heap.size := cell_lt h.cs.1
theorem TOut.keep {W W' : World} {g : Nat} {k n s : Value} (h : TOut W g k n s) (e : W'.heap[g]? = W.heap[g]?) : TOut W' g k n s := e.trans h
theorem TMade.grown {w W W' : World} {sb g xb n nd k : Nat} {vc v : Value} {ms : List Mem} (h : TMade w sb g xb n nd k vc v ms W) (hs : TapeOk W' sb) (hg : W.grownBy W' (some sb)) : TMade w sb g xb n nd k vc v ms W' := by
  have h0 := h.low
  have h1 := h.hx
  have hgl := h.res.lt
  exact ⟨hs, (hg.block _ (by omega) (by simp; omega)).trans h.out, h.mems.both (fun q hq hP => hg.block q hq (by simp; have := hP.1; omega)) (fun _ _ h => h), h.low, h.base, grown_trans h.gr hg,
    h.res.keep (hg.block _ hgl (by simp; omega)), h.x.keep (hg.block _ h.x.lt (by simp; omega)), h.hx, h.kids.keep hg (fun j hj => by obtain rfl := Option.some.inj hj; omega)⟩
theorem TMade.drew {w W : World} {sb g xb n nd k : Nat} {vc v : Value} {ms : List Mem} (h : TMade w sb g xb n nd k vc v ms W) (hs : TapeOk W.drew sb) : TMade w sb g xb n nd k vc v ms W.drew := h.grown hs ⟨rfl, rfl, rfl, Nat.le_refl _, fun _ _ _ => rfl⟩
/-- One more child. -/
theorem TMade.app {w WA W3 : World} {sb g xb n nd k g3 cap : Nat} {vc v x0 x1 x2 : Value} {ms : List Mem} {cs : List Value} (h : TMade w sb g xb n nd k vc v ms WA)
    (h1 : ∀ i, i < k → ∃ x0 x1 x2, cs[i * 3]? = some x0 ∧ cs[i * 3 + 1]? = some x1 ∧ cs[i * 3 + 2]? = some x2 ∧ RawT (fun b => xb + 1 ≤ b ∧ v.ownBlock ≠ some b) n WA x0 x1 x2)
    (hl : cs.length = k * 3) (hT : RawT (fun b => xb + 1 ≤ b ∧ v.ownBlock ≠ some b) n WA x0 x1 x2)
    (hown : W3.ownsRow (xb + 1) 31 3 (.slice (some ⟨g3, 0, none⟩) (k + 1) cap) (k + 1) (cs ++ [x0, x1, x2])) (hg : WA.grownBy W3 v.ownBlock) (hat : v.ownBlock = some g3 ∨ g3 = WA.heap.size) :
    TMade w sb g xb n nd (k + 1) vc (.slice (some ⟨g3, 0, none⟩) (k + 1) cap) ms (W3.setCell ⟨xb, 2, none⟩ (.slice (some ⟨g3, 0, none⟩) (k + 1) cap)) := by
  have hK := (KidsAt.append h1 hl hT hown hg hat).setLow (p := ⟨xb, 2, none⟩) (by show xb < xb + 1; omega) (.slice (some ⟨g3, 0, none⟩) (k + 1) cap)
  have ho := h.kids.own
  have h0 := h.low
  have hx := h.hx
  have hxl := h.x.lt
  have hz := hg.size
  have low : ∀ q, q < xb + 1 → W3.heap[q]? = WA.heap[q]? := fun q hq => hg.block q (by omega) (fun e => by have := (ho q e.symm).1; omega)
  have far : ∀ q, q ≠ xb → (W3.setCell ⟨xb, 2, none⟩ (.slice (some ⟨g3, 0, none⟩) (k + 1) cap)).heap[q]? = W3.heap[q]? := fun q hq => Below.heap_setCell _ _ _ _ (by simpa using hq)
  have hgr := gset (gown h.gr hg (fun j hj => by have := (ho j hj).1; have := h.base; omega)) (p := ⟨xb, 2, none⟩) (by show w.heap.size ≤ xb; have := h.base; omega) (.slice (some ⟨g3, 0, none⟩) (k + 1) cap)
  refine ⟨(h.tape.keepLow (fun q hq => low q (by omega))).setCell (p := ⟨xb, 2, none⟩) (by show sb < xb; omega) _, (far g (by omega)).trans ((low g (by omega)).trans h.out), ?_, h.low, h.base, hgr,
    h.res.keep ((far _ (by omega)).trans (low _ (by omega))), ?_, h.hx, hK⟩
  · exact h.mems.both (fun q hq hP => (far q (by have := hP.2; omega)).trans (low q (by have := hP.2; omega))) (fun _ _ h => h)
  · have h2 : W3.heap[xb]? = _ := (low xb (by omega)).trans h.x
    unfold TOut
    simp [World.setCell, Array.getElem?_modify, h2]
end Go.Proofs.Ytfghnkgllmofgaa

namespace Go.Proofs.Ytfghnkgllmofgaa
set_option linter.unusedVariables false
set_option linter.unusedSimpArgs false
open Go.RowKit

/-- How it stands before the tree's box is there. -/
structure TPre (w : World) (sb g : Nat) (vc : Value) (ms : List Mem) (W : World) : Prop where
  tape : TapeOk W sb
  out : W.heap[g]? = some (.cells #[vc] 27 (0, 0))
  mems : MemsAt (fun b => sb < b ∧ b < g) 2 W vc ms
  low : sb < g
  base : w.heap.size ≤ g
  gr : w.grownBy W (some sb)
  res : TOut W (g + 1) (.int .i64 0) (.int .i64 0) (.slice none 0 0)
theorem TPre.cell {w W : World} {sb g : Nat} {vc : Value} {ms : List Mem} (h : TPre w sb g vc ms W) : W.cell? ⟨g, 0, none⟩ = some vc := cell_of_row _ _ 0 _ _ (0, 0) h.out
theorem TPre.grown {w W W' : World} {sb g : Nat} {vc : Value} {ms : List Mem} (h : TPre w sb g vc ms W) (hs : TapeOk W' sb) (hg : W.grownBy W' (some sb)) : TPre w sb g vc ms W' := by
  have h0 := h.low
  have hgl := h.res.lt
  exact ⟨hs, (hg.block _ (by omega) (by simp; omega)).trans h.out, h.mems.both (fun q hq hP => hg.block q hq (by simp; have := hP.1; omega)) (fun _ _ h => h), h.low, h.base, grown_trans h.gr hg, h.res.keep (hg.block _ hgl (by simp; omega))⟩
theorem TPre.bel {w W W' : World} {sb g : Nat} {vc : Value} {ms : List Mem} (h : TPre w sb g vc ms W) (hb : Below W.heap.size W W') : TPre w sb g vc ms W' := h.grown (h.tape.below hb) (grown_below hb)
theorem TPre.fin {w W : World} {sb g : Nat} {vc : Value} {ms : List Mem} (h : TPre w sb g vc ms W) (k n s : Value) :
    TapeOk (((W.setCell ⟨g + 1, 0, none⟩ k).setCell ⟨g + 1, 1, none⟩ n).setCell ⟨g + 1, 2, none⟩ s) sb ∧ w.grownBy (((W.setCell ⟨g + 1, 0, none⟩ k).setCell ⟨g + 1, 1, none⟩ n).setCell ⟨g + 1, 2, none⟩ s) (some sb) := by
  have h0 := h.low
  have h1 := h.base
  exact ⟨((h.tape.setCell (p := ⟨g + 1, 0, none⟩) (by show sb < g + 1; omega) _).setCell (p := ⟨g + 1, 1, none⟩) (by show sb < g + 1; omega) _).setCell (p := ⟨g + 1, 2, none⟩) (by show sb < g + 1; omega) _,
    gset (gset (gset h.gr (p := ⟨g + 1, 0, none⟩) (by show w.heap.size ≤ g + 1; omega) _) (p := ⟨g + 1, 1, none⟩) (by show w.heap.size ≤ g + 1; omega) _) (p := ⟨g + 1, 2, none⟩) (by show w.heap.size ≤ g + 1; omega) _⟩
theorem TMade.pre {w W : World} {sb g xb n nd k : Nat} {vc v : Value} {ms : List Mem} (h : TMade w sb g xb n nd k vc v ms W) : TPre w sb g vc ms W := ⟨h.tape, h.out, h.mems, h.low, h.base, h.gr, h.res⟩
theorem TMade.begin {w W : World} {sb g n : Nat} {vc : Value} {ms : List Mem} (h : TPre w sb g vc ms W) (nd : Nat) :
    TMade w sb g W.heap.size n nd 0 vc (.slice none 0 0) ms (W.alloc (.cells #[.int .i64 3, .int .i64 (nd : Int), .slice none 0 0] 31)) := by
  have h2 := h.res.lt
  have hp := h.bel (balloc (bref W) (.cells #[.int .i64 3, .int .i64 (nd : Int), .slice none 0 0] 31))
  exact ⟨hp.tape, hp.out, hp.mems, h.low, h.base, hp.gr, hp.res, heap_alloc_new _ _, h2, KidsAt.nil _ _ _⟩
theorem nextK2 {k L : Nat} (h : k < L) : ((k : Int) + 1) % (L : Int) = ((if k + 1 = L then 0 else k + 1 : Nat) : Int) := by
  by_cases e : k + 1 = L
  · simp only [e, if_true]
    rw [show (k : Int) + 1 = (L : Int) by omega, Int.emod_self]; rfl
  · simp only [e, if_false]
    rw [Int.emod_eq_of_lt (by omega) (by omega)]; omega
theorem nextK_lt {k L : Nat} (h : k < L) : (if k + 1 = L then 0 else k + 1) < L := by split <;> omega
theorem nextK_ms {k f L : Nat} (hk : k < L) (hf : f < L) (h : k ≠ f) : (if (if k + 1 = L then 0 else k + 1) ≤ f then f - (if k + 1 = L then 0 else k + 1) else f + L - (if k + 1 = L then 0 else k + 1)) < (if k ≤ f then f - k else f + L - k) := by
  by_cases e : k + 1 = L
  · simp only [e, if_true]
    split <;> split <;> omega
  · simp only [e, if_false]
    split <;> split <;> omega
theorem wf10 {nd : Nat} (h : nd < 10) : (Lit.int .i64 (nd : Int)).wf = true := by
  have all : ∀ k : Fin 10, (Lit.int .i64 (k.val : Int)).wf = true := by decide
  exact all ⟨nd, h⟩
theorem shl_orR (s K : Nat) (hs : s < 1024) (hK : K < 10) : bits .or .i64 (s : Int) (IntKind.i64.wrap (2 ^ K)) = ((s ||| 2 ^ K : Nat) : Int) := or_factT s K hs hK
theorem nextK (K L : Nat) (h : K < L) (hL : L ≤ 10) : wrap64 (((wrap64 ((K : Int) + 1))).tmod (L : Int)) = ((if K + 1 = L then 0 else K + 1 : Nat) : Int) := by
  have all : ∀ L : Fin 11, ∀ K : Fin 10, K.val < L.val → wrap64 (((wrap64 ((K.val : Int) + 1))).tmod (L.val : Int)) = ((if K.val + 1 = L.val then 0 else K.val + 1 : Nat) : Int) := by decide +kernel
  exact all ⟨L, by omega⟩ ⟨K, by omega⟩ h

set_option maxRecDepth 100000 in
set_option maxHeartbeats 16000000 in
theorem trace_any (sb : Nat) (ms : List Mem) (v : Value) (hl0 : 1 ≤ ms.length) (hl : ms.length ≤ 10) : ∀ (n : Nat) (w : World) (R X : Nat) (mis : Bool), R < 1024 → X < 1024 → und ms.length R X < n → TapeOk w sb → MemsAt (fun b => sb < b) 2 w v ms →
    Calls Try.prog 26 #[.pointer (some ⟨sb, 0, none⟩), .agg #[v], .int .i64 (R : Int), .int .i64 (X : Int), .bool mis] w fun e w' => (∃ x0 x1 x2, e = .returned (.agg #[x0, x1, x2]) ∧ RawT (fun b => w.heap.size ≤ b) n w' x0 x1 x2) ∧ TapeOk w' sb ∧ w.grownBy w' (some sb) := by
  intro n
  induction n with
  | zero => intro w R X mis _ _ h; omega
  | succ n ih =>
    intro w R X mis hR hX hu hs h
    obtain ⟨i3, hi3, hy0, hy1, hy2⟩ := info_parts infoTrc
    obtain ⟨A, c, rfl⟩ := h.slice
    have hsl := hs.lt
    have hba : Below w.heap.size w ((w.alloc (.cells #[.slice A ms.length c] 27)).alloc (.cells #[.int .i64 0, .int .i64 0, .slice none 0 0] 31)) := balloc (balloc (bref w) _) _
    have HM := Lib.hid (show TPre w sb w.heap.size (.slice A ms.length c) ms ((w.alloc (.cells #[.slice A ms.length c] 27)).alloc (.cells #[.int .i64 0, .int .i64 0, .slice none 0 0] 31)) from
      ⟨hs.below hba, alloc_on (alloc_at rfl), (h.both (fun q hq hP => rfl) (fun q hq hP => ⟨hP, hq⟩)).below hba, hsl, Nat.le_refl _, grown_below hba, alloc_at (alloc_sz _ _)⟩)
    have HU := Lib.hid hu
    have HIH := Lib.hid ih
    obtain ⟨L, hL⟩ : ∃ L, ms.length = L := ⟨_, rfl⟩
    have HL := Lib.hid hL
    rw [hL] at hl0 hl HM HIH HU ⊢
    clear h hs hba hL hu ih
    go_enter Try.func26, Try.ntmps26
    go_upto_region 1 with fail
    generalize ((w.alloc (.cells #[.slice A L c] 27)).alloc (.cells #[.int .i64 0, .int .i64 0, .slice none 0 0] 31)) = W1 at *
    generalize hg : w.heap.size = g at *
    have HG := Lib.hid hg
    clear hg
    have c1 := HM.out.cell
    have hp := pow11' L (by omega)
    obtain ⟨N, hN⟩ : ∃ N, 2 ^ L = N := ⟨_, rfl⟩
    have hpL : 2 ^ L ≤ 2 ^ 10 := Nat.pow_le_pow_right (by omega) hl
    have hpp : 1 ≤ 2 ^ L := Nat.one_le_pow _ _ (by omega)
    rw [hN] at hp hpL hpp
    have hw1 : IntKind.i64.wrap ((N : Int) - 1) = ((N - 1 : Nat) : Int) := (IntWalk.i64_in _ (by omega)).trans (by omega)
    obtain ⟨n1, hn1⟩ : ∃ n1, N - 1 = n1 := ⟨_, rfl⟩
    have hn1l : n1 < 1024 := by omega
    have HN1 := Lib.hid (show 2 ^ L - 1 = n1 by rw [hN]; exact hn1)
    rw [hn1] at hw1
    have hLLi : ((L : Nat) : Int) = (L : Int) := rfl
    have hlen0 : (1 : Int) ≤ (L : Int) := by omega
    have hlen1 : (L : Int) ≤ 10 := by omega
    clear hN hn1 hpp hpL
    go_upto_region 2 with fail
    clear c1 hp hw1
    cases mis
    · skip
      have hO := andNot_nat n1 X hn1l hX
      have hOl := outS_lt L X hl
      rw [show n1 ^^^ (n1 &&& X) = outS L X by rw [← HN1.out]; rfl] at hO
      obtain ⟨O, hOq⟩ : ∃ O, outS L X = O := ⟨_, rfl⟩
      rw [hOq] at hO hOl
      have cA := HM.out.cell
      go_wp2_with fail
      refine (rgreatest_run _ 2 ms _ O _ (by rw [HL.out]; exact hl) hOl HM.out.mems).mono ?_
      rintro e WA ⟨G, rfl, hGl, _, hbA⟩
      have HMA := Lib.hid (HM.out.bel hbA)
      clear hbA cA hO hOl hOq
      have hGR := i64_and_nat G R (by omega) (by omega)
      by_cases hG0 : G = 0
      · subst hG0
        clear hGR
        have zo := HMA.out.res
        obtain ⟨z0, z1, z2⟩ := zo.cs
        have f0 := zo.fr 0
        have f1 := zo.fr 1
        have f2 := zo.fr 2
        have HQ := Lib.hid (zo.set (.int .i64 1) (.int .i64 0) (.slice none 0 0)).cs
        have HF := Lib.hid (HMA.out.fin (.int .i64 1) (.int .i64 0) (.slice none 0 0))
        clear zo
        go_wp2_with fail
        obtain ⟨q0, q1, q2⟩ := HQ.out
        refine bodyPost_ret (v := .agg #[.int .i64 1, .int .i64 0, .slice none 0 0]) ?_ rfl ⟨⟨_, _, _, rfl, (RawT.leaf _ _ (by rfl)).le (by omega)⟩, HF.out⟩
        simp [results, Try.results26, go_sem, q0, q1, q2]
      · have hG0i : ((G : Int) == 0) = false := by simpa using hG0
        by_cases hsub : G &&& R = R
        · rw [hsub] at hGR
          have hOR := i64_or_nat R X (by omega) (by omega)
          have hRX : R ||| X < 1024 := Nat.or_lt_two_pow (n := 10) hR hX
          have hO := andNot_nat n1 (R ||| X) hn1l hRX
          obtain ⟨F, hF⟩ : ∃ F, outS L (R ||| X) = F := ⟨_, rfl⟩
          rw [show n1 ^^^ (n1 &&& (R ||| X)) = F by rw [← HN1.out]; exact hF] at hO
          have hFl : F < 1024 := by rw [← hF]; exact outS_lt L _ hl
          have HFB := Lib.hid (fun j => (show F.testBit j = (decide (j < L) && !(R ||| X).testBit j) by rw [← hF]; exact outS_bit L _ j))
          have hO2 := andNot_nat n1 R hn1l hR
          have hO2l := outS_lt L R hl
          rw [show n1 ^^^ (n1 &&& R) = outS L R by rw [← HN1.out]; rfl] at hO2
          obtain ⟨O2, hO2q⟩ : ∃ O2, outS L R = O2 := ⟨_, rfl⟩
          rw [hO2q] at hO2 hO2l
          have cA := HMA.out.cell
          clear hF hO2q
          go_wp2_with fail
          refine (rgreatest_run _ 2 ms _ O2 _ (by rw [HL.out]; exact hl) hO2l HMA.out.mems).mono ?_
          rintro e WB ⟨G2, rfl, hG2l, _, hbB⟩
          have HMB := Lib.hid (HMA.out.bel hbB)
          clear hbB cA hO hO2 hO2l hGR hOR
          by_cases hG2 : G2 = 0
          · subst hG2
            have zo := HMB.out.res
            obtain ⟨z0, z1, z2⟩ := zo.cs
            have f0 := zo.fr 0
            have f1 := zo.fr 1
            have f2 := zo.fr 2
            have HQ := Lib.hid (zo.set (.int .i64 2) (.int .i64 0) (.slice none 0 0)).cs
            have HF := Lib.hid (HMB.out.fin (.int .i64 2) (.int .i64 0) (.slice none 0 0))
            clear zo
            go_wp2_with fail
            obtain ⟨q0, q1, q2⟩ := HQ.out
            refine bodyPost_ret (v := .agg #[.int .i64 2, .int .i64 0, .slice none 0 0]) ?_ rfl ⟨⟨_, _, _, rfl, (RawT.leaf _ _ (by rfl)).le (by omega)⟩, HF.out⟩
            simp [results, Try.results26, go_sem, q0, q1, q2]
          · have hG2i : ((G2 : Int) == 0) = false := by simpa using hG2
            by_cases hF0 : F = 0
            · subst hF0
              have zo := HMB.out.res
              obtain ⟨z0, z1, z2⟩ := zo.cs
              have f0 := zo.fr 0
              have f1 := zo.fr 1
              have f2 := zo.fr 2
              have HQ := Lib.hid (zo.set (.int .i64 2) (.int .i64 0) (.slice none 0 0)).cs
              have HF := Lib.hid (HMB.out.fin (.int .i64 2) (.int .i64 0) (.slice none 0 0))
              clear zo
              go_wp2_with fail
              obtain ⟨q0, q1, q2⟩ := HQ.out
              refine bodyPost_ret (v := .agg #[.int .i64 2, .int .i64 0, .slice none 0 0]) ?_ rfl ⟨⟨_, _, _, rfl, (RawT.leaf _ _ (by rfl)).le (by omega)⟩, HF.out⟩
              simp [results, Try.results26, go_sem, q0, q1, q2]
            · have hF0i : ((F : Int) == 0) = false := by simpa using hF0
              obtain ⟨f, hf⟩ : ∃ f, F.testBit f = true := by
                rcases Classical.em (∃ f, F.testBit f = true) with h | h
                · exact h
                · exact (hF0 (Nat.eq_of_testBit_eq (fun k => by
                    rw [Nat.zero_testBit]
                    cases hb : F.testBit k
                    · rfl
                    · exact (h ⟨k, hb⟩).elim))).elim
              have hfL : f < L := by
                have := HFB.out f
                rw [hf] at this
                by_cases hlt : f < L
                · exact hlt
                · simp [hlt] at this
              have cB := HMB.out.cell
              go_wp2_with fail
              refine (TN_run _ sb _ (by omega) (by omega) HMB.out.tape).mono ?_
              rintro e WC ⟨r0, hr00, hr01, rfl, hsC, hgC⟩
              obtain ⟨K0, rfl⟩ := Int.eq_ofNat_of_zero_le hr00
              have HMC := Lib.hid (HMB.out.grown hsC hgC)
              clear hsC hgC cB hr00
              have cC := HMC.out.cell
              go_wp2_with fail
              go_loop [14] (fun t => ∃ k : Nat, t = .int .i64 k ∧ k < L) (fun t => if (intOf t).toNat ≤ f then f - (intOf t).toNat else f + L - (intOf t).toNat)
              case atStart => exact ⟨K0, rfl, by omega⟩
              case round =>
                obtain ⟨k, rfl, hk⟩ := hrel
                have hbf := bit0_fact F k hFl (by omega)
                have hk0 : (0 : Int) ≤ (k : Int) := by omega
                have hk64 : ¬ (64 : Int) ≤ (k : Int) := by omega
                cases hb : F.testBit k
                · rw [hb] at hbf
                  go_wp2_with fail
                  go_round
                  case rel => exact ⟨if k + 1 = L then 0 else k + 1, by first | rw [nextK2 hk] | exact congrArg _ hnk | simpa using hnk, nextK_lt hk⟩
                  case measure =>
                    have hkf : k ≠ f := fun e => by rw [e, hf] at hb; cases hb
                    simp only [intOf, Int.toNat_natCast]

                    first | exact nextK_ms hk hfL hkf | (rw [nextK2 hk, Int.toNat_natCast]; exact nextK_ms hk hfL hkf) | (simp only [nextK2 hk, Int.toNat_natCast]; exact nextK_ms hk hfL hkf)
                · rw [hb] at hbf
                  have hbits := HFB.out k
                  rw [hb, Nat.testBit_or, decide_eq_true hk] at hbits
                  have hRb : R.testBit k = false := by
                    cases hq : R.testBit k
                    · rfl
                    · rw [hq] at hbits; simp at hbits
                  have hXb : X.testBit k = false := by
                    cases hq : X.testBit k
                    · rfl
                    · rw [hq] at hbits; simp at hbits
                  have hU1 := und_X (n := L) hk hRb hXb
                  have hU2 := und_R (n := L) hk hRb hXb
                  have HU1 := Lib.hid (show und L R (X ||| 2 ^ k) < n by have := HU.out; omega)
                  have HU2 := Lib.hid (show und L (R ||| 2 ^ k) X < n by have := HU.out; omega)
                  have hk10 : k < 10 := by omega
                  have hp10 : 2 ^ k < 2 ^ 10 := Nat.pow_lt_pow_right (by omega) hk10
                  have hX2 : X ||| 2 ^ k < 1024 := Nat.or_lt_two_pow (n := 10) hX hp10
                  have hR2 : R ||| 2 ^ k < 1024 := Nat.or_lt_two_pow (n := 10) hR hp10
                  have hoX := or_factT X k hX hk10
                  have hoR := or_factT R k hR hk10
                  obtain ⟨XN, hXN⟩ : ∃ XN, X ||| 2 ^ k = XN := ⟨_, rfl⟩
                  obtain ⟨RN, hRN⟩ : ∃ RN, R ||| 2 ^ k = RN := ⟨_, rfl⟩
                  rw [hXN] at hX2 hoX HU1
                  rw [hRN] at hR2 hoR HU2
                  have HX2 := Lib.hid hX2
                  have HR2 := Lib.hid hR2
                  clear hXN hRN hX2 hR2
                  have HT0 := Lib.hid (TMade.begin (n := n) HMC.out k)
                  clear hbits hRb hXb hU1 hU2 hp10 hf hfL hb hF0 hF0i HFB hG2 hG2i hG0 hG0i hG2l hRX hr01
                  go_upto_region 14 with fail
                  clear hbf hFl cC
                  generalize (WC.alloc (.cells #[.int .i64 3, .int .i64 (k : Int), .slice none 0 0] 31)) = WD at *
                  generalize WC.heap.size = xb at *
                  skip
                  have HTD := Lib.hid (HT0.out.drew (HT0.out.tape.below (bdrewT _)))
                  have HOW := Lib.hid HTD.out.kids.own
                  have HXL := Lib.hid HTD.out.x.lt
                  have hSK : WD.drew.cell? ⟨xb, 2, none⟩ = some (.slice none 0 0) ∧ WD.drew.cell? ⟨g, 0, none⟩ = some (.slice A L c) := ⟨HTD.out.x.cs.2.2, HTD.out.pre.cell⟩
                  refine region_f (fun W => W.cell? ⟨xb, 2, none⟩ = some (.slice none 0 0) ∧ W.cell? ⟨g, 0, none⟩ = some (.slice A L c)) [12, 14] (by kernel_rfl) ?_
                  refine take_y (some 81) (i := 0) (v := ?_) rfl rfl (by kernel_rfl) (by kernel_rfl) (by kernel_rfl) (fun _ _ _ h => h) (Or.inl ⟨by rfl, ?_⟩) ?_
                  rotate_left
                  · intro w _; go_simp; (try with_reducible rfl)
                  try simp only [Act.put, List.setIfInBounds_toArray, List.set_cons_zero, List.set_cons_succ]
                  refine take_f (some 82) [12, 13, 14] (i := 1) (v := ?_) rfl rfl (by kernel_rfl) (by kernel_rfl) (by kernel_rfl) (by kernel_rfl) (fun _ _ _ h => h) (Or.inl ⟨by rfl, ?_⟩) (by assumption) ?_
                  rotate_left
                  · intro w hSw; (try dsimp only at hSw); go_simp; (try with_reducible rfl)
                  try simp only [Act.put, List.setIfInBounds_toArray, List.set_cons_zero, List.set_cons_succ]
                  refine take_y (some 83) (i := 2) (v := ?_) rfl rfl (by kernel_rfl) (by kernel_rfl) (by kernel_rfl) (fun _ _ _ h => h) (Or.inl ⟨by rfl, ?_⟩) ?_
                  rotate_left
                  · intro w _; go_simp; (try with_reducible rfl)
                  try simp only [Act.put, List.setIfInBounds_toArray, List.set_cons_zero, List.set_cons_succ]
                  refine take_f (some 84) [10, 11, 12, 13, 14] (i := 3) (v := ?_) rfl rfl (by kernel_rfl) (by kernel_rfl) (by kernel_rfl) (by kernel_rfl) (fun _ _ _ h => h) (Or.inl ⟨by rfl, ?_⟩) (by assumption) ?_
                  rotate_left
                  · intro w hSw; (try dsimp only at hSw); go_simp; (try with_reducible rfl)
                  try simp only [Act.put, List.setIfInBounds_toArray, List.set_cons_zero, List.set_cons_succ]
                  refine take_y (some 85) (i := 4) (v := ?_) rfl rfl (by kernel_rfl) (by kernel_rfl) (by kernel_rfl) (fun _ _ _ h => h) (Or.inl ⟨by rfl, ?_⟩) ?_
                  rotate_left
                  · intro w _; go_simp; (try with_reducible rfl)
                  try simp only [Act.put, List.setIfInBounds_toArray, List.set_cons_zero, List.set_cons_succ]
                  refine take_y (some 86) (i := 5) (v := ?_) rfl rfl (by kernel_rfl) (by kernel_rfl) (by kernel_rfl) (fun _ _ _ h => h) (Or.inl ⟨by rfl, ?_⟩) ?_
                  rotate_left
                  · intro w _; go_simp; (try with_reducible rfl)
                  try simp only [Act.put, List.setIfInBounds_toArray, List.set_cons_zero, List.set_cons_succ]
                  refine take_y (some 87) (i := 6) (v := ?_) rfl rfl (by kernel_rfl) (by kernel_rfl) (by kernel_rfl) (fun _ _ _ h => h) (Or.inl ⟨by rfl, ?_⟩) ?_
                  rotate_left
                  · intro w _; go_simp; (try with_reducible rfl)
                  try simp only [Act.put, List.setIfInBounds_toArray, List.set_cons_zero, List.set_cons_succ]
                  refine take_y (some 88) (i := 7) (v := ?_) rfl rfl (by kernel_rfl) (by kernel_rfl) (by kernel_rfl) (fun _ _ _ h => h) (Or.inl ⟨by rfl, ?_⟩) ?_
                  rotate_left
                  · intro w _; go_simp; (try with_reducible rfl)
                  try simp only [Act.put, List.setIfInBounds_toArray, List.set_cons_zero, List.set_cons_succ]
                  refine take_y (some 89) (i := 8) (v := ?_) rfl rfl (by kernel_rfl) (by kernel_rfl) (by kernel_rfl) (fun _ _ _ h => h) (Or.inl ⟨by rfl, ?_⟩) ?_
                  rotate_left
                  · intro w _; go_simp; (try with_reducible rfl)
                  try simp only [Act.put, List.setIfInBounds_toArray, List.set_cons_zero, List.set_cons_succ]
                  refine take_y (some 90) (i := 9) (v := ?_) rfl rfl (by kernel_rfl) (by kernel_rfl) (by kernel_rfl) (fun _ _ _ h => h) (Or.inl ⟨by rfl, ?_⟩) ?_
                  rotate_left
                  · intro w _; go_simp; (try with_reducible rfl)
                  try simp only [Act.put, List.setIfInBounds_toArray, List.set_cons_zero, List.set_cons_succ]
                  refine one_f (i := 10) (by kernel_rfl) rfl (fun K hK => ?_)
                  go_simp
                  refine (HIH.out _ R XN _ hR HX2.out HU1.out (by exact HTD.out.tape) (by exact HTD.out.mems.both (fun _ _ _ => rfl) (fun _ _ h => h.1))).mono ?_
                  rintro e WK0 ⟨⟨u0, u1, u2, rfl, hTT⟩, hsK, hgK⟩
                  obtain ⟨K10, N10, A10, m10, c10, rfl, rfl, rfl⟩ := hTT.form
                  have HTK := Lib.hid (HTD.out.grown hsK hgK)
                  have HTT := Lib.hid (hTT.imp (Q := fun b => xb + 1 ≤ b ∧ ((.slice none 0 0) : Value).ownBlock ≠ some b) (fun q hq hP => ⟨by have := HXL.out; omega, fun e => by have := (HOW.out _ e).2; omega⟩))
                  clear hTT hsK hgK
                  go_wp2_with fail
                  replace hSK := (show WK0.cell? ⟨xb, 2, none⟩ = some (.slice none 0 0) ∧ WK0.cell? ⟨g, 0, none⟩ = some (.slice A L c) from ⟨HTK.out.x.cs.2.2, HTK.out.pre.cell⟩)
                  refine hK.out _ _ (Or.inr (fun _ => hSK)) ?_
                  clear hK K
                  try simp only [Act.put, List.setIfInBounds_toArray, List.set_cons_zero, List.set_cons_succ]
                  refine one_f (i := 11) (by kernel_rfl) rfl (fun K hK => ?_)
                  have HTA := Lib.hid (HTK.out.grown (W' := (WK0.alloc (.cells #[.int .i64 K10, .int .i64 N10, .slice A10 m10 c10] 31))) (HTK.out.tape.below (balloc (bref _) _)) (grown_below (balloc (bref _) _)))
                  have HTB := Lib.hid (HTT.out.below (balloc (bref WK0) (.cells #[.int .i64 K10, .int .i64 N10, .slice A10 m10 c10] 31)))
                  go_simp
                  replace hSK := (show (WK0.alloc (.cells #[.int .i64 K10, .int .i64 N10, .slice A10 m10 c10] 31)).cell? ⟨xb, 2, none⟩ = some (.slice none 0 0) ∧ (WK0.alloc (.cells #[.int .i64 K10, .int .i64 N10, .slice A10 m10 c10] 31)).cell? ⟨g, 0, none⟩ = some (.slice A L c) from ⟨HTA.out.x.cs.2.2, HTA.out.pre.cell⟩)
                  refine hK.out _ _ (Or.inr (fun _ => hSK)) ?_
                  clear hK K
                  try simp only [Act.put, List.setIfInBounds_toArray, List.set_cons_zero, List.set_cons_succ]
                  refine one_f (i := 12) (by kernel_rfl) rfl (fun K hK => ?_)
                  obtain ⟨cs, hcs, hcl⟩ := HTA.out.kids
                  have HCL := Lib.hid hcl
                  have HOA := Lib.hid HTA.out.kids.own
                  have hcn := hcs.1
                  have hxl2 := HTA.out.x.lt
                  refine step_append_lies _ (by rfl) _ _ _ (by rfl) (xb + 1) 31 i3 (.agg #[.int .i64 0, .int .i64 0, .slice none 0 0]) 3 40 Try.underlying29 hi3 hy0 hy1 hy2 rfl (by decide) (.slice none 0 0) 0 cs (by rfl) (by exact hcs) ⟨WK0.heap.size, 0, none⟩ 1 1 [.int .i64 K10, .int .i64 N10, .slice A10 m10 c10] (by rfl) rfl (by exact cell_three_newT _ _ _ _ _) (by intro u hu; simp at hu; rcases hu with rfl | rfl | rfl <;> rfl) (by omega) (by unfold maxLen; omega) (by omega) (by simp at hxl2 ⊢; omega) _ rfl ?_
                  intro ga capa W30 hown3 hgrow3 hat3 hlt3
                  have HX3 := Lib.hid (HTA.out.x.keep (hgrow3.block _ hxl2 (fun e => by have := HOA.out _ e.symm; omega)))
                  have HT1 := Lib.hid (TMade.app HTA.out HCL.out (by rw [hcn]) HTB.out hown3 ⟨hgrow3.os, hgrow3.tape, hgrow3.output, hgrow3.size, hgrow3.block⟩ hat3)
                  clear hown3 hgrow3 hat3 hlt3 hcs hcl hcn
                  refine hK.out _ _ (Or.inl (by kernel_rfl)) ?_
                  clear hK K
                  try simp only [Act.put, List.setIfInBounds_toArray, List.set_cons_zero, List.set_cons_succ]
                  refine take_y (some 94) (i := 13) (v := ?_) rfl rfl (by kernel_rfl) (by kernel_rfl) (by kernel_rfl) (fun _ _ _ h => h) (Or.inl ⟨by rfl, ?_⟩) ?_
                  rotate_left
                  · intro w _; go_simp; (try with_reducible rfl)
                  try simp only [Act.put, List.setIfInBounds_toArray, List.set_cons_zero, List.set_cons_succ]
                  refine one_f (i := 14) (by kernel_rfl) rfl (fun K hK => ?_)
                  have y0 := HX3.out.cs.2.2
                  have y1 := HX3.out.fr 2
                  go_simp
                  refine hK.out _ _ (Or.inl (by kernel_rfl)) ?_
                  clear hK K
                  try simp only [Act.put, List.setIfInBounds_toArray, List.set_cons_zero, List.set_cons_succ]
                  refine done_f (by kernel_rfl) ?_ _
                  clear hSK HTD HOW HXL HTK HTT HTA HTB HCL HOA hxl2 HX3 y0 y1
                  go_upto_region 15 with fail
                  generalize hWE : W30.setCell ⟨xb, 2, none⟩ (.slice (some ⟨ga, 0, none⟩) (0 + 1) capa) = WE at *
                  clear hWE
                  skip
                  have HTD := Lib.hid (HT1.out.drew (HT1.out.tape.below (bdrewT _)))
                  have HOW := Lib.hid HTD.out.kids.own
                  have HXL := Lib.hid HTD.out.x.lt
                  have hSK : WE.drew.cell? ⟨xb, 2, none⟩ = some (.slice (some ⟨ga, 0, none⟩) (0 + 1) capa) ∧ WE.drew.cell? ⟨g, 0, none⟩ = some (.slice A L c) := ⟨HTD.out.x.cs.2.2, HTD.out.pre.cell⟩
                  refine region_f (fun W => W.cell? ⟨xb, 2, none⟩ = some (.slice (some ⟨ga, 0, none⟩) (0 + 1) capa) ∧ W.cell? ⟨g, 0, none⟩ = some (.slice A L c)) [12, 14] (by kernel_rfl) ?_
                  refine take_y (some 95) (i := 0) (v := ?_) rfl rfl (by kernel_rfl) (by kernel_rfl) (by kernel_rfl) (fun _ _ _ h => h) (Or.inl ⟨by rfl, ?_⟩) ?_
                  rotate_left
                  · intro w _; go_simp; (try with_reducible rfl)
                  try simp only [Act.put, List.setIfInBounds_toArray, List.set_cons_zero, List.set_cons_succ]
                  refine take_f (some 96) [12, 13, 14] (i := 1) (v := ?_) rfl rfl (by kernel_rfl) (by kernel_rfl) (by kernel_rfl) (by kernel_rfl) (fun _ _ _ h => h) (Or.inl ⟨by rfl, ?_⟩) (by assumption) ?_
                  rotate_left
                  · intro w hSw; (try dsimp only at hSw); go_simp; (try with_reducible rfl)
                  try simp only [Act.put, List.setIfInBounds_toArray, List.set_cons_zero, List.set_cons_succ]
                  refine take_y (some 97) (i := 2) (v := ?_) rfl rfl (by kernel_rfl) (by kernel_rfl) (by kernel_rfl) (fun _ _ _ h => h) (Or.inl ⟨by rfl, ?_⟩) ?_
                  rotate_left
                  · intro w _; go_simp; (try with_reducible rfl)
                  try simp only [Act.put, List.setIfInBounds_toArray, List.set_cons_zero, List.set_cons_succ]
                  refine take_f (some 98) [10, 11, 12, 13, 14] (i := 3) (v := ?_) rfl rfl (by kernel_rfl) (by kernel_rfl) (by kernel_rfl) (by kernel_rfl) (fun _ _ _ h => h) (Or.inl ⟨by rfl, ?_⟩) (by assumption) ?_
                  rotate_left
                  · intro w hSw; (try dsimp only at hSw); go_simp; (try with_reducible rfl)
                  try simp only [Act.put, List.setIfInBounds_toArray, List.set_cons_zero, List.set_cons_succ]
                  refine take_y (some 99) (i := 4) (v := ?_) rfl rfl (by kernel_rfl) (by kernel_rfl) (by kernel_rfl) (fun _ _ _ h => h) (Or.inl ⟨by rfl, ?_⟩) ?_
                  rotate_left
                  · intro w _; go_simp; (try with_reducible rfl)
                  try simp only [Act.put, List.setIfInBounds_toArray, List.set_cons_zero, List.set_cons_succ]
                  refine take_y (some 100) (i := 5) (v := ?_) rfl rfl (by kernel_rfl) (by kernel_rfl) (by kernel_rfl) (fun _ _ _ h => h) (Or.inl ⟨by rfl, ?_⟩) ?_
                  rotate_left
                  · intro w _; go_simp; (try with_reducible rfl)
                  try simp only [Act.put, List.setIfInBounds_toArray, List.set_cons_zero, List.set_cons_succ]
                  refine take_y (some 101) (i := 6) (v := ?_) rfl rfl (by kernel_rfl) (by kernel_rfl) (by kernel_rfl) (fun _ _ _ h => h) (Or.inl ⟨by rfl, ?_⟩) ?_
                  rotate_left
                  · intro w _; go_simp; (try with_reducible rfl)
                  try simp only [Act.put, List.setIfInBounds_toArray, List.set_cons_zero, List.set_cons_succ]
                  refine take_y (some 102) (i := 7) (v := ?_) rfl rfl (by kernel_rfl) (by kernel_rfl) (by kernel_rfl) (fun _ _ _ h => h) (Or.inl ⟨by rfl, ?_⟩) ?_
                  rotate_left
                  · intro w _; go_simp; (try with_reducible rfl)
                  try simp only [Act.put, List.setIfInBounds_toArray, List.set_cons_zero, List.set_cons_succ]
                  refine take_y (some 103) (i := 8) (v := ?_) rfl rfl (by kernel_rfl) (by kernel_rfl) (by kernel_rfl) (fun _ _ _ h => h) (Or.inl ⟨by rfl, ?_⟩) ?_
                  rotate_left
                  · intro w _; go_simp; (try with_reducible rfl)
                  try simp only [Act.put, List.setIfInBounds_toArray, List.set_cons_zero, List.set_cons_succ]
                  refine take_y (some 104) (i := 9) (v := ?_) rfl rfl (by kernel_rfl) (by kernel_rfl) (by kernel_rfl) (fun _ _ _ h => h) (Or.inl ⟨by rfl, ?_⟩) ?_
                  rotate_left
                  · intro w _; go_simp; (try with_reducible rfl)
                  try simp only [Act.put, List.setIfInBounds_toArray, List.set_cons_zero, List.set_cons_succ]
                  refine one_f (i := 10) (by kernel_rfl) rfl (fun K hK => ?_)
                  go_simp
                  refine (HIH.out _ RN X _ HR2.out hX HU2.out (by exact HTD.out.tape) (by exact HTD.out.mems.both (fun _ _ _ => rfl) (fun _ _ h => h.1))).mono ?_
                  rintro e WK1 ⟨⟨u0, u1, u2, rfl, hTT⟩, hsK, hgK⟩
                  obtain ⟨K11, N11, A11, m11, c11, rfl, rfl, rfl⟩ := hTT.form
                  have HTK := Lib.hid (HTD.out.grown hsK hgK)
                  have HTT := Lib.hid (hTT.imp (Q := fun b => xb + 1 ≤ b ∧ ((.slice (some ⟨ga, 0, none⟩) (0 + 1) capa) : Value).ownBlock ≠ some b) (fun q hq hP => ⟨by have := HXL.out; omega, fun e => by have := (HOW.out _ e).2; omega⟩))
                  clear hTT hsK hgK
                  go_wp2_with fail
                  replace hSK := (show WK1.cell? ⟨xb, 2, none⟩ = some (.slice (some ⟨ga, 0, none⟩) (0 + 1) capa) ∧ WK1.cell? ⟨g, 0, none⟩ = some (.slice A L c) from ⟨HTK.out.x.cs.2.2, HTK.out.pre.cell⟩)
                  refine hK.out _ _ (Or.inr (fun _ => hSK)) ?_
                  clear hK K
                  try simp only [Act.put, List.setIfInBounds_toArray, List.set_cons_zero, List.set_cons_succ]
                  refine one_f (i := 11) (by kernel_rfl) rfl (fun K hK => ?_)
                  have HTA := Lib.hid (HTK.out.grown (W' := (WK1.alloc (.cells #[.int .i64 K11, .int .i64 N11, .slice A11 m11 c11] 31))) (HTK.out.tape.below (balloc (bref _) _)) (grown_below (balloc (bref _) _)))
                  have HTB := Lib.hid (HTT.out.below (balloc (bref WK1) (.cells #[.int .i64 K11, .int .i64 N11, .slice A11 m11 c11] 31)))
                  go_simp
                  replace hSK := (show (WK1.alloc (.cells #[.int .i64 K11, .int .i64 N11, .slice A11 m11 c11] 31)).cell? ⟨xb, 2, none⟩ = some (.slice (some ⟨ga, 0, none⟩) (0 + 1) capa) ∧ (WK1.alloc (.cells #[.int .i64 K11, .int .i64 N11, .slice A11 m11 c11] 31)).cell? ⟨g, 0, none⟩ = some (.slice A L c) from ⟨HTA.out.x.cs.2.2, HTA.out.pre.cell⟩)
                  refine hK.out _ _ (Or.inr (fun _ => hSK)) ?_
                  clear hK K
                  try simp only [Act.put, List.setIfInBounds_toArray, List.set_cons_zero, List.set_cons_succ]
                  refine one_f (i := 12) (by kernel_rfl) rfl (fun K hK => ?_)
                  obtain ⟨cs, hcs, hcl⟩ := HTA.out.kids
                  have HCL := Lib.hid hcl
                  have HOA := Lib.hid HTA.out.kids.own
                  have hcn := hcs.1
                  have hxl2 := HTA.out.x.lt
                  refine step_append_lies _ (by rfl) _ _ _ (by rfl) (xb + 1) 31 i3 (.agg #[.int .i64 0, .int .i64 0, .slice none 0 0]) 3 40 Try.underlying29 hi3 hy0 hy1 hy2 rfl (by decide) (.slice (some ⟨ga, 0, none⟩) (0 + 1) capa) 1 cs (by rfl) (by exact hcs) ⟨WK1.heap.size, 0, none⟩ 1 1 [.int .i64 K11, .int .i64 N11, .slice A11 m11 c11] (by rfl) rfl (by exact cell_three_newT _ _ _ _ _) (by intro u hu; simp at hu; rcases hu with rfl | rfl | rfl <;> rfl) (by omega) (by unfold maxLen; omega) (by omega) (by simp at hxl2 ⊢; omega) _ rfl ?_
                  intro gb capb W31 hown3 hgrow3 hat3 hlt3
                  have HX3 := Lib.hid (HTA.out.x.keep (hgrow3.block _ hxl2 (fun e => by have := HOA.out _ e.symm; omega)))
                  have HT2 := Lib.hid (TMade.app HTA.out HCL.out (by rw [hcn]) HTB.out hown3 ⟨hgrow3.os, hgrow3.tape, hgrow3.output, hgrow3.size, hgrow3.block⟩ hat3)
                  clear hown3 hgrow3 hat3 hlt3 hcs hcl hcn
                  refine hK.out _ _ (Or.inl (by kernel_rfl)) ?_
                  clear hK K
                  try simp only [Act.put, List.setIfInBounds_toArray, List.set_cons_zero, List.set_cons_succ]
                  refine take_y (some 108) (i := 13) (v := ?_) rfl rfl (by kernel_rfl) (by kernel_rfl) (by kernel_rfl) (fun _ _ _ h => h) (Or.inl ⟨by rfl, ?_⟩) ?_
                  rotate_left
                  · intro w _; go_simp; (try with_reducible rfl)
                  try simp only [Act.put, List.setIfInBounds_toArray, List.set_cons_zero, List.set_cons_succ]
                  refine one_f (i := 14) (by kernel_rfl) rfl (fun K hK => ?_)
                  have y0 := HX3.out.cs.2.2
                  have y1 := HX3.out.fr 2
                  go_simp
                  refine hK.out _ _ (Or.inl (by kernel_rfl)) ?_
                  clear hK K
                  try simp only [Act.put, List.setIfInBounds_toArray, List.set_cons_zero, List.set_cons_succ]
                  refine done_f (by kernel_rfl) ?_ _
                  clear hSK HTD HOW HXL HTK HTT HTA HTB HCL HOA hxl2 HX3 y0 y1
                  generalize hWF : W31.setCell ⟨xb, 2, none⟩ (.slice (some ⟨gb, 0, none⟩) (1 + 1) capb) = WF at *
                  clear hWF
                  skip
                  obtain ⟨y0, y1, y2⟩ := HT2.out.x.cs
                  have zo := HT2.out.res
                  obtain ⟨z0, z1, z2⟩ := zo.cs
                  have f0 := zo.fr 0
                  have f1 := zo.fr 1
                  have f2 := zo.fr 2
                  have HQ := Lib.hid (zo.set (.int .i64 3) (.int .i64 (k : Int)) (.slice (some ⟨gb, 0, none⟩) (1 + 1) capb)).cs
                  have HF := Lib.hid (HT2.out.pre.fin (.int .i64 3) (.int .i64 (k : Int)) (.slice (some ⟨gb, 0, none⟩) (1 + 1) capb))
                  have HR := Lib.hid (((((HT2.out.kids.setLow (p := ⟨g + 1, 0, none⟩) (by show g + 1 < xb + 1; have := HT2.out.hx; omega) (.int .i64 3)).setLow (p := ⟨g + 1, 1, none⟩) (by show g + 1 < xb + 1; have := HT2.out.hx; omega) (.int .i64 (k : Int))).setLow (p := ⟨g + 1, 2, none⟩) (by show g + 1 < xb + 1; have := HT2.out.hx; omega) (.slice (some ⟨gb, 0, none⟩) (1 + 1) capb))).raw 3 (k : Int) (wf10 hk10) (by unfold maxLen; omega) (P := fun b => w.heap.size ≤ b) (fun b hb => by have := HT2.out.hx; have := HT2.out.base; omega))
                  clear zo
                  go_wp2_with fail
                  obtain ⟨q0, q1, q2⟩ := HQ.out
                  refine bodyPost_ret (v := .agg #[.int .i64 3, .int .i64 (k : Int), .slice (some ⟨gb, 0, none⟩) 2 capb]) ?_ rfl ⟨⟨_, _, _, rfl, by first | exact HR.out | (rw [HG.out] at *; exact HR.out)⟩, HF.out⟩
                  simp [results, Try.results26, go_sem, q0, q1, q2]
        · have hsubi : (((G &&& R : Nat) : Int) == (R : Int)) = false := by simpa using (fun e => hsub (by exact_mod_cast e))
          have zo := HMA.out.res
          obtain ⟨z0, z1, z2⟩ := zo.cs
          have f0 := zo.fr 0
          have f1 := zo.fr 1
          have f2 := zo.fr 2
          have HQ := Lib.hid (zo.set (.int .i64 1) (.int .i64 0) (.slice none 0 0)).cs
          have HF := Lib.hid (HMA.out.fin (.int .i64 1) (.int .i64 0) (.slice none 0 0))
          clear zo
          go_wp2_with fail
          obtain ⟨q0, q1, q2⟩ := HQ.out
          refine bodyPost_ret (v := .agg #[.int .i64 1, .int .i64 0, .slice none 0 0]) ?_ rfl ⟨⟨_, _, _, rfl, (RawT.leaf _ _ (by rfl)).le (by omega)⟩, HF.out⟩
          simp [results, Try.results26, go_sem, q0, q1, q2]
    · go_wp2_with fail
      refine (TN_run _ sb _ (by omega) (by omega) HM.out.tape).mono ?_
      rintro e W2 ⟨r, hr0, hr1, rfl, hs2, hg2⟩
      have HM2 := Lib.hid (HM.out.grown hs2 hg2)
      clear hs2 hg2
      by_cases h11 : r = 11
      · subst h11
        go_wp2_with fail
        refine (TRange_run _ sb _ _ (by omega) (by omega) (by omega) HM2.out.tape).mono ?_
        rintro e W3 ⟨K3, _, _, rfl, hs3, hg3⟩
        have HM3 := Lib.hid (HM2.out.grown hs3 hg3)
        clear hs3 hg3
        go_wp2_with fail
        refine (TN_run _ sb _ (by omega) (by omega) HM3.out.tape).mono ?_
        rintro e W4 ⟨N4, hn40, hn41, rfl, hs4, hg4⟩
        have HM4 := Lib.hid (HM3.out.grown hs4 hg4)
        have HWF := Lib.hid (show (Lit.int .i64 N4).wf = true by
          have : N4 = 0 ∨ N4 = 1 := by omega
          rcases this with rfl | rfl <;> rfl)
        clear hs4 hg4
        have zo := HM4.out.res
        obtain ⟨z0, z1, z2⟩ := zo.cs
        have f0 := zo.fr 0
        have f1 := zo.fr 1
        have f2 := zo.fr 2
        have HQ := Lib.hid (zo.set (.int .i64 K3) (.int .i64 N4) (.slice none 0 0)).cs
        have HF := Lib.hid (HM4.out.fin (.int .i64 K3) (.int .i64 N4) (.slice none 0 0))
        clear zo
        go_wp2_with fail
        obtain ⟨q0, q1, q2⟩ := HQ.out
        refine bodyPost_ret (v := .agg #[.int .i64 K3, .int .i64 N4, .slice none 0 0]) ?_ rfl ⟨⟨_, _, _, rfl, (RawT.leaf _ _ (HWF.out)).le (by omega)⟩, HF.out⟩
        simp [results, Try.results26, go_sem, q0, q1, q2]
      · have h11b : (r == 11) = false := by simpa using h11
        go_upto_region 4 with fail
        have hO := andNot_nat n1 X hn1l hX
        have hOl := outS_lt L X hl
        rw [show n1 ^^^ (n1 &&& X) = outS L X by rw [← HN1.out]; rfl] at hO
        obtain ⟨O, hOq⟩ : ∃ O, outS L X = O := ⟨_, rfl⟩
        rw [hOq] at hO hOl
        have cA := HM2.out.cell
        go_wp2_with fail
        refine (rgreatest_run _ 2 ms _ O _ (by rw [HL.out]; exact hl) hOl HM2.out.mems).mono ?_
        rintro e WA ⟨G, rfl, hGl, _, hbA⟩
        have HMA := Lib.hid (HM2.out.bel hbA)
        clear hbA cA hO hOl hOq
        have hGR := i64_and_nat G R (by omega) (by omega)
        by_cases hG0 : G = 0
        · subst hG0
          clear hGR
          have zo := HMA.out.res
          obtain ⟨z0, z1, z2⟩ := zo.cs
          have f0 := zo.fr 0
          have f1 := zo.fr 1
          have f2 := zo.fr 2
          have HQ := Lib.hid (zo.set (.int .i64 1) (.int .i64 0) (.slice none 0 0)).cs
          have HF := Lib.hid (HMA.out.fin (.int .i64 1) (.int .i64 0) (.slice none 0 0))
          clear zo
          go_wp2_with fail
          obtain ⟨q0, q1, q2⟩ := HQ.out
          refine bodyPost_ret (v := .agg #[.int .i64 1, .int .i64 0, .slice none 0 0]) ?_ rfl ⟨⟨_, _, _, rfl, (RawT.leaf _ _ (by rfl)).le (by omega)⟩, HF.out⟩
          simp [results, Try.results26, go_sem, q0, q1, q2]
        · have hG0i : ((G : Int) == 0) = false := by simpa using hG0
          by_cases hsub : G &&& R = R
          · rw [hsub] at hGR
            have hOR := i64_or_nat R X (by omega) (by omega)
            have hRX : R ||| X < 1024 := Nat.or_lt_two_pow (n := 10) hR hX
            have hO := andNot_nat n1 (R ||| X) hn1l hRX
            obtain ⟨F, hF⟩ : ∃ F, outS L (R ||| X) = F := ⟨_, rfl⟩
            rw [show n1 ^^^ (n1 &&& (R ||| X)) = F by rw [← HN1.out]; exact hF] at hO
            have hFl : F < 1024 := by rw [← hF]; exact outS_lt L _ hl
            have HFB := Lib.hid (fun j => (show F.testBit j = (decide (j < L) && !(R ||| X).testBit j) by rw [← hF]; exact outS_bit L _ j))
            have hO2 := andNot_nat n1 R hn1l hR
            have hO2l := outS_lt L R hl
            rw [show n1 ^^^ (n1 &&& R) = outS L R by rw [← HN1.out]; rfl] at hO2
            obtain ⟨O2, hO2q⟩ : ∃ O2, outS L R = O2 := ⟨_, rfl⟩
            rw [hO2q] at hO2 hO2l
            have cA := HMA.out.cell
            clear hF hO2q
            go_wp2_with fail
            refine (rgreatest_run _ 2 ms _ O2 _ (by rw [HL.out]; exact hl) hO2l HMA.out.mems).mono ?_
            rintro e WB ⟨G2, rfl, hG2l, _, hbB⟩
            have HMB := Lib.hid (HMA.out.bel hbB)
            clear hbB cA hO hO2 hO2l hGR hOR
            by_cases hG2 : G2 = 0
            · subst hG2
              have zo := HMB.out.res
              obtain ⟨z0, z1, z2⟩ := zo.cs
              have f0 := zo.fr 0
              have f1 := zo.fr 1
              have f2 := zo.fr 2
              have HQ := Lib.hid (zo.set (.int .i64 2) (.int .i64 0) (.slice none 0 0)).cs
              have HF := Lib.hid (HMB.out.fin (.int .i64 2) (.int .i64 0) (.slice none 0 0))
              clear zo
              go_wp2_with fail
              obtain ⟨q0, q1, q2⟩ := HQ.out
              refine bodyPost_ret (v := .agg #[.int .i64 2, .int .i64 0, .slice none 0 0]) ?_ rfl ⟨⟨_, _, _, rfl, (RawT.leaf _ _ (by rfl)).le (by omega)⟩, HF.out⟩
              simp [results, Try.results26, go_sem, q0, q1, q2]
            · have hG2i : ((G2 : Int) == 0) = false := by simpa using hG2
              by_cases hF0 : F = 0
              · subst hF0
                have zo := HMB.out.res
                obtain ⟨z0, z1, z2⟩ := zo.cs
                have f0 := zo.fr 0
                have f1 := zo.fr 1
                have f2 := zo.fr 2
                have HQ := Lib.hid (zo.set (.int .i64 2) (.int .i64 0) (.slice none 0 0)).cs
                have HF := Lib.hid (HMB.out.fin (.int .i64 2) (.int .i64 0) (.slice none 0 0))
                clear zo
                go_wp2_with fail
                obtain ⟨q0, q1, q2⟩ := HQ.out
                refine bodyPost_ret (v := .agg #[.int .i64 2, .int .i64 0, .slice none 0 0]) ?_ rfl ⟨⟨_, _, _, rfl, (RawT.leaf _ _ (by rfl)).le (by omega)⟩, HF.out⟩
                simp [results, Try.results26, go_sem, q0, q1, q2]
              · have hF0i : ((F : Int) == 0) = false := by simpa using hF0
                obtain ⟨f, hf⟩ : ∃ f, F.testBit f = true := by
                  rcases Classical.em (∃ f, F.testBit f = true) with h | h
                  · exact h
                  · exact (hF0 (Nat.eq_of_testBit_eq (fun k => by
                      rw [Nat.zero_testBit]
                      cases hb : F.testBit k
                      · rfl
                      · exact (h ⟨k, hb⟩).elim))).elim
                have hfL : f < L := by
                  have := HFB.out f
                  rw [hf] at this
                  by_cases hlt : f < L
                  · exact hlt
                  · simp [hlt] at this
                have cB := HMB.out.cell
                go_wp2_with fail
                refine (TN_run _ sb _ (by omega) (by omega) HMB.out.tape).mono ?_
                rintro e WC ⟨r0, hr00, hr01, rfl, hsC, hgC⟩
                obtain ⟨K0, rfl⟩ := Int.eq_ofNat_of_zero_le hr00
                have HMC := Lib.hid (HMB.out.grown hsC hgC)
                clear hsC hgC cB hr00
                have cC := HMC.out.cell
                go_wp2_with fail
                go_loop [14] (fun t => ∃ k : Nat, t = .int .i64 k ∧ k < L) (fun t => if (intOf t).toNat ≤ f then f - (intOf t).toNat else f + L - (intOf t).toNat)
                case atStart => exact ⟨K0, rfl, by omega⟩
                case round =>
                  obtain ⟨k, rfl, hk⟩ := hrel
                  have hbf := bit0_fact F k hFl (by omega)
                  have hk0 : (0 : Int) ≤ (k : Int) := by omega
                  have hk64 : ¬ (64 : Int) ≤ (k : Int) := by omega
                  cases hb : F.testBit k
                  · rw [hb] at hbf
                    go_wp2_with fail
                    go_round
                    case rel => exact ⟨if k + 1 = L then 0 else k + 1, by first | rw [nextK2 hk] | exact congrArg _ hnk | simpa using hnk, nextK_lt hk⟩
                    case measure =>
                      have hkf : k ≠ f := fun e => by rw [e, hf] at hb; cases hb
                      simp only [intOf, Int.toNat_natCast]

                      first | exact nextK_ms hk hfL hkf | (rw [nextK2 hk, Int.toNat_natCast]; exact nextK_ms hk hfL hkf) | (simp only [nextK2 hk, Int.toNat_natCast]; exact nextK_ms hk hfL hkf)
                  · rw [hb] at hbf
                    have hbits := HFB.out k
                    rw [hb, Nat.testBit_or, decide_eq_true hk] at hbits
                    have hRb : R.testBit k = false := by
                      cases hq : R.testBit k
                      · rfl
                      · rw [hq] at hbits; simp at hbits
                    have hXb : X.testBit k = false := by
                      cases hq : X.testBit k
                      · rfl
                      · rw [hq] at hbits; simp at hbits
                    have hU1 := und_X (n := L) hk hRb hXb
                    have hU2 := und_R (n := L) hk hRb hXb
                    have HU1 := Lib.hid (show und L R (X ||| 2 ^ k) < n by have := HU.out; omega)
                    have HU2 := Lib.hid (show und L (R ||| 2 ^ k) X < n by have := HU.out; omega)
                    have hk10 : k < 10 := by omega
                    have hp10 : 2 ^ k < 2 ^ 10 := Nat.pow_lt_pow_right (by omega) hk10
                    have hX2 : X ||| 2 ^ k < 1024 := Nat.or_lt_two_pow (n := 10) hX hp10
                    have hR2 : R ||| 2 ^ k < 1024 := Nat.or_lt_two_pow (n := 10) hR hp10
                    have hoX := or_factT X k hX hk10
                    have hoR := or_factT R k hR hk10
                    obtain ⟨XN, hXN⟩ : ∃ XN, X ||| 2 ^ k = XN := ⟨_, rfl⟩
                    obtain ⟨RN, hRN⟩ : ∃ RN, R ||| 2 ^ k = RN := ⟨_, rfl⟩
                    rw [hXN] at hX2 hoX HU1
                    rw [hRN] at hR2 hoR HU2
                    have HX2 := Lib.hid hX2
                    have HR2 := Lib.hid hR2
                    clear hXN hRN hX2 hR2
                    have HT0 := Lib.hid (TMade.begin (n := n) HMC.out k)
                    clear hbits hRb hXb hU1 hU2 hp10 hf hfL hb hF0 hF0i HFB hG2 hG2i hG0 hG0i hG2l hRX hr01
                    go_upto_region 14 with fail
                    clear hbf hFl cC
                    generalize (WC.alloc (.cells #[.int .i64 3, .int .i64 (k : Int), .slice none 0 0] 31)) = WD at *
                    generalize WC.heap.size = xb at *
                    skip
                    have HTD := Lib.hid (HT0.out.drew (HT0.out.tape.below (bdrewT _)))
                    have HOW := Lib.hid HTD.out.kids.own
                    have HXL := Lib.hid HTD.out.x.lt
                    have hSK : WD.drew.cell? ⟨xb, 2, none⟩ = some (.slice none 0 0) ∧ WD.drew.cell? ⟨g, 0, none⟩ = some (.slice A L c) := ⟨HTD.out.x.cs.2.2, HTD.out.pre.cell⟩
                    refine region_f (fun W => W.cell? ⟨xb, 2, none⟩ = some (.slice none 0 0) ∧ W.cell? ⟨g, 0, none⟩ = some (.slice A L c)) [12, 14] (by kernel_rfl) ?_
                    refine take_y (some 81) (i := 0) (v := ?_) rfl rfl (by kernel_rfl) (by kernel_rfl) (by kernel_rfl) (fun _ _ _ h => h) (Or.inl ⟨by rfl, ?_⟩) ?_
                    rotate_left
                    · intro w _; go_simp; (try with_reducible rfl)
                    try simp only [Act.put, List.setIfInBounds_toArray, List.set_cons_zero, List.set_cons_succ]
                    refine take_f (some 82) [12, 13, 14] (i := 1) (v := ?_) rfl rfl (by kernel_rfl) (by kernel_rfl) (by kernel_rfl) (by kernel_rfl) (fun _ _ _ h => h) (Or.inl ⟨by rfl, ?_⟩) (by assumption) ?_
                    rotate_left
                    · intro w hSw; (try dsimp only at hSw); go_simp; (try with_reducible rfl)
                    try simp only [Act.put, List.setIfInBounds_toArray, List.set_cons_zero, List.set_cons_succ]
                    refine take_y (some 83) (i := 2) (v := ?_) rfl rfl (by kernel_rfl) (by kernel_rfl) (by kernel_rfl) (fun _ _ _ h => h) (Or.inl ⟨by rfl, ?_⟩) ?_
                    rotate_left
                    · intro w _; go_simp; (try with_reducible rfl)
                    try simp only [Act.put, List.setIfInBounds_toArray, List.set_cons_zero, List.set_cons_succ]
                    refine take_f (some 84) [10, 11, 12, 13, 14] (i := 3) (v := ?_) rfl rfl (by kernel_rfl) (by kernel_rfl) (by kernel_rfl) (by kernel_rfl) (fun _ _ _ h => h) (Or.inl ⟨by rfl, ?_⟩) (by assumption) ?_
                    rotate_left
                    · intro w hSw; (try dsimp only at hSw); go_simp; (try with_reducible rfl)
                    try simp only [Act.put, List.setIfInBounds_toArray, List.set_cons_zero, List.set_cons_succ]
                    refine take_y (some 85) (i := 4) (v := ?_) rfl rfl (by kernel_rfl) (by kernel_rfl) (by kernel_rfl) (fun _ _ _ h => h) (Or.inl ⟨by rfl, ?_⟩) ?_
                    rotate_left
                    · intro w _; go_simp; (try with_reducible rfl)
                    try simp only [Act.put, List.setIfInBounds_toArray, List.set_cons_zero, List.set_cons_succ]
                    refine take_y (some 86) (i := 5) (v := ?_) rfl rfl (by kernel_rfl) (by kernel_rfl) (by kernel_rfl) (fun _ _ _ h => h) (Or.inl ⟨by rfl, ?_⟩) ?_
                    rotate_left
                    · intro w _; go_simp; (try with_reducible rfl)
                    try simp only [Act.put, List.setIfInBounds_toArray, List.set_cons_zero, List.set_cons_succ]
                    refine take_y (some 87) (i := 6) (v := ?_) rfl rfl (by kernel_rfl) (by kernel_rfl) (by kernel_rfl) (fun _ _ _ h => h) (Or.inl ⟨by rfl, ?_⟩) ?_
                    rotate_left
                    · intro w _; go_simp; (try with_reducible rfl)
                    try simp only [Act.put, List.setIfInBounds_toArray, List.set_cons_zero, List.set_cons_succ]
                    refine take_y (some 88) (i := 7) (v := ?_) rfl rfl (by kernel_rfl) (by kernel_rfl) (by kernel_rfl) (fun _ _ _ h => h) (Or.inl ⟨by rfl, ?_⟩) ?_
                    rotate_left
                    · intro w _; go_simp; (try with_reducible rfl)
                    try simp only [Act.put, List.setIfInBounds_toArray, List.set_cons_zero, List.set_cons_succ]
                    refine take_y (some 89) (i := 8) (v := ?_) rfl rfl (by kernel_rfl) (by kernel_rfl) (by kernel_rfl) (fun _ _ _ h => h) (Or.inl ⟨by rfl, ?_⟩) ?_
                    rotate_left
                    · intro w _; go_simp; (try with_reducible rfl)
                    try simp only [Act.put, List.setIfInBounds_toArray, List.set_cons_zero, List.set_cons_succ]
                    refine take_y (some 90) (i := 9) (v := ?_) rfl rfl (by kernel_rfl) (by kernel_rfl) (by kernel_rfl) (fun _ _ _ h => h) (Or.inl ⟨by rfl, ?_⟩) ?_
                    rotate_left
                    · intro w _; go_simp; (try with_reducible rfl)
                    try simp only [Act.put, List.setIfInBounds_toArray, List.set_cons_zero, List.set_cons_succ]
                    refine one_f (i := 10) (by kernel_rfl) rfl (fun K hK => ?_)
                    go_simp
                    refine (HIH.out _ R XN _ hR HX2.out HU1.out (by exact HTD.out.tape) (by exact HTD.out.mems.both (fun _ _ _ => rfl) (fun _ _ h => h.1))).mono ?_
                    rintro e WK0 ⟨⟨u0, u1, u2, rfl, hTT⟩, hsK, hgK⟩
                    obtain ⟨K10, N10, A10, m10, c10, rfl, rfl, rfl⟩ := hTT.form
                    have HTK := Lib.hid (HTD.out.grown hsK hgK)
                    have HTT := Lib.hid (hTT.imp (Q := fun b => xb + 1 ≤ b ∧ ((.slice none 0 0) : Value).ownBlock ≠ some b) (fun q hq hP => ⟨by have := HXL.out; omega, fun e => by have := (HOW.out _ e).2; omega⟩))
                    clear hTT hsK hgK
                    go_wp2_with fail
                    replace hSK := (show WK0.cell? ⟨xb, 2, none⟩ = some (.slice none 0 0) ∧ WK0.cell? ⟨g, 0, none⟩ = some (.slice A L c) from ⟨HTK.out.x.cs.2.2, HTK.out.pre.cell⟩)
                    refine hK.out _ _ (Or.inr (fun _ => hSK)) ?_
                    clear hK K
                    try simp only [Act.put, List.setIfInBounds_toArray, List.set_cons_zero, List.set_cons_succ]
                    refine one_f (i := 11) (by kernel_rfl) rfl (fun K hK => ?_)
                    have HTA := Lib.hid (HTK.out.grown (W' := (WK0.alloc (.cells #[.int .i64 K10, .int .i64 N10, .slice A10 m10 c10] 31))) (HTK.out.tape.below (balloc (bref _) _)) (grown_below (balloc (bref _) _)))
                    have HTB := Lib.hid (HTT.out.below (balloc (bref WK0) (.cells #[.int .i64 K10, .int .i64 N10, .slice A10 m10 c10] 31)))
                    go_simp
                    replace hSK := (show (WK0.alloc (.cells #[.int .i64 K10, .int .i64 N10, .slice A10 m10 c10] 31)).cell? ⟨xb, 2, none⟩ = some (.slice none 0 0) ∧ (WK0.alloc (.cells #[.int .i64 K10, .int .i64 N10, .slice A10 m10 c10] 31)).cell? ⟨g, 0, none⟩ = some (.slice A L c) from ⟨HTA.out.x.cs.2.2, HTA.out.pre.cell⟩)
                    refine hK.out _ _ (Or.inr (fun _ => hSK)) ?_
                    clear hK K
                    try simp only [Act.put, List.setIfInBounds_toArray, List.set_cons_zero, List.set_cons_succ]
                    refine one_f (i := 12) (by kernel_rfl) rfl (fun K hK => ?_)
                    obtain ⟨cs, hcs, hcl⟩ := HTA.out.kids
                    have HCL := Lib.hid hcl
                    have HOA := Lib.hid HTA.out.kids.own
                    have hcn := hcs.1
                    have hxl2 := HTA.out.x.lt
                    refine step_append_lies _ (by rfl) _ _ _ (by rfl) (xb + 1) 31 i3 (.agg #[.int .i64 0, .int .i64 0, .slice none 0 0]) 3 40 Try.underlying29 hi3 hy0 hy1 hy2 rfl (by decide) (.slice none 0 0) 0 cs (by rfl) (by exact hcs) ⟨WK0.heap.size, 0, none⟩ 1 1 [.int .i64 K10, .int .i64 N10, .slice A10 m10 c10] (by rfl) rfl (by exact cell_three_newT _ _ _ _ _) (by intro u hu; simp at hu; rcases hu with rfl | rfl | rfl <;> rfl) (by omega) (by unfold maxLen; omega) (by omega) (by simp at hxl2 ⊢; omega) _ rfl ?_
                    intro ga capa W30 hown3 hgrow3 hat3 hlt3
                    have HX3 := Lib.hid (HTA.out.x.keep (hgrow3.block _ hxl2 (fun e => by have := HOA.out _ e.symm; omega)))
                    have HT1 := Lib.hid (TMade.app HTA.out HCL.out (by rw [hcn]) HTB.out hown3 ⟨hgrow3.os, hgrow3.tape, hgrow3.output, hgrow3.size, hgrow3.block⟩ hat3)
                    clear hown3 hgrow3 hat3 hlt3 hcs hcl hcn
                    refine hK.out _ _ (Or.inl (by kernel_rfl)) ?_
                    clear hK K
                    try simp only [Act.put, List.setIfInBounds_toArray, List.set_cons_zero, List.set_cons_succ]
                    refine take_y (some 94) (i := 13) (v := ?_) rfl rfl (by kernel_rfl) (by kernel_rfl) (by kernel_rfl) (fun _ _ _ h => h) (Or.inl ⟨by rfl, ?_⟩) ?_
                    rotate_left
                    · intro w _; go_simp; (try with_reducible rfl)
                    try simp only [Act.put, List.setIfInBounds_toArray, List.set_cons_zero, List.set_cons_succ]
                    refine one_f (i := 14) (by kernel_rfl) rfl (fun K hK => ?_)
                    have y0 := HX3.out.cs.2.2
                    have y1 := HX3.out.fr 2
                    go_simp
                    refine hK.out _ _ (Or.inl (by kernel_rfl)) ?_
                    clear hK K
                    try simp only [Act.put, List.setIfInBounds_toArray, List.set_cons_zero, List.set_cons_succ]
                    refine done_f (by kernel_rfl) ?_ _
                    clear hSK HTD HOW HXL HTK HTT HTA HTB HCL HOA hxl2 HX3 y0 y1
                    go_upto_region 15 with fail
                    generalize hWE : W30.setCell ⟨xb, 2, none⟩ (.slice (some ⟨ga, 0, none⟩) (0 + 1) capa) = WE at *
                    clear hWE
                    skip
                    have HTD := Lib.hid (HT1.out.drew (HT1.out.tape.below (bdrewT _)))
                    have HOW := Lib.hid HTD.out.kids.own
                    have HXL := Lib.hid HTD.out.x.lt
                    have hSK : WE.drew.cell? ⟨xb, 2, none⟩ = some (.slice (some ⟨ga, 0, none⟩) (0 + 1) capa) ∧ WE.drew.cell? ⟨g, 0, none⟩ = some (.slice A L c) := ⟨HTD.out.x.cs.2.2, HTD.out.pre.cell⟩
                    refine region_f (fun W => W.cell? ⟨xb, 2, none⟩ = some (.slice (some ⟨ga, 0, none⟩) (0 + 1) capa) ∧ W.cell? ⟨g, 0, none⟩ = some (.slice A L c)) [12, 14] (by kernel_rfl) ?_
                    refine take_y (some 95) (i := 0) (v := ?_) rfl rfl (by kernel_rfl) (by kernel_rfl) (by kernel_rfl) (fun _ _ _ h => h) (Or.inl ⟨by rfl, ?_⟩) ?_
                    rotate_left
                    · intro w _; go_simp; (try with_reducible rfl)
                    try simp only [Act.put, List.setIfInBounds_toArray, List.set_cons_zero, List.set_cons_succ]
                    refine take_f (some 96) [12, 13, 14] (i := 1) (v := ?_) rfl rfl (by kernel_rfl) (by kernel_rfl) (by kernel_rfl) (by kernel_rfl) (fun _ _ _ h => h) (Or.inl ⟨by rfl, ?_⟩) (by assumption) ?_
                    rotate_left
                    · intro w hSw; (try dsimp only at hSw); go_simp; (try with_reducible rfl)
                    try simp only [Act.put, List.setIfInBounds_toArray, List.set_cons_zero, List.set_cons_succ]
                    refine take_y (some 97) (i := 2) (v := ?_) rfl rfl (by kernel_rfl) (by kernel_rfl) (by kernel_rfl) (fun _ _ _ h => h) (Or.inl ⟨by rfl, ?_⟩) ?_
                    rotate_left
                    · intro w _; go_simp; (try with_reducible rfl)
                    try simp only [Act.put, List.setIfInBounds_toArray, List.set_cons_zero, List.set_cons_succ]
                    refine take_f (some 98) [10, 11, 12, 13, 14] (i := 3) (v := ?_) rfl rfl (by kernel_rfl) (by kernel_rfl) (by kernel_rfl) (by kernel_rfl) (fun _ _ _ h => h) (Or.inl ⟨by rfl, ?_⟩) (by assumption) ?_
                    rotate_left
                    · intro w hSw; (try dsimp only at hSw); go_simp; (try with_reducible rfl)
                    try simp only [Act.put, List.setIfInBounds_toArray, List.set_cons_zero, List.set_cons_succ]
                    refine take_y (some 99) (i := 4) (v := ?_) rfl rfl (by kernel_rfl) (by kernel_rfl) (by kernel_rfl) (fun _ _ _ h => h) (Or.inl ⟨by rfl, ?_⟩) ?_
                    rotate_left
                    · intro w _; go_simp; (try with_reducible rfl)
                    try simp only [Act.put, List.setIfInBounds_toArray, List.set_cons_zero, List.set_cons_succ]
                    refine take_y (some 100) (i := 5) (v := ?_) rfl rfl (by kernel_rfl) (by kernel_rfl) (by kernel_rfl) (fun _ _ _ h => h) (Or.inl ⟨by rfl, ?_⟩) ?_
                    rotate_left
                    · intro w _; go_simp; (try with_reducible rfl)
                    try simp only [Act.put, List.setIfInBounds_toArray, List.set_cons_zero, List.set_cons_succ]
                    refine take_y (some 101) (i := 6) (v := ?_) rfl rfl (by kernel_rfl) (by kernel_rfl) (by kernel_rfl) (fun _ _ _ h => h) (Or.inl ⟨by rfl, ?_⟩) ?_
                    rotate_left
                    · intro w _; go_simp; (try with_reducible rfl)
                    try simp only [Act.put, List.setIfInBounds_toArray, List.set_cons_zero, List.set_cons_succ]
                    refine take_y (some 102) (i := 7) (v := ?_) rfl rfl (by kernel_rfl) (by kernel_rfl) (by kernel_rfl) (fun _ _ _ h => h) (Or.inl ⟨by rfl, ?_⟩) ?_
                    rotate_left
                    · intro w _; go_simp; (try with_reducible rfl)
                    try simp only [Act.put, List.setIfInBounds_toArray, List.set_cons_zero, List.set_cons_succ]
                    refine take_y (some 103) (i := 8) (v := ?_) rfl rfl (by kernel_rfl) (by kernel_rfl) (by kernel_rfl) (fun _ _ _ h => h) (Or.inl ⟨by rfl, ?_⟩) ?_
                    rotate_left
                    · intro w _; go_simp; (try with_reducible rfl)
                    try simp only [Act.put, List.setIfInBounds_toArray, List.set_cons_zero, List.set_cons_succ]
                    refine take_y (some 104) (i := 9) (v := ?_) rfl rfl (by kernel_rfl) (by kernel_rfl) (by kernel_rfl) (fun _ _ _ h => h) (Or.inl ⟨by rfl, ?_⟩) ?_
                    rotate_left
                    · intro w _; go_simp; (try with_reducible rfl)
                    try simp only [Act.put, List.setIfInBounds_toArray, List.set_cons_zero, List.set_cons_succ]
                    refine one_f (i := 10) (by kernel_rfl) rfl (fun K hK => ?_)
                    go_simp
                    refine (HIH.out _ RN X _ HR2.out hX HU2.out (by exact HTD.out.tape) (by exact HTD.out.mems.both (fun _ _ _ => rfl) (fun _ _ h => h.1))).mono ?_
                    rintro e WK1 ⟨⟨u0, u1, u2, rfl, hTT⟩, hsK, hgK⟩
                    obtain ⟨K11, N11, A11, m11, c11, rfl, rfl, rfl⟩ := hTT.form
                    have HTK := Lib.hid (HTD.out.grown hsK hgK)
                    have HTT := Lib.hid (hTT.imp (Q := fun b => xb + 1 ≤ b ∧ ((.slice (some ⟨ga, 0, none⟩) (0 + 1) capa) : Value).ownBlock ≠ some b) (fun q hq hP => ⟨by have := HXL.out; omega, fun e => by have := (HOW.out _ e).2; omega⟩))
                    clear hTT hsK hgK
                    go_wp2_with fail
                    replace hSK := (show WK1.cell? ⟨xb, 2, none⟩ = some (.slice (some ⟨ga, 0, none⟩) (0 + 1) capa) ∧ WK1.cell? ⟨g, 0, none⟩ = some (.slice A L c) from ⟨HTK.out.x.cs.2.2, HTK.out.pre.cell⟩)
                    refine hK.out _ _ (Or.inr (fun _ => hSK)) ?_
                    clear hK K
                    try simp only [Act.put, List.setIfInBounds_toArray, List.set_cons_zero, List.set_cons_succ]
                    refine one_f (i := 11) (by kernel_rfl) rfl (fun K hK => ?_)
                    have HTA := Lib.hid (HTK.out.grown (W' := (WK1.alloc (.cells #[.int .i64 K11, .int .i64 N11, .slice A11 m11 c11] 31))) (HTK.out.tape.below (balloc (bref _) _)) (grown_below (balloc (bref _) _)))
                    have HTB := Lib.hid (HTT.out.below (balloc (bref WK1) (.cells #[.int .i64 K11, .int .i64 N11, .slice A11 m11 c11] 31)))
                    go_simp
                    replace hSK := (show (WK1.alloc (.cells #[.int .i64 K11, .int .i64 N11, .slice A11 m11 c11] 31)).cell? ⟨xb, 2, none⟩ = some (.slice (some ⟨ga, 0, none⟩) (0 + 1) capa) ∧ (WK1.alloc (.cells #[.int .i64 K11, .int .i64 N11, .slice A11 m11 c11] 31)).cell? ⟨g, 0, none⟩ = some (.slice A L c) from ⟨HTA.out.x.cs.2.2, HTA.out.pre.cell⟩)
                    refine hK.out _ _ (Or.inr (fun _ => hSK)) ?_
                    clear hK K
                    try simp only [Act.put, List.setIfInBounds_toArray, List.set_cons_zero, List.set_cons_succ]
                    refine one_f (i := 12) (by kernel_rfl) rfl (fun K hK => ?_)
                    obtain ⟨cs, hcs, hcl⟩ := HTA.out.kids
                    have HCL := Lib.hid hcl
                    have HOA := Lib.hid HTA.out.kids.own
                    have hcn := hcs.1
                    have hxl2 := HTA.out.x.lt
                    refine step_append_lies _ (by rfl) _ _ _ (by rfl) (xb + 1) 31 i3 (.agg #[.int .i64 0, .int .i64 0, .slice none 0 0]) 3 40 Try.underlying29 hi3 hy0 hy1 hy2 rfl (by decide) (.slice (some ⟨ga, 0, none⟩) (0 + 1) capa) 1 cs (by rfl) (by exact hcs) ⟨WK1.heap.size, 0, none⟩ 1 1 [.int .i64 K11, .int .i64 N11, .slice A11 m11 c11] (by rfl) rfl (by exact cell_three_newT _ _ _ _ _) (by intro u hu; simp at hu; rcases hu with rfl | rfl | rfl <;> rfl) (by omega) (by unfold maxLen; omega) (by omega) (by simp at hxl2 ⊢; omega) _ rfl ?_
                    intro gb capb W31 hown3 hgrow3 hat3 hlt3
                    have HX3 := Lib.hid (HTA.out.x.keep (hgrow3.block _ hxl2 (fun e => by have := HOA.out _ e.symm; omega)))
                    have HT2 := Lib.hid (TMade.app HTA.out HCL.out (by rw [hcn]) HTB.out hown3 ⟨hgrow3.os, hgrow3.tape, hgrow3.output, hgrow3.size, hgrow3.block⟩ hat3)
                    clear hown3 hgrow3 hat3 hlt3 hcs hcl hcn
                    refine hK.out _ _ (Or.inl (by kernel_rfl)) ?_
                    clear hK K
                    try simp only [Act.put, List.setIfInBounds_toArray, List.set_cons_zero, List.set_cons_succ]
                    refine take_y (some 108) (i := 13) (v := ?_) rfl rfl (by kernel_rfl) (by kernel_rfl) (by kernel_rfl) (fun _ _ _ h => h) (Or.inl ⟨by rfl, ?_⟩) ?_
                    rotate_left
                    · intro w _; go_simp; (try with_reducible rfl)
                    try simp only [Act.put, List.setIfInBounds_toArray, List.set_cons_zero, List.set_cons_succ]
                    refine one_f (i := 14) (by kernel_rfl) rfl (fun K hK => ?_)
                    have y0 := HX3.out.cs.2.2
                    have y1 := HX3.out.fr 2
                    go_simp
                    refine hK.out _ _ (Or.inl (by kernel_rfl)) ?_
                    clear hK K
                    try simp only [Act.put, List.setIfInBounds_toArray, List.set_cons_zero, List.set_cons_succ]
                    refine done_f (by kernel_rfl) ?_ _
                    clear hSK HTD HOW HXL HTK HTT HTA HTB HCL HOA hxl2 HX3 y0 y1
                    generalize hWF : W31.setCell ⟨xb, 2, none⟩ (.slice (some ⟨gb, 0, none⟩) (1 + 1) capb) = WF at *
                    clear hWF
                    skip
                    obtain ⟨y0, y1, y2⟩ := HT2.out.x.cs
                    have zo := HT2.out.res
                    obtain ⟨z0, z1, z2⟩ := zo.cs
                    have f0 := zo.fr 0
                    have f1 := zo.fr 1
                    have f2 := zo.fr 2
                    have HQ := Lib.hid (zo.set (.int .i64 3) (.int .i64 (k : Int)) (.slice (some ⟨gb, 0, none⟩) (1 + 1) capb)).cs
                    have HF := Lib.hid (HT2.out.pre.fin (.int .i64 3) (.int .i64 (k : Int)) (.slice (some ⟨gb, 0, none⟩) (1 + 1) capb))
                    have HR := Lib.hid (((((HT2.out.kids.setLow (p := ⟨g + 1, 0, none⟩) (by show g + 1 < xb + 1; have := HT2.out.hx; omega) (.int .i64 3)).setLow (p := ⟨g + 1, 1, none⟩) (by show g + 1 < xb + 1; have := HT2.out.hx; omega) (.int .i64 (k : Int))).setLow (p := ⟨g + 1, 2, none⟩) (by show g + 1 < xb + 1; have := HT2.out.hx; omega) (.slice (some ⟨gb, 0, none⟩) (1 + 1) capb))).raw 3 (k : Int) (wf10 hk10) (by unfold maxLen; omega) (P := fun b => w.heap.size ≤ b) (fun b hb => by have := HT2.out.hx; have := HT2.out.base; omega))
                    clear zo
                    go_wp2_with fail
                    obtain ⟨q0, q1, q2⟩ := HQ.out
                    refine bodyPost_ret (v := .agg #[.int .i64 3, .int .i64 (k : Int), .slice (some ⟨gb, 0, none⟩) 2 capb]) ?_ rfl ⟨⟨_, _, _, rfl, by first | exact HR.out | (rw [HG.out] at *; exact HR.out)⟩, HF.out⟩
                    simp [results, Try.results26, go_sem, q0, q1, q2]
          · have hsubi : (((G &&& R : Nat) : Int) == (R : Int)) = false := by simpa using (fun e => hsub (by exact_mod_cast e))
            have zo := HMA.out.res
            obtain ⟨z0, z1, z2⟩ := zo.cs
            have f0 := zo.fr 0
            have f1 := zo.fr 1
            have f2 := zo.fr 2
            have HQ := Lib.hid (zo.set (.int .i64 1) (.int .i64 0) (.slice none 0 0)).cs
            have HF := Lib.hid (HMA.out.fin (.int .i64 1) (.int .i64 0) (.slice none 0 0))
            clear zo
            go_wp2_with fail
            obtain ⟨q0, q1, q2⟩ := HQ.out
            refine bodyPost_ret (v := .agg #[.int .i64 1, .int .i64 0, .slice none 0 0]) ?_ rfl ⟨⟨_, _, _, rfl, (RawT.leaf _ _ (by rfl)).le (by omega)⟩, HF.out⟩
            simp [results, Try.results26, go_sem, q0, q1, q2]
end Go.Proofs.Ytfghnkgllmofgaa
