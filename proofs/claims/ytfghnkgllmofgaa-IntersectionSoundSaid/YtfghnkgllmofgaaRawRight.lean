/- Fused. -/
import Derived.Test.YtfghnkgllmofgaaConf
import Derived.Deep.Slices
import Derived.Deep.Fields
import Derived.ChangeSame
import Derived.Lib.SmallJoins
import Derived.Test.YtfghnkgllmofgaaSearch
import Derived.Test.YtfghnkgllmofgaaOrdersMath
namespace Go.Proofs.Ytfghnkgllmofgaa
set_option linter.unusedVariables false
set_option linter.unusedSimpArgs false
open Go.RowKit Go.ChangeShapes Go.WideShapes Go.Deep

/-- The three values of a node of a search tree with at most n levels. -/
def RawT (P : Nat → Prop) : Nat → World → Value → Value → Value → Prop
  | 0, _, _, _, _ => False
  | n + 1, w, k, nd, s => ∃ (K N : Int) (A : Option Addr) (m c : Nat), k = .int .i64 K ∧ nd = .int .i64 N ∧ s = .slice A m c ∧ (Lit.int .i64 N).wf = true ∧ m ≤ maxLen ∧
      ∀ i, i < m → ∃ q off x0 x1 x2, A = some ⟨q, off, none⟩ ∧ P q ∧ q < w.heap.size ∧ w.cell? ⟨q, off + i * 3, none⟩ = some x0 ∧ w.cell? ⟨q, off + i * 3 + 1, none⟩ = some x1 ∧ w.cell? ⟨q, off + i * 3 + 2, none⟩ = some x2 ∧ RawT P n w x0 x1 x2
theorem RawT.both {P Q : Nat → Prop} {w w' : World} (hs : w.heap.size ≤ w'.heap.size) (hk : ∀ q, q < w.heap.size → P q → w'.heap[q]? = w.heap[q]?) (hq : ∀ q, q < w.heap.size → P q → Q q) : ∀ {n : Nat} {k nd s : Value}, RawT P n w k nd s → RawT Q n w' k nd s
  | 0, _, _, _, h => h.elim
  | n + 1, k, nd, s, h => by
    obtain ⟨K, N, A, m, c, h1, h2, h3, h4, h5, h6⟩ := h
    refine ⟨K, N, A, m, c, h1, h2, h3, h4, h5, fun i hi => ?_⟩
    obtain ⟨q, off, x0, x1, x2, e0, e1, e2, e3, e4, e5, e6⟩ := h6 i hi
    exact ⟨q, off, x0, x1, x2, e0, hq q e2 e1, Nat.lt_of_lt_of_le e2 hs, (World.cell?_of_block (a := ⟨q, off + i * 3, none⟩) (hk q e2 e1)).trans e3, (World.cell?_of_block (a := ⟨q, off + i * 3 + 1, none⟩) (hk q e2 e1)).trans e4, (World.cell?_of_block (a := ⟨q, off + i * 3 + 2, none⟩) (hk q e2 e1)).trans e5, RawT.both hs hk hq e6⟩
theorem RawT.below {P : Nat → Prop} {w w' : World} {n : Nat} {k nd s : Value} (h : RawT P n w k nd s) (hb : Below w.heap.size w w') : RawT P n w' k nd s := h.both hb.size (fun q hq _ => hb.block q hq) (fun _ _ h => h)
theorem RawT.up {P : Nat → Prop} {w : World} : ∀ {n : Nat} {k nd s : Value}, RawT P n w k nd s → RawT P (n + 1) w k nd s
  | 0, _, _, _, h => h.elim
  | n + 1, k, nd, s, h => by
    obtain ⟨K, N, A, m, c, h1, h2, h3, h4, h5, h6⟩ := h
    refine ⟨K, N, A, m, c, h1, h2, h3, h4, h5, fun i hi => ?_⟩
    obtain ⟨q, off, x0, x1, x2, e0, e1, e2, e3, e4, e5, e6⟩ := h6 i hi
    exact ⟨q, off, x0, x1, x2, e0, e1, e2, e3, e4, e5, RawT.up e6⟩
theorem RawT.le {P : Nat → Prop} {w : World} {n m : Nat} (hnm : n ≤ m) {k nd s : Value} (h : RawT P n w k nd s) : RawT P m w k nd s := by
  induction hnm with
  | refl => exact h
  | step _ ih => exact ih.up
theorem RawT.form {P : Nat → Prop} {w : World} {n : Nat} {k nd s : Value} (h : RawT P n w k nd s) : ∃ (K N : Int) (A : Option Addr) (m c : Nat), k = .int .i64 K ∧ nd = .int .i64 N ∧ s = .slice A m c := by
  cases n with
  | zero => exact h.elim
  | succ n =>
    obtain ⟨K, N, A, m, c, h1, h2, h3, _⟩ := h
    exact ⟨K, N, A, m, c, h1, h2, h3⟩
theorem RawT.leaf {P : Nat → Prop} {w : World} (K N : Int) (hN : (Lit.int .i64 N).wf = true) : RawT P 1 w (.int .i64 K) (.int .i64 N) (.slice none 0 0) := ⟨K, N, none, 0, 0, rfl, rfl, rfl, hN, by unfold maxLen; omega, fun i hi => absurd hi (by omega)⟩
theorem cell_spotT {w : World} {a : Addr} {v : Value} (h : w.cell? a = some v) : ∃ b off, a = ⟨b, off, none⟩ := by
  obtain ⟨b, off, sp⟩ := a
  cases sp with
  | none => exact ⟨b, off, rfl⟩
  | some x =>
    simp only [World.cell?] at h
    split at h <;> simp at h
section
variable {H : Type} {enc : TypeId × Value → H} {w : World} {base : Nat} {spare : Nat → Bool} {held : Bool}
set_option maxRecDepth 100000 in
theorem rawtr_fuel : ∀ (fuel : Nat) (f : Nat), f ≤ fuel → ∀ (cs : List Value) (y : DataW H × List MemPlace), DataW.trod enc Try.prog w base spare held f 31 cs = some y → ∃ x0 x1 x2, cs = [x0, x1, x2] ∧ RawT (fun _ => True) fuel w x0 x1 x2 := by
  intro fuel
  have hC : Try.prog.cellsOf 31 = 3 := by kernel_rfl
  have hC1 : Try.prog.cellsOf 3 = 1 := by kernel_rfl
  have hC2 : Try.prog.cellsOf 29 = 1 := by kernel_rfl
  induction fuel with
  | zero =>
    intro f hf cs y h
    obtain rfl : f = 0 := by omega
    simp [DataW.trod] at h
  | succ fuel ih =>
    intro f hf cs y h
    obtain ⟨xs, n, hfn, _, hl, hlen, hf2⟩ := DataW.trod_struct Try.underlying31 h
    rw [hC] at hl
    have h3 : xs.length = 3 := hlen
    have g0 := hf2 0 _ rfl
    have g1 := hf2 1 _ rfl
    have g2 := hf2 2 _ rfl
    rw [List.getElem?_eq_getElem (show 0 < xs.length by omega)] at g0
    rw [List.getElem?_eq_getElem (show 1 < xs.length by omega)] at g1
    rw [List.getElem?_eq_getElem (show 2 < xs.length by omega)] at g2
    match cs, hl with
    | [x0, x1, x2], _ =>
      (try simp only [hC1, hC2] at g0 g1 g2)
      obtain ⟨k0, e0, _, _⟩ := DataW.trod_int (k := .i64) (by kernel_rfl) g0
      obtain ⟨k1, e1, _, w1⟩ := DataW.trod_int (k := .i64) (by kernel_rfl) g1
      have f0 : x0 = .int .i64 k0 := by simpa [hC1] using e0
      have f1 : x1 = .int .i64 k1 := by simpa [hC1] using e1
      subst f0 f1
      rcases DataW.trod_slice Try.underlying29 g2 with ⟨e2, _⟩ | ⟨a, len, cap, elems, rest, m, hm, e2, _, hb, hlc, hcm, hel, hall, _⟩
      · have f2 : x2 = .slice none 0 0 := by simpa [hC2] using e2
        subst f2
        exact ⟨_, _, _, rfl, k0, k1, none, 0, 0, rfl, rfl, rfl, w1, by unfold maxLen; omega, fun i hi => absurd hi (by omega)⟩
      · have f2 : x2 = .slice (some a) len cap := by simpa [hC2] using e2
        subst f2
        refine ⟨_, _, _, rfl, k0, k1, some a, len, cap, rfl, rfl, rfl, w1, Nat.le_trans hlc hcm, fun i hi => ?_⟩
        have hkey : ∀ i, i < len → ∃ x0 x1 x2, w.cell? (a.add (i * 3)) = some x0 ∧ w.cell? ((a.add (i * 3)).add 1) = some x1 ∧ w.cell? ((a.add (i * 3)).add 2) = some x2 ∧ RawT (fun _ => True) fuel w x0 x1 x2 := fun i hi => by
          have h5 := hall i hi
          rw [hC] at h5
          have h6 : elems[i]? = some (elems[i]'(by omega)) := List.getElem?_eq_getElem _
          rw [h6] at h5
          obtain ⟨cs2, hc2, ht2⟩ := Option.bind_eq_some_iff.1 h5
          obtain ⟨y0, y1, y2, rfl, hr⟩ := ih m (by omega) _ _ ht2
          obtain ⟨_, _, hat⟩ := World.cells?_some hc2
          have b0 := hat 0 (by omega)
          have b1 := hat 1 (by omega)
          have b2 := hat 2 (by omega)
          have e : ((a.add (i * 3)).add 0) = a.add (i * 3) := by simp [Addr.add]
          rw [e] at b0
          exact ⟨y0, y1, y2, b0, b1, b2, hr⟩
        obtain ⟨z0, _, _, hz, _⟩ := hkey 0 (by omega)
        rw [show a.add (0 * 3) = a by simp [Addr.add]] at hz
        obtain ⟨q, off, rfl⟩ := cell_spotT hz
        obtain ⟨y0, y1, y2, b0, b1, b2, hr⟩ := hkey i hi
        rw [Addr.add_lit] at b0 b1 b2
        rw [Addr.add_lit] at b1 b2
        exact ⟨q, off, y0, y1, y2, rfl, trivial, cell_lt hz, b0, b1, b2, hr⟩
theorem rawtr_open {r : Reach} {b0 : Nat} {v : Value} {d : DataW H} {p : List MemPlace} (hv : Value.okWide Try.prog w r b0 31 v) (h : DataW.Trod enc Try.prog w base spare held 31 v d p) :
    ∃ (x0 x1 x2 : Value) (n : Nat), v = .agg #[x0, x1, x2] ∧ RawT (fun _ => True) n w x0 x1 x2 := by
  obtain ⟨cs, rfl, hsz⟩ := okWide_struct Try.underlying31 hv
  obtain ⟨fuel, hf⟩ := h
  obtain ⟨x0, x1, x2, h1, h2⟩ := rawtr_fuel fuel fuel (Nat.le_refl _) _ _ hf
  refine ⟨x0, x1, x2, fuel, ?_, h2⟩
  have : cs.toList = [x0, x1, x2] := h1
  rw [← this]
end
end Go.Proofs.Ytfghnkgllmofgaa

namespace Go.Proofs.Ytfghnkgllmofgaa
set_option linter.unusedVariables false
set_option linter.unusedSimpArgs false
open Go.RowKit

set_option maxRecDepth 100000 in
set_option maxHeartbeats 4000000 in
theorem branches_run (P : Nat → Prop) : ∀ (n : Nat) (x0 x1 x2 : Value) (k : Int) (w : World), RawT P n w x0 x1 x2 →
    Calls Try.prog 31 #[.agg #[x0, x1, x2], .int .i64 k] w fun e w' => ∃ k' : Int, e = .returned (.int .i64 k') ∧ Below w.heap.size w w' := by
  intro n
  induction n with
  | zero => intro x0 x1 x2 k w h; exact h.elim
  | succ n ih =>
    intro x0 x1 x2 k w h
    obtain ⟨K, N, A, m, c, rfl, rfl, rfl, hN, hm, hk⟩ := h
    have hb1 := balloc (bref w) (.cells #[.int .i64 K, .int .i64 N, .slice A m c] 31)
    have k0 : (w.alloc (.cells #[.int .i64 K, .int .i64 N, .slice A m c] 31)).heap[w.heap.size]? = some (.cells #[.int .i64 K, .int .i64 N, .slice A m c] 31 (0, 0)) := alloc_at rfl
    have RAW := Lib.hid (show ∀ i, i < m → ∃ q off x0 x1 x2, A = some ⟨q, off, none⟩ ∧ P q ∧ q < w.heap.size ∧ w.cell? ⟨q, off + i * 3, none⟩ = some x0 ∧ w.cell? ⟨q, off + i * 3 + 1, none⟩ = some x1 ∧ w.cell? ⟨q, off + i * 3 + 2, none⟩ = some x2 ∧ RawT P n w x0 x1 x2 from hk)
    have HB := Lib.hid hb1
    have IH := Lib.hid ih
    clear hb1 ih hk
    go_enter Try.func31, Try.ntmps31
    go_upto_region 1 with fail
    generalize (w.alloc (.cells #[.int .i64 K, .int .i64 N, .slice A m c] 31)) = W1 at *
    generalize hg : w.heap.size = g at *
    have HG := Lib.hid hg
    have t2 : W1.cell? ⟨g, 2, none⟩ = some (.slice A m c) := cell_of_row _ _ 2 _ _ (0, 0) k0
    have HBw := Lib.hid (show Below w.heap.size w W1 by rw [HG.out]; exact HB.out)
    clear k0 hg
    go_wp2_with fail
    go_loopw [1, 5] (fun v t W => ∃ (k : Int) (i : Nat), i ≤ m ∧ v = .int .i64 k ∧ t = .int .i64 i ∧ Hid (Below W1.heap.size W1 W)) (fun _ t _ => m - (intOf t).toNat)
    case atStart => exact ⟨_, 0, by omega, rfl, rfl, Lib.hid (bref _)⟩
    case round =>
      obtain ⟨k1, i, hi, rfl, rfl, hB⟩ := hrel
      have d2 := (hB.out.cell (cell_lt t2)).trans t2
      have HZ := Lib.hid (bstep HBw.out hB.out)
      by_cases hlt : i < m
      · have hwrap : IntKind.i64.wrap ((i : Int) + 1) = ((i + 1 : Nat) : Int) := by unfold maxLen at hm; simp [IntKind.wrap, IntKind.signed, IntKind.bits]; omega
        by_cases h6 : k1 ≤ 600
        · obtain ⟨q, off, y0, y1, y2, rfl, hP, hq, e0, e1, e2, hr⟩ := RAW.out i hlt
          obtain ⟨K2, N2, A2, m2, c2, rfl, rfl, rfl⟩ := hr.form
          have hBW := Lib.hid (show Below w.heap.size w wr from HZ.out)
          have d3 := (hBW.out.cell (cell_lt e0)).trans e0
          have d4 := (hBW.out.cell (cell_lt e1)).trans e1
          have d5 := (hBW.out.cell (cell_lt e2)).trans e2
          have HR := Lib.hid (hr.below hBW.out)
          clear hr e0 e1 e2
          go_wp2_with fail
          refine (IH.out _ _ _ _ _ HR.out).mono ?_
          rintro e w2 ⟨k', rfl, hb2⟩
          have HB2 := Lib.hid (bstep hB.out hb2)
          clear hb2 d2 d3 d4 d5
          go_wp2_with fail
          go_roundw
          case rel => exact ⟨k', i + 1, by omega, rfl, by first | rfl | simp | rw [hwrap], HB2⟩
          case measure => simp [intOf]; omega
        · go_wp2_with fail
          go_ret
          first | exact ⟨⟨_, rfl⟩, HZ.out⟩ | exact ⟨_, rfl, HZ.out⟩
      · obtain rfl : i = m := by omega
        go_wp2_with fail
        go_ret
        first | exact ⟨⟨_, rfl⟩, HZ.out⟩ | exact ⟨_, rfl, HZ.out⟩

set_option maxRecDepth 100000 in
set_option maxHeartbeats 4000000 in
theorem rsize_any (P : Nat → Prop) : ∀ (n : Nat) (x0 x1 x2 : Value) (w : World), RawT P n w x0 x1 x2 →
    Calls Try.prog 25 #[.agg #[x0, x1, x2]] w fun e w' => ∃ k' : Int, e = .returned (.int .i64 k') ∧ Below w.heap.size w w' := by
  intro n
  induction n with
  | zero => intro x0 x1 x2 w h; exact h.elim
  | succ n ih =>
    intro x0 x1 x2 w h
    obtain ⟨K, N, A, m, c, rfl, rfl, rfl, hN, hm, hk⟩ := h
    have hb1 := balloc (bref w) (.cells #[.int .i64 K, .int .i64 N, .slice A m c] 31)
    have k0 : (w.alloc (.cells #[.int .i64 K, .int .i64 N, .slice A m c] 31)).heap[w.heap.size]? = some (.cells #[.int .i64 K, .int .i64 N, .slice A m c] 31 (0, 0)) := alloc_at rfl
    have RAW := Lib.hid (show ∀ i, i < m → ∃ q off x0 x1 x2, A = some ⟨q, off, none⟩ ∧ P q ∧ q < w.heap.size ∧ w.cell? ⟨q, off + i * 3, none⟩ = some x0 ∧ w.cell? ⟨q, off + i * 3 + 1, none⟩ = some x1 ∧ w.cell? ⟨q, off + i * 3 + 2, none⟩ = some x2 ∧ RawT P n w x0 x1 x2 from hk)
    have HB := Lib.hid hb1
    have IH := Lib.hid ih
    clear hb1 ih hk
    go_enter Try.func25, Try.ntmps25
    go_upto_region 1 with fail
    generalize (w.alloc (.cells #[.int .i64 K, .int .i64 N, .slice A m c] 31)) = W1 at *
    generalize hg : w.heap.size = g at *
    have HG := Lib.hid hg
    have t2 : W1.cell? ⟨g, 2, none⟩ = some (.slice A m c) := cell_of_row _ _ 2 _ _ (0, 0) k0
    have HBw := Lib.hid (show Below w.heap.size w W1 by rw [HG.out]; exact HB.out)
    clear k0 hg
    go_wp2_with fail
    go_loopw [3, 9] (fun v t W => ∃ (k : Int) (i : Nat), i ≤ m ∧ v = .int .i64 k ∧ t = .int .i64 i ∧ Hid (Below W1.heap.size W1 W)) (fun _ t _ => m - (intOf t).toNat)
    case atStart => exact ⟨_, 0, by omega, rfl, rfl, Lib.hid (bref _)⟩
    case round =>
      obtain ⟨k1, i, hi, rfl, rfl, hB⟩ := hrel
      have HZ := Lib.hid (bstep HBw.out hB.out)
      by_cases hlt : i < m
      · have hwrap : IntKind.i64.wrap ((i : Int) + 1) = ((i + 1 : Nat) : Int) := by unfold maxLen at hm; simp [IntKind.wrap, IntKind.signed, IntKind.bits]; omega
        obtain ⟨q, off, y0, y1, y2, rfl, hP, hq, e0, e1, e2, hr⟩ := RAW.out i hlt
        obtain ⟨K2, N2, A2, m2, c2, rfl, rfl, rfl⟩ := hr.form
        have hBW := Lib.hid (show Below w.heap.size w wr from HZ.out)
        have d3 := (hBW.out.cell (cell_lt e0)).trans e0
        have d4 := (hBW.out.cell (cell_lt e1)).trans e1
        have d5 := (hBW.out.cell (cell_lt e2)).trans e2
        have HR := Lib.hid (hr.below hBW.out)
        clear hr e0 e1 e2
        go_wp2_with fail
        refine (IH.out _ _ _ _ (HR.out.below (balloc (bref wr) _))).mono ?_
        rintro e w2 ⟨k', rfl, hb2⟩
        have HB2 := Lib.hid (bstep (balloc hB.out (.cells #[.int .i64 K2, .int .i64 N2, .slice A2 m2 c2] 31)) hb2)
        clear hb2 d3 d4 d5
        go_wp2_with fail
        go_roundw
        case rel => exact ⟨_, i + 1, by omega, rfl, by first | rfl | simp | rw [hwrap], HB2⟩
        case measure => simp [intOf]; omega
      · obtain rfl : i = m := by omega
        go_wp2_with fail
        go_ret
        first | exact ⟨⟨_, rfl⟩, HZ.out⟩ | exact ⟨_, rfl, HZ.out⟩
end Go.Proofs.Ytfghnkgllmofgaa

namespace Go.Proofs.Ytfghnkgllmofgaa
set_option linter.unusedVariables false
set_option linter.unusedSimpArgs false
open Go.RowKit

/-- No two disjoint quorums, the one with all of R and nothing of X. -/
def Snd (d : Nat) (ms : List Mem) (R X : Nat) : Prop := ∀ A B, A < 1024 → B < 1024 → IsQ d ms A → IsQ d ms B → Sub R A → (∀ k, A.testBit k = true → X.testBit k = false) → (∀ k, A.testBit k = true → B.testBit k = false) → False
theorem bitDecl {ms : List Mem} : ∀ n k, (declS ms n).testBit k = true → k < n := fun _ _ h => declS_bit h
theorem sub_outD {ms : List Mem} {A X : Nat} (hA : Sub A (declS ms ms.length)) (hx : ∀ k, A.testBit k = true → X.testBit k = false) : Sub A (outS ms.length X &&& declS ms ms.length) := fun k hk => by
  rw [Nat.testBit_and, outS_bit, hA k hk, hx k hk, decide_eq_true (bitDecl _ _ (hA k hk))]; rfl
theorem nz_bits {A : Nat} (h : ∀ k, A.testBit k = false) : A = 0 := Nat.eq_of_testBit_eq (fun k => by rw [h k, Nat.zero_testBit])
theorem snd_none {d : Nat} {ms : List Mem} {R X G : Nat} (hgr : IsGr d ms (outS ms.length X &&& declS ms ms.length) G) (h : noneB R G = true) : Snd d ms R X := by
  intro A B hA hB qA qB hR hX hAB
  have hs : Sub A G := hgr.most A hA (sub_outD qA.2.1 hX) qA.2.2
  rcases noneB_iff.1 h with h1 | h1
  · subst h1
    exact qA.1 (nz_bits (fun k => by
      cases hb : A.testBit k
      · rfl
      · have := hs k hb; simp at this))
  · exact h1 (fun k hk => hs k (hR k hk))
theorem snd_alone {d : Nat} {ms : List Mem} {R X G : Nat} (hgr : IsGr d ms (outS ms.length R &&& declS ms ms.length) G) (h : (G == 0) = true) : Snd d ms R X := by
  intro A B hA hB qA qB hR hX hAB
  have h1 : G = 0 := by simpa using h
  subst h1
  have hs : Sub B 0 := hgr.most B hB (sub_outD qB.2.1 (fun k hk => by
    cases hb : R.testBit k
    · rfl
    · have := hAB k (hR k hb); rw [hk] at this; cases this)) qB.2.2
  exact qB.1 (nz_bits (fun k => by
    cases hb : B.testBit k
    · rfl
    · have := hs k hb; simp at this))
theorem snd_split {d : Nat} {ms : List Mem} {R X nd : Nat} (h1 : Snd d ms R (X ||| 2 ^ nd)) (h2 : Snd d ms (R ||| 2 ^ nd) X) : Snd d ms R X := by
  intro A B hA hB qA qB hR hX hAB
  cases hb : A.testBit nd
  · refine h1 A B hA hB qA qB hR (fun k hk => ?_) hAB
    rw [Nat.testBit_or, hX k hk, Nat.testBit_two_pow]
    by_cases e : nd = k
    · subst e; rw [hb] at hk; cases hk
    · simp [e]
  · refine h2 A B hA hB qA qB (fun k hk => ?_) hX hAB
    rw [Nat.testBit_or, Nat.testBit_two_pow] at hk
    by_cases e : nd = k
    · subst e; exact hb
    · exact hR k (by simpa [e] using hk)
theorem snd_root {d : Nat} {ms : List Mem} (hl : ms.length ≤ 10) (h : Snd d ms 0 0) (t : Nat) : ¬ Apart d ms t := by
  rintro ⟨hq, q, hq1, hq0, hs, hc⟩
  have ht : t < 1024 := by
    have : t < 2 ^ 10 := Nat.lt_pow_two_of_testBit _ (fun k hk => by
      cases hb : t.testBit k
      · rfl
      · have := bitDecl _ _ (hq.2.1 k hb); omega)
    omega
  refine h t q ht hq1 hq ⟨hq0, fun k hk => ?_, hc⟩ (fun k hk => by simp at hk) (fun k hk => by simp) (fun k hk => ?_)
  · have := hs k hk
    rw [Nat.testBit_and] at this
    exact (by simpa using this : _ ∧ _).2
  · cases hb : q.testBit k
    · rfl
    · have := hs k hb
      rw [Nat.testBit_and, outS_bit, hk] at this
      simp at this
theorem hasB_node {s : Nat} {N : Int} (h : hasB (s : Int) N = true) : 0 ≤ N ∧ N < 10 := by
  unfold hasB at h
  simp only [Bool.and_eq_true] at h
  exact nodeB_iff.1 h.2.1
/-- What right returns. -/
def RtOk (d : Nat) (ms : List Mem) (R X : Nat) (e : Ending) : Prop := ∃ b : Bool, e = .returned (.bool b) ∧ (b = true → Snd d ms R X)
theorem keepR3 {W W' : World} {a0 a1 a2 : Addr} {v0 v1 v2 : Value} (h : W.cell? a0 = some v0 ∧ W.cell? a1 = some v1 ∧ W.cell? a2 = some v2) (hb : Below W.heap.size W W') : W'.cell? a0 = some v0 ∧ W'.cell? a1 = some v1 ∧ W'.cell? a2 = some v2 :=
  ⟨(hb.cell (cell_lt h.1)).trans h.1, (hb.cell (cell_lt h.2.1)).trans h.2.1, (hb.cell (cell_lt h.2.2)).trans h.2.2⟩
theorem keepR9 {W W' : World} {a0 a1 a2 a3 a4 a5 a6 a7 a8 : Addr} {v0 v1 v2 v3 v4 v5 v6 v7 v8 : Value} (h : W.cell? a0 = some v0 ∧ W.cell? a1 = some v1 ∧ W.cell? a2 = some v2 ∧ W.cell? a3 = some v3 ∧ W.cell? a4 = some v4 ∧ W.cell? a5 = some v5 ∧ W.cell? a6 = some v6 ∧ W.cell? a7 = some v7 ∧ W.cell? a8 = some v8) (hb : Below W.heap.size W W') : W'.cell? a0 = some v0 ∧ W'.cell? a1 = some v1 ∧ W'.cell? a2 = some v2 ∧ W'.cell? a3 = some v3 ∧ W'.cell? a4 = some v4 ∧ W'.cell? a5 = some v5 ∧ W'.cell? a6 = some v6 ∧ W'.cell? a7 = some v7 ∧ W'.cell? a8 = some v8 :=
  ⟨(hb.cell (cell_lt h.1)).trans h.1, (hb.cell (cell_lt h.2.1)).trans h.2.1, (hb.cell (cell_lt h.2.2.1)).trans h.2.2.1, (hb.cell (cell_lt h.2.2.2.1)).trans h.2.2.2.1, (hb.cell (cell_lt h.2.2.2.2.1)).trans h.2.2.2.2.1, (hb.cell (cell_lt h.2.2.2.2.2.1)).trans h.2.2.2.2.2.1, (hb.cell (cell_lt h.2.2.2.2.2.2.1)).trans h.2.2.2.2.2.2.1, (hb.cell (cell_lt h.2.2.2.2.2.2.2.1)).trans h.2.2.2.2.2.2.2.1, (hb.cell (cell_lt h.2.2.2.2.2.2.2.2)).trans h.2.2.2.2.2.2.2.2⟩

set_option maxRecDepth 100000 in
set_option maxHeartbeats 8000000 in
theorem rright_any (P Q : Nat → Prop) (d : Nat) (ms : List Mem) (v : Value) (hl : ms.length ≤ 10) : ∀ (n : Nat) (x0 x1 x2 : Value) (R X : Nat) (w : World), R < 1024 → X < 1024 → MemsAt P d w v ms → RawT Q n w x0 x1 x2 →
    Calls Try.prog 24 #[.agg #[v], .agg #[x0, x1, x2], .int .i64 (R : Int), .int .i64 (X : Int)] w fun e w' => RtOk d ms R X e ∧ Below w.heap.size w w' := by
  intro n
  induction n with
  | zero => intro x0 x1 x2 R X w _ _ _ h; exact h.elim
  | succ n ih =>
    intro x0 x1 x2 R X w hR hX h hT
    obtain ⟨K, N, A, m, c, rfl, rfl, rfl, hN, hm, hk⟩ := hT
    obtain ⟨Ac, cc, rfl⟩ := h.slice
    have hb1 : Below w.heap.size w ((w.alloc (.cells #[.slice Ac ms.length cc] 27)).alloc (.cells #[.int .i64 K, .int .i64 N, .slice A m c] 31)) := balloc (balloc (bref w) _) _
    have k0 : ((w.alloc (.cells #[.slice Ac ms.length cc] 27)).alloc (.cells #[.int .i64 K, .int .i64 N, .slice A m c] 31)).heap[w.heap.size]? = some (.cells #[.slice Ac ms.length cc] 27 (0, 0)) := alloc_on (alloc_at rfl)
    have k1 : ((w.alloc (.cells #[.slice Ac ms.length cc] 27)).alloc (.cells #[.int .i64 K, .int .i64 N, .slice A m c] 31)).heap[w.heap.size + 1]? = some (.cells #[.int .i64 K, .int .i64 N, .slice A m c] 31 (0, 0)) := alloc_at (alloc_sz _ _)
    have H := Lib.hid (h.below hb1)
    have RAW : Hid (∀ i, i < m → ∃ q off x0 x1 x2, A = some ⟨q, off, none⟩ ∧ w.cell? ⟨q, off + i * 3, none⟩ = some x0 ∧ w.cell? ⟨q, off + i * 3 + 1, none⟩ = some x1 ∧ w.cell? ⟨q, off + i * 3 + 2, none⟩ = some x2 ∧ RawT Q n w x0 x1 x2) := Lib.hid (fun i hi => by
      obtain ⟨q, off, x0, x1, x2, e0, _, _, e3, e4, e5, e6⟩ := hk i hi
      exact ⟨q, off, x0, x1, x2, e0, e3, e4, e5, e6⟩)
    have HB := Lib.hid hb1
    have K0 := Lib.hid k0
    have K1' := Lib.hid k1
    have IH := Lib.hid ih
    clear h hb1 k0 k1 ih hk
    go_enter Try.func24, Try.ntmps24
    go_upto_region 1 with fail
    generalize ((w.alloc (.cells #[.slice Ac ms.length cc] 27)).alloc (.cells #[.int .i64 K, .int .i64 N, .slice A m c] 31)) = W1 at *
    generalize hg : w.heap.size = g at *
    have HG := Lib.hid hg
    clear hg
    have c0 : W1.cell? ⟨g, 0, none⟩ = some (.slice Ac ms.length cc) := cell_of_row _ _ 0 _ _ (0, 0) K0.out
    have t0 : W1.cell? ⟨g + 1, 0, none⟩ = some (.int .i64 K) := cell_of_row _ _ 0 _ _ (0, 0) K1'.out
    have t1 : W1.cell? ⟨g + 1, 1, none⟩ = some (.int .i64 N) := cell_of_row _ _ 1 _ _ (0, 0) K1'.out
    have t2 : W1.cell? ⟨g + 1, 2, none⟩ = some (.slice A m c) := cell_of_row _ _ 2 _ _ (0, 0) K1'.out
    have HBw := Lib.hid (show Below w.heap.size w W1 by rw [HG.out]; exact HB.out)
    by_cases h3 : K = 3
    · subst h3
      have HPRE := Lib.hid (And.intro c0 (And.intro t1 t2))
      go_upto_region 2 with fail
      clear c0 t0 t1 t2
      obtain ⟨n1, hn1⟩ : ∃ n1, 2 ^ ms.length - 1 = n1 := ⟨_, rfl⟩
      have HN1 := Lib.hid hn1
      have hpL : 2 ^ ms.length ≤ 2 ^ 10 := Nat.pow_le_pow_right (by omega) hl
      have hn1l : n1 < 1024 := by omega
      have hO := andNot_nat n1 R hn1l (by omega)
      have hOl := outS_lt ms.length R hl
      obtain ⟨O, hOq⟩ : ∃ O, outS ms.length R = O := ⟨_, rfl⟩
      have HO := Lib.hid hOq
      rw [show n1 ^^^ (n1 &&& R) = O by rw [← hOq, ← hn1]; rfl] at hO
      rw [hOq] at hOl
      clear hn1 hOq hpL
      have HOB := Lib.hid (fun j => outS_bit ms.length R j)
      rw [HO.out] at HOB
      have hO2 := andNot_nat O X hOl hX
      have hQl : O ^^^ (O &&& X) < 1024 := Nat.lt_of_le_of_lt (xor_and_le O X) hOl
      generalize O ^^^ (O &&& X) = OQ at *
      by_cases hm2 : m = 2
      · subst hm2
        obtain ⟨q, off, y0, y1, y2, rfl, e0, e1, e2, ha⟩ := RAW.out 0 (by omega)
        obtain ⟨q', off', z0, z1, z2, hqq, e3, e4, e5, hb⟩ := RAW.out 1 (by omega)
        cases hqq
        obtain ⟨K1, N1, A1, m1, c1, rfl, rfl, rfl⟩ := ha.form
        obtain ⟨K2, N2, A2, m2, c2, rfl, rfl, rfl⟩ := hb.form
        have E0 : W1.cell? ⟨q, off, none⟩ = _ := (HBw.out.cell (cell_lt e0)).trans e0
        have E1 : W1.cell? ⟨q, off + 1, none⟩ = _ := (HBw.out.cell (cell_lt (p := ⟨q, off + 0 * 3 + 1, none⟩) e1)).trans e1
        have E2 : W1.cell? ⟨q, off + 2, none⟩ = _ := (HBw.out.cell (cell_lt (p := ⟨q, off + 0 * 3 + 2, none⟩) e2)).trans e2
        have E3 : W1.cell? ⟨q, off + 3, none⟩ = _ := (HBw.out.cell (cell_lt e3)).trans e3
        have E4 : W1.cell? ⟨q, off + 4, none⟩ = _ := (HBw.out.cell (cell_lt e4)).trans e4
        have E5 : W1.cell? ⟨q, off + 5, none⟩ = _ := (HBw.out.cell (cell_lt e5)).trans e5
        have HTA := Lib.hid (ha.below HBw.out)
        have HTB := Lib.hid (hb.below HBw.out)
        have hS := Lib.hid (keepR9 ⟨HPRE.out.1, HPRE.out.2.1, HPRE.out.2.2, E0, E1, E2, E3, E4, E5⟩ (bdrewT W1))
        clear E0 E1 E2 E3 E4 E5 e0 e1 e2 e3 e4 e5 ha hb RAW HPRE
        cases hHB : hasB ((OQ : Nat) : Int) N
        · skip
          refine wp_region_noPanic ?_
          refine wp_region_held_drew (S := fun W => W.cell? ⟨g, 0, none⟩ = some (.slice Ac ms.length cc) ∧ W.cell? ⟨g + 1, 1, none⟩ = some (.int .i64 N) ∧ W.cell? ⟨g + 1, 2, none⟩ = some (.slice (some ⟨q, off, none⟩) 2 c) ∧ W.cell? ⟨q, off, none⟩ = some (.int .i64 K1) ∧ W.cell? ⟨q, off + 1, none⟩ = some (.int .i64 N1) ∧ W.cell? ⟨q, off + 2, none⟩ = some (.slice A1 m1 c1) ∧ W.cell? ⟨q, off + 3, none⟩ = some (.int .i64 K2) ∧ W.cell? ⟨q, off + 4, none⟩ = some (.int .i64 N2) ∧ W.cell? ⟨q, off + 5, none⟩ = some (.slice A2 m2 c2)) (by kernel_rfl) hS.out (fun hHeld => ?_)
          have hSK := hHeld
          clear hHeld
          refine take_d (some 12) (i := 0) (v := ?_) rfl rfl (by kernel_rfl) (by kernel_rfl) (by kernel_rfl) (fun _ _ _ h => h) (Or.inl ⟨by rfl, ?_⟩) (by assumption) ?_
          rotate_left
          · intro w hSw; (try dsimp only at hSw); go_simp; (try with_reducible rfl)
          try simp only [Act.put, List.setIfInBounds_toArray, List.set_cons_zero, List.set_cons_succ]
          refine take_d (some 13) (i := 1) (v := ?_) rfl rfl (by kernel_rfl) (by kernel_rfl) (by kernel_rfl) (fun _ _ _ h => h) (Or.inl ⟨by rfl, ?_⟩) (by assumption) ?_
          rotate_left
          · intro w hSw; (try dsimp only at hSw); go_simp; (try with_reducible rfl)
          try simp only [Act.put, List.setIfInBounds_toArray, List.set_cons_zero, List.set_cons_succ]
          refine take_d (some 14) (i := 2) (v := ?_) rfl rfl (by kernel_rfl) (by kernel_rfl) (by kernel_rfl) (fun _ _ _ h => h) (Or.inl ⟨by rfl, ?_⟩) (by assumption) ?_
          rotate_left
          · intro w hSw; (try dsimp only at hSw); go_simp; (try with_reducible rfl)
          try simp only [Act.put, List.setIfInBounds_toArray, List.set_cons_zero, List.set_cons_succ]
          refine take_d (some 15) (i := 3) (v := ?_) rfl rfl (by kernel_rfl) (by kernel_rfl) (by kernel_rfl) (fun _ _ _ h => h) (Or.inl ⟨by rfl, ?_⟩) (by assumption) ?_
          rotate_left
          · intro w hSw; (try dsimp only at hSw); go_simp; (try with_reducible rfl)
          try simp only [Act.put, List.setIfInBounds_toArray, List.set_cons_zero, List.set_cons_succ]
          refine take_d (some 16) (i := 4) (v := ?_) rfl rfl (by kernel_rfl) (by kernel_rfl) (by kernel_rfl) (fun _ _ _ h => h) (Or.inl ⟨by rfl, ?_⟩) (by assumption) ?_
          rotate_left
          · intro w hSw; (try dsimp only at hSw); go_simp; (try with_reducible rfl)
          try simp only [Act.put, List.setIfInBounds_toArray, List.set_cons_zero, List.set_cons_succ]
          refine take_d (some 17) (i := 5) (v := ?_) rfl rfl (by kernel_rfl) (by kernel_rfl) (by kernel_rfl) (fun _ _ _ h => h) (Or.inl ⟨by rfl, ?_⟩) (by assumption) ?_
          rotate_left
          · intro w hSw; (try dsimp only at hSw); go_simp; (try with_reducible rfl)
          try simp only [Act.put, List.setIfInBounds_toArray, List.set_cons_zero, List.set_cons_succ]
          refine take_d (some 19) (i := 7) (v := ?_) rfl rfl (by kernel_rfl) (by kernel_rfl) (by kernel_rfl) (fun _ _ _ h => h) (Or.inl ⟨by rfl, ?_⟩) (by assumption) ?_
          rotate_left
          · intro w hSw; (try dsimp only at hSw); go_simp; (try with_reducible rfl)
          try simp only [Act.put, List.setIfInBounds_toArray, List.set_cons_zero, List.set_cons_succ]
          refine take_d (some 21) (i := 9) (v := ?_) rfl rfl (by kernel_rfl) (by kernel_rfl) (by kernel_rfl) (fun _ _ _ h => h) (Or.inl ⟨by rfl, ?_⟩) (by assumption) ?_
          rotate_left
          · intro w hSw; (try dsimp only at hSw); go_simp; (try with_reducible rfl)
          try simp only [Act.put, List.setIfInBounds_toArray, List.set_cons_zero, List.set_cons_succ]
          refine take_d (some 23) (i := 11) (v := ?_) rfl rfl (by kernel_rfl) (by kernel_rfl) (by kernel_rfl) (fun _ _ _ h => h) (Or.inl ⟨by rfl, ?_⟩) (by assumption) ?_
          rotate_left
          · intro w hSw; (try dsimp only at hSw); go_simp; (try with_reducible rfl)
          try simp only [Act.put, List.setIfInBounds_toArray, List.set_cons_zero, List.set_cons_succ]
          refine take_d (some 24) (i := 12) (v := ?_) rfl rfl (by kernel_rfl) (by kernel_rfl) (by kernel_rfl) (fun _ _ _ h => h) (Or.inl ⟨by rfl, ?_⟩) (by assumption) ?_
          rotate_left
          · intro w hSw; (try dsimp only at hSw); go_simp; (try with_reducible rfl)
          try simp only [Act.put, List.setIfInBounds_toArray, List.set_cons_zero, List.set_cons_succ]
          refine wpAnyH_ready (rs := [6]) (by kernel_rfl) (by simp) ?_
          refine AllReadyH.cons rfl (fun K hK => ?_) AllReadyH.nil
          go_simp
          refine (members_run Ac ms.length cc hl _).mono ?_
          rintro e WK ⟨rfl, hbK⟩
          rw [HN1.out]
          have hSK0 := keepR9 (by assumption) hbK
          have hbd1 := bstep (bdrewT W1) hbK
          go_wp2_with fail
          refine hK.out _ _ ?_ (fun hHeld => ?_)
          · first | exact hSK2 | exact hSK1 | exact hSK0 | exact hSK
          clear hSK
          have hSK := hHeld
          clear hHeld
          clear hK K
          try simp only [Act.put, List.setIfInBounds_toArray, List.set_cons_zero, List.set_cons_succ]
          refine take_d (some 20) (i := 8) (v := ?_) rfl rfl (by kernel_rfl) (by kernel_rfl) (by kernel_rfl) (fun _ _ _ h => h) (Or.inl ⟨by rfl, ?_⟩) (by assumption) ?_
          rotate_left
          · intro w hSw; (try dsimp only at hSw); go_simp; (try with_reducible rfl)
          try simp only [Act.put, List.setIfInBounds_toArray, List.set_cons_zero, List.set_cons_succ]
          refine take_d (some 22) (i := 10) (v := ?_) rfl rfl (by kernel_rfl) (by kernel_rfl) (by kernel_rfl) (fun _ _ _ h => h) (Or.inl ⟨by rfl, ?_⟩) (by assumption) ?_
          rotate_left
          · intro w hSw; (try dsimp only at hSw); go_simp; (try with_reducible rfl)
          try simp only [Act.put, List.setIfInBounds_toArray, List.set_cons_zero, List.set_cons_succ]
          refine wpAnyH_ready (rs := [13]) (by kernel_rfl) (by simp) ?_
          refine AllReadyH.cons rfl (fun K hK => ?_) AllReadyH.nil
          go_simp
          refine (has_run _ _ _).mono ?_
          rintro e WH ⟨rfl, hWH⟩
          subst hWH
          rw [hHB]
          go_wp2_with fail
          refine hK.out _ _ ?_ (fun hHeld => ?_)
          · first | exact hSK2 | exact hSK1 | exact hSK0 | exact hSK
          clear hSK
          have hSK := hHeld
          clear hHeld
          clear hK K
          try simp only [Act.put, List.setIfInBounds_toArray, List.set_cons_zero, List.set_cons_succ]
          refine take_d (some 26) (i := 14) (v := ?_) rfl rfl (by kernel_rfl) (by kernel_rfl) (by kernel_rfl) (fun _ _ _ h => h) (Or.inl ⟨by rfl, ?_⟩) (by assumption) ?_
          rotate_left
          · intro w hSw; (try dsimp only at hSw); go_simp; (try with_reducible rfl)
          try simp only [Act.put, List.setIfInBounds_toArray, List.set_cons_zero, List.set_cons_succ]
          refine take_d (some 27) (i := 15) (v := ?_) rfl rfl (by kernel_rfl) (by kernel_rfl) (by kernel_rfl) (fun _ _ _ h => h) (Or.inl ⟨by rfl, ?_⟩) (by assumption) ?_
          rotate_left
          · intro w hSw; (try dsimp only at hSw); go_simp; (try with_reducible rfl)
          try simp only [Act.put, List.setIfInBounds_toArray, List.set_cons_zero, List.set_cons_succ]
          refine take_d (some 28) (i := 16) (v := undef) rfl rfl (by kernel_rfl) (by kernel_rfl) (by kernel_rfl) (fun _ _ _ h => h) (Or.inr ⟨by rfl, rfl⟩) (by assumption) ?_
          try simp only [Act.put, List.setIfInBounds_toArray, List.set_cons_zero, List.set_cons_succ]
          refine take_d (some 29) (i := 17) (v := undef) rfl rfl (by kernel_rfl) (by kernel_rfl) (by kernel_rfl) (fun _ _ _ h => h) (Or.inr ⟨by rfl, rfl⟩) (by assumption) ?_
          try simp only [Act.put, List.setIfInBounds_toArray, List.set_cons_zero, List.set_cons_succ]
          refine take_d (some 30) (i := 18) (v := undef) rfl rfl (by kernel_rfl) (by kernel_rfl) (by kernel_rfl) (fun _ _ _ h => h) (Or.inr ⟨by rfl, rfl⟩) (by assumption) ?_
          try simp only [Act.put, List.setIfInBounds_toArray, List.set_cons_zero, List.set_cons_succ]
          refine take_d (some 31) (i := 19) (v := undef) rfl rfl (by kernel_rfl) (by kernel_rfl) (by kernel_rfl) (fun _ _ _ h => h) (Or.inr ⟨by rfl, rfl⟩) (by assumption) ?_
          try simp only [Act.put, List.setIfInBounds_toArray, List.set_cons_zero, List.set_cons_succ]
          refine take_d (some 32) (i := 20) (v := undef) rfl rfl (by kernel_rfl) (by kernel_rfl) (by kernel_rfl) (fun _ _ _ h => h) (Or.inr ⟨by rfl, rfl⟩) (by assumption) ?_
          try simp only [Act.put, List.setIfInBounds_toArray, List.set_cons_zero, List.set_cons_succ]
          refine take_d (some 33) (i := 21) (v := undef) rfl rfl (by kernel_rfl) (by kernel_rfl) (by kernel_rfl) (fun _ _ _ h => h) (Or.inr ⟨by rfl, rfl⟩) (by assumption) ?_
          try simp only [Act.put, List.setIfInBounds_toArray, List.set_cons_zero, List.set_cons_succ]
          refine take_d (some 34) (i := 22) (v := undef) rfl rfl (by kernel_rfl) (by kernel_rfl) (by kernel_rfl) (fun _ _ _ h => h) (Or.inr ⟨by rfl, rfl⟩) (by assumption) ?_
          try simp only [Act.put, List.setIfInBounds_toArray, List.set_cons_zero, List.set_cons_succ]
          refine take_d (some 35) (i := 23) (v := undef) rfl rfl (by kernel_rfl) (by kernel_rfl) (by kernel_rfl) (fun _ _ _ h => h) (Or.inr ⟨by rfl, rfl⟩) (by assumption) ?_
          try simp only [Act.put, List.setIfInBounds_toArray, List.set_cons_zero, List.set_cons_succ]
          refine take_d (some 36) (i := 24) (v := undef) rfl rfl (by kernel_rfl) (by kernel_rfl) (by kernel_rfl) (fun _ _ _ h => h) (Or.inr ⟨by rfl, rfl⟩) (by assumption) ?_
          try simp only [Act.put, List.setIfInBounds_toArray, List.set_cons_zero, List.set_cons_succ]
          refine take_d (some 37) (i := 25) (v := undef) rfl rfl (by kernel_rfl) (by kernel_rfl) (by kernel_rfl) (fun _ _ _ h => h) (Or.inr ⟨by rfl, rfl⟩) (by assumption) ?_
          try simp only [Act.put, List.setIfInBounds_toArray, List.set_cons_zero, List.set_cons_succ]
          refine take_d (some 38) (i := 26) (v := undef) rfl rfl (by kernel_rfl) (by kernel_rfl) (by kernel_rfl) (fun _ _ _ h => h) (Or.inr ⟨by rfl, rfl⟩) (by assumption) ?_
          try simp only [Act.put, List.setIfInBounds_toArray, List.set_cons_zero, List.set_cons_succ]
          refine take_d (some 39) (i := 27) (v := undef) rfl rfl (by kernel_rfl) (by kernel_rfl) (by kernel_rfl) (fun _ _ _ h => h) (Or.inr ⟨by rfl, rfl⟩) (by assumption) ?_
          try simp only [Act.put, List.setIfInBounds_toArray, List.set_cons_zero, List.set_cons_succ]
          refine take_d (some 40) (i := 28) (v := ?_) rfl rfl (by kernel_rfl) (by kernel_rfl) (by kernel_rfl) (fun _ _ _ h => h) (Or.inl ⟨by rfl, ?_⟩) (by assumption) ?_
          rotate_left
          · intro w hSw; (try dsimp only at hSw); go_simp; (try with_reducible rfl)
          try simp only [Act.put, List.setIfInBounds_toArray, List.set_cons_zero, List.set_cons_succ]
          refine take_d (some 41) (i := 29) (v := ?_) rfl rfl (by kernel_rfl) (by kernel_rfl) (by kernel_rfl) (fun _ _ _ h => h) (Or.inl ⟨by rfl, ?_⟩) (by assumption) ?_
          rotate_left
          · intro w hSw; (try dsimp only at hSw); go_simp; (try with_reducible rfl)
          try simp only [Act.put, List.setIfInBounds_toArray, List.set_cons_zero, List.set_cons_succ]
          refine take_d (some 42) (i := 30) (v := undef) rfl rfl (by kernel_rfl) (by kernel_rfl) (by kernel_rfl) (fun _ _ _ h => h) (Or.inr ⟨by rfl, rfl⟩) (by assumption) ?_
          try simp only [Act.put, List.setIfInBounds_toArray, List.set_cons_zero, List.set_cons_succ]
          refine take_d (some 43) (i := 31) (v := undef) rfl rfl (by kernel_rfl) (by kernel_rfl) (by kernel_rfl) (fun _ _ _ h => h) (Or.inr ⟨by rfl, rfl⟩) (by assumption) ?_
          try simp only [Act.put, List.setIfInBounds_toArray, List.set_cons_zero, List.set_cons_succ]
          refine take_d (some 44) (i := 32) (v := undef) rfl rfl (by kernel_rfl) (by kernel_rfl) (by kernel_rfl) (fun _ _ _ h => h) (Or.inr ⟨by rfl, rfl⟩) (by assumption) ?_
          try simp only [Act.put, List.setIfInBounds_toArray, List.set_cons_zero, List.set_cons_succ]
          refine take_d (some 45) (i := 33) (v := undef) rfl rfl (by kernel_rfl) (by kernel_rfl) (by kernel_rfl) (fun _ _ _ h => h) (Or.inr ⟨by rfl, rfl⟩) (by assumption) ?_
          try simp only [Act.put, List.setIfInBounds_toArray, List.set_cons_zero, List.set_cons_succ]
          refine take_d (some 46) (i := 34) (v := undef) rfl rfl (by kernel_rfl) (by kernel_rfl) (by kernel_rfl) (fun _ _ _ h => h) (Or.inr ⟨by rfl, rfl⟩) (by assumption) ?_
          try simp only [Act.put, List.setIfInBounds_toArray, List.set_cons_zero, List.set_cons_succ]
          refine take_d (some 47) (i := 35) (v := undef) rfl rfl (by kernel_rfl) (by kernel_rfl) (by kernel_rfl) (fun _ _ _ h => h) (Or.inr ⟨by rfl, rfl⟩) (by assumption) ?_
          try simp only [Act.put, List.setIfInBounds_toArray, List.set_cons_zero, List.set_cons_succ]
          refine take_d (some 48) (i := 36) (v := undef) rfl rfl (by kernel_rfl) (by kernel_rfl) (by kernel_rfl) (fun _ _ _ h => h) (Or.inr ⟨by rfl, rfl⟩) (by assumption) ?_
          try simp only [Act.put, List.setIfInBounds_toArray, List.set_cons_zero, List.set_cons_succ]
          refine take_d (some 49) (i := 37) (v := undef) rfl rfl (by kernel_rfl) (by kernel_rfl) (by kernel_rfl) (fun _ _ _ h => h) (Or.inr ⟨by rfl, rfl⟩) (by assumption) ?_
          try simp only [Act.put, List.setIfInBounds_toArray, List.set_cons_zero, List.set_cons_succ]
          refine take_d (some 50) (i := 38) (v := undef) rfl rfl (by kernel_rfl) (by kernel_rfl) (by kernel_rfl) (fun _ _ _ h => h) (Or.inr ⟨by rfl, rfl⟩) (by assumption) ?_
          try simp only [Act.put, List.setIfInBounds_toArray, List.set_cons_zero, List.set_cons_succ]
          refine take_d (some 51) (i := 39) (v := undef) rfl rfl (by kernel_rfl) (by kernel_rfl) (by kernel_rfl) (fun _ _ _ h => h) (Or.inr ⟨by rfl, rfl⟩) (by assumption) ?_
          try simp only [Act.put, List.setIfInBounds_toArray, List.set_cons_zero, List.set_cons_succ]
          refine take_d (some 52) (i := 40) (v := undef) rfl rfl (by kernel_rfl) (by kernel_rfl) (by kernel_rfl) (fun _ _ _ h => h) (Or.inr ⟨by rfl, rfl⟩) (by assumption) ?_
          try simp only [Act.put, List.setIfInBounds_toArray, List.set_cons_zero, List.set_cons_succ]
          refine take_d (some 53) (i := 41) (v := undef) rfl rfl (by kernel_rfl) (by kernel_rfl) (by kernel_rfl) (fun _ _ _ h => h) (Or.inr ⟨by rfl, rfl⟩) (by assumption) ?_
          try simp only [Act.put, List.setIfInBounds_toArray, List.set_cons_zero, List.set_cons_succ]
          refine take_d (some 54) (i := 42) (v := ?_) rfl rfl (by kernel_rfl) (by kernel_rfl) (by kernel_rfl) (fun _ _ _ h => h) (Or.inl ⟨by rfl, ?_⟩) (by assumption) ?_
          rotate_left
          · intro w hSw; (try dsimp only at hSw); go_simp; (try with_reducible rfl)
          try simp only [Act.put, List.setIfInBounds_toArray, List.set_cons_zero, List.set_cons_succ]
          refine take_d (some 8) (i := 43) (v := ?_) rfl rfl (by kernel_rfl) (by kernel_rfl) (by kernel_rfl) (fun _ _ _ h => h) (Or.inl ⟨by rfl, ?_⟩) (by assumption) ?_
          rotate_left
          · intro w hSw; (try dsimp only at hSw); go_simp; (try with_reducible rfl)
          try simp only [Act.put, List.setIfInBounds_toArray, List.set_cons_zero, List.set_cons_succ]
          refine wpAnyH_done (by kernel_rfl) ?_ _
          refine NoPanic.normal ?_
          have HZ := Lib.hid (bstep HBw.out (hbd1))
          have HS := Lib.hid (show false = true → Snd d ms R X from fun h => by cases h)
          clear hSK hS
          go_wp2_with fail
          go_ret
          exact ⟨⟨false, rfl, HS.out⟩, HZ.out⟩
        · obtain ⟨hn0, hn1'⟩ := hasB_node hHB
          obtain ⟨nd, rfl⟩ := Int.eq_ofNat_of_zero_le hn0
          have hnd10 : nd < 10 := by omega
          have hp10 : 2 ^ nd < 2 ^ 10 := Nat.pow_lt_pow_right (by omega) hnd10
          have hX2 : X ||| 2 ^ nd < 1024 := Nat.or_lt_two_pow (n := 10) hX hp10
          have hR2 : R ||| 2 ^ nd < 1024 := Nat.or_lt_two_pow (n := 10) hR hp10
          have hoX := or_factT X nd hX hnd10
          have hoR := or_factT R nd hR hnd10
          have hk0 : (0 : Int) ≤ (nd : Int) := by omega
          have hk64 : ¬ (64 : Int) ≤ (nd : Int) := by omega
          refine wp_region_noPanic ?_
          refine wp_region_held_drew (S := fun W => W.cell? ⟨g, 0, none⟩ = some (.slice Ac ms.length cc) ∧ W.cell? ⟨g + 1, 1, none⟩ = some (.int .i64 (nd : Int)) ∧ W.cell? ⟨g + 1, 2, none⟩ = some (.slice (some ⟨q, off, none⟩) 2 c) ∧ W.cell? ⟨q, off, none⟩ = some (.int .i64 K1) ∧ W.cell? ⟨q, off + 1, none⟩ = some (.int .i64 N1) ∧ W.cell? ⟨q, off + 2, none⟩ = some (.slice A1 m1 c1) ∧ W.cell? ⟨q, off + 3, none⟩ = some (.int .i64 K2) ∧ W.cell? ⟨q, off + 4, none⟩ = some (.int .i64 N2) ∧ W.cell? ⟨q, off + 5, none⟩ = some (.slice A2 m2 c2)) (by kernel_rfl) hS.out (fun hHeld => ?_)
          have hSK := hHeld
          clear hHeld
          refine take_d (some 12) (i := 0) (v := ?_) rfl rfl (by kernel_rfl) (by kernel_rfl) (by kernel_rfl) (fun _ _ _ h => h) (Or.inl ⟨by rfl, ?_⟩) (by assumption) ?_
          rotate_left
          · intro w hSw; (try dsimp only at hSw); go_simp; (try with_reducible rfl)
          try simp only [Act.put, List.setIfInBounds_toArray, List.set_cons_zero, List.set_cons_succ]
          refine take_d (some 13) (i := 1) (v := ?_) rfl rfl (by kernel_rfl) (by kernel_rfl) (by kernel_rfl) (fun _ _ _ h => h) (Or.inl ⟨by rfl, ?_⟩) (by assumption) ?_
          rotate_left
          · intro w hSw; (try dsimp only at hSw); go_simp; (try with_reducible rfl)
          try simp only [Act.put, List.setIfInBounds_toArray, List.set_cons_zero, List.set_cons_succ]
          refine take_d (some 14) (i := 2) (v := ?_) rfl rfl (by kernel_rfl) (by kernel_rfl) (by kernel_rfl) (fun _ _ _ h => h) (Or.inl ⟨by rfl, ?_⟩) (by assumption) ?_
          rotate_left
          · intro w hSw; (try dsimp only at hSw); go_simp; (try with_reducible rfl)
          try simp only [Act.put, List.setIfInBounds_toArray, List.set_cons_zero, List.set_cons_succ]
          refine take_d (some 15) (i := 3) (v := ?_) rfl rfl (by kernel_rfl) (by kernel_rfl) (by kernel_rfl) (fun _ _ _ h => h) (Or.inl ⟨by rfl, ?_⟩) (by assumption) ?_
          rotate_left
          · intro w hSw; (try dsimp only at hSw); go_simp; (try with_reducible rfl)
          try simp only [Act.put, List.setIfInBounds_toArray, List.set_cons_zero, List.set_cons_succ]
          refine take_d (some 16) (i := 4) (v := ?_) rfl rfl (by kernel_rfl) (by kernel_rfl) (by kernel_rfl) (fun _ _ _ h => h) (Or.inl ⟨by rfl, ?_⟩) (by assumption) ?_
          rotate_left
          · intro w hSw; (try dsimp only at hSw); go_simp; (try with_reducible rfl)
          try simp only [Act.put, List.setIfInBounds_toArray, List.set_cons_zero, List.set_cons_succ]
          refine take_d (some 17) (i := 5) (v := ?_) rfl rfl (by kernel_rfl) (by kernel_rfl) (by kernel_rfl) (fun _ _ _ h => h) (Or.inl ⟨by rfl, ?_⟩) (by assumption) ?_
          rotate_left
          · intro w hSw; (try dsimp only at hSw); go_simp; (try with_reducible rfl)
          try simp only [Act.put, List.setIfInBounds_toArray, List.set_cons_zero, List.set_cons_succ]
          refine take_d (some 19) (i := 7) (v := ?_) rfl rfl (by kernel_rfl) (by kernel_rfl) (by kernel_rfl) (fun _ _ _ h => h) (Or.inl ⟨by rfl, ?_⟩) (by assumption) ?_
          rotate_left
          · intro w hSw; (try dsimp only at hSw); go_simp; (try with_reducible rfl)
          try simp only [Act.put, List.setIfInBounds_toArray, List.set_cons_zero, List.set_cons_succ]
          refine take_d (some 21) (i := 9) (v := ?_) rfl rfl (by kernel_rfl) (by kernel_rfl) (by kernel_rfl) (fun _ _ _ h => h) (Or.inl ⟨by rfl, ?_⟩) (by assumption) ?_
          rotate_left
          · intro w hSw; (try dsimp only at hSw); go_simp; (try with_reducible rfl)
          try simp only [Act.put, List.setIfInBounds_toArray, List.set_cons_zero, List.set_cons_succ]
          refine take_d (some 23) (i := 11) (v := ?_) rfl rfl (by kernel_rfl) (by kernel_rfl) (by kernel_rfl) (fun _ _ _ h => h) (Or.inl ⟨by rfl, ?_⟩) (by assumption) ?_
          rotate_left
          · intro w hSw; (try dsimp only at hSw); go_simp; (try with_reducible rfl)
          try simp only [Act.put, List.setIfInBounds_toArray, List.set_cons_zero, List.set_cons_succ]
          refine take_d (some 24) (i := 12) (v := ?_) rfl rfl (by kernel_rfl) (by kernel_rfl) (by kernel_rfl) (fun _ _ _ h => h) (Or.inl ⟨by rfl, ?_⟩) (by assumption) ?_
          rotate_left
          · intro w hSw; (try dsimp only at hSw); go_simp; (try with_reducible rfl)
          try simp only [Act.put, List.setIfInBounds_toArray, List.set_cons_zero, List.set_cons_succ]
          refine wpAnyH_ready (rs := [6]) (by kernel_rfl) (by simp) ?_
          refine AllReadyH.cons rfl (fun K hK => ?_) AllReadyH.nil
          go_simp
          refine (members_run Ac ms.length cc hl _).mono ?_
          rintro e WK ⟨rfl, hbK⟩
          rw [HN1.out]
          have hSK0 := keepR9 (by assumption) hbK
          have hbd1 := bstep (bdrewT W1) hbK
          go_wp2_with fail
          refine hK.out _ _ ?_ (fun hHeld => ?_)
          · first | exact hSK2 | exact hSK1 | exact hSK0 | exact hSK
          clear hSK
          have hSK := hHeld
          clear hHeld
          clear hK K
          try simp only [Act.put, List.setIfInBounds_toArray, List.set_cons_zero, List.set_cons_succ]
          refine take_d (some 20) (i := 8) (v := ?_) rfl rfl (by kernel_rfl) (by kernel_rfl) (by kernel_rfl) (fun _ _ _ h => h) (Or.inl ⟨by rfl, ?_⟩) (by assumption) ?_
          rotate_left
          · intro w hSw; (try dsimp only at hSw); go_simp; (try with_reducible rfl)
          try simp only [Act.put, List.setIfInBounds_toArray, List.set_cons_zero, List.set_cons_succ]
          refine take_d (some 22) (i := 10) (v := ?_) rfl rfl (by kernel_rfl) (by kernel_rfl) (by kernel_rfl) (fun _ _ _ h => h) (Or.inl ⟨by rfl, ?_⟩) (by assumption) ?_
          rotate_left
          · intro w hSw; (try dsimp only at hSw); go_simp; (try with_reducible rfl)
          try simp only [Act.put, List.setIfInBounds_toArray, List.set_cons_zero, List.set_cons_succ]
          refine wpAnyH_ready (rs := [13]) (by kernel_rfl) (by simp) ?_
          refine AllReadyH.cons rfl (fun K hK => ?_) AllReadyH.nil
          go_simp
          refine (has_run _ _ _).mono ?_
          rintro e WH ⟨rfl, hWH⟩
          subst hWH
          rw [hHB]
          go_wp2_with fail
          refine hK.out _ _ ?_ (fun hHeld => ?_)
          · first | exact hSK2 | exact hSK1 | exact hSK0 | exact hSK
          clear hSK
          have hSK := hHeld
          clear hHeld
          clear hK K
          try simp only [Act.put, List.setIfInBounds_toArray, List.set_cons_zero, List.set_cons_succ]
          refine take_d (some 26) (i := 14) (v := ?_) rfl rfl (by kernel_rfl) (by kernel_rfl) (by kernel_rfl) (fun _ _ _ h => h) (Or.inl ⟨by rfl, ?_⟩) (by assumption) ?_
          rotate_left
          · intro w hSw; (try dsimp only at hSw); go_simp; (try with_reducible rfl)
          try simp only [Act.put, List.setIfInBounds_toArray, List.set_cons_zero, List.set_cons_succ]
          refine take_d (some 27) (i := 15) (v := ?_) rfl rfl (by kernel_rfl) (by kernel_rfl) (by kernel_rfl) (fun _ _ _ h => h) (Or.inl ⟨by rfl, ?_⟩) (by assumption) ?_
          rotate_left
          · intro w hSw; (try dsimp only at hSw); go_simp; (try with_reducible rfl)
          try simp only [Act.put, List.setIfInBounds_toArray, List.set_cons_zero, List.set_cons_succ]
          refine take_d (some 28) (i := 16) (v := ?_) rfl rfl (by kernel_rfl) (by kernel_rfl) (by kernel_rfl) (fun _ _ _ h => h) (Or.inl ⟨by rfl, ?_⟩) (by assumption) ?_
          rotate_left
          · intro w hSw; (try dsimp only at hSw); go_simp; (try with_reducible rfl)
          try simp only [Act.put, List.setIfInBounds_toArray, List.set_cons_zero, List.set_cons_succ]
          refine take_d (some 29) (i := 17) (v := ?_) rfl rfl (by kernel_rfl) (by kernel_rfl) (by kernel_rfl) (fun _ _ _ h => h) (Or.inl ⟨by rfl, ?_⟩) (by assumption) ?_
          rotate_left
          · intro w hSw; (try dsimp only at hSw); go_simp; (try with_reducible rfl)
          try simp only [Act.put, List.setIfInBounds_toArray, List.set_cons_zero, List.set_cons_succ]
          refine take_d (some 30) (i := 18) (v := ?_) rfl rfl (by kernel_rfl) (by kernel_rfl) (by kernel_rfl) (fun _ _ _ h => h) (Or.inl ⟨by rfl, ?_⟩) (by assumption) ?_
          rotate_left
          · intro w hSw; (try dsimp only at hSw); go_simp; (try with_reducible rfl)
          try simp only [Act.put, List.setIfInBounds_toArray, List.set_cons_zero, List.set_cons_succ]
          refine take_d (some 31) (i := 19) (v := ?_) rfl rfl (by kernel_rfl) (by kernel_rfl) (by kernel_rfl) (fun _ _ _ h => h) (Or.inl ⟨by rfl, ?_⟩) (by assumption) ?_
          rotate_left
          · intro w hSw; (try dsimp only at hSw); go_simp; (try with_reducible rfl)
          try simp only [Act.put, List.setIfInBounds_toArray, List.set_cons_zero, List.set_cons_succ]
          refine take_d (some 32) (i := 20) (v := ?_) rfl rfl (by kernel_rfl) (by kernel_rfl) (by kernel_rfl) (fun _ _ _ h => h) (Or.inl ⟨by rfl, ?_⟩) (by assumption) ?_
          rotate_left
          · intro w hSw; (try dsimp only at hSw); go_simp; (try with_reducible rfl)
          try simp only [Act.put, List.setIfInBounds_toArray, List.set_cons_zero, List.set_cons_succ]
          refine take_d (some 33) (i := 21) (v := ?_) rfl rfl (by kernel_rfl) (by kernel_rfl) (by kernel_rfl) (fun _ _ _ h => h) (Or.inl ⟨by rfl, ?_⟩) (by assumption) ?_
          rotate_left
          · intro w hSw; (try dsimp only at hSw); go_simp; (try with_reducible rfl)
          try simp only [Act.put, List.setIfInBounds_toArray, List.set_cons_zero, List.set_cons_succ]
          refine take_d (some 34) (i := 22) (v := ?_) rfl rfl (by kernel_rfl) (by kernel_rfl) (by kernel_rfl) (fun _ _ _ h => h) (Or.inl ⟨by rfl, ?_⟩) (by assumption) ?_
          rotate_left
          · intro w hSw; (try dsimp only at hSw); go_simp; (try with_reducible rfl)
          try simp only [Act.put, List.setIfInBounds_toArray, List.set_cons_zero, List.set_cons_succ]
          refine take_d (some 35) (i := 23) (v := ?_) rfl rfl (by kernel_rfl) (by kernel_rfl) (by kernel_rfl) (fun _ _ _ h => h) (Or.inl ⟨by rfl, ?_⟩) (by assumption) ?_
          rotate_left
          · intro w hSw; (try dsimp only at hSw); go_simp; (try with_reducible rfl)
          try simp only [Act.put, List.setIfInBounds_toArray, List.set_cons_zero, List.set_cons_succ]
          refine take_d (some 36) (i := 24) (v := ?_) rfl rfl (by kernel_rfl) (by kernel_rfl) (by kernel_rfl) (fun _ _ _ h => h) (Or.inl ⟨by rfl, ?_⟩) (by assumption) ?_
          rotate_left
          · intro w hSw; (try dsimp only at hSw); go_simp; (try with_reducible rfl)
          try simp only [Act.put, List.setIfInBounds_toArray, List.set_cons_zero, List.set_cons_succ]
          refine take_d (some 37) (i := 25) (v := ?_) rfl rfl (by kernel_rfl) (by kernel_rfl) (by kernel_rfl) (fun _ _ _ h => h) (Or.inl ⟨by rfl, ?_⟩) (by assumption) ?_
          rotate_left
          · intro w hSw; (try dsimp only at hSw); go_simp; (try with_reducible rfl)
          try simp only [Act.put, List.setIfInBounds_toArray, List.set_cons_zero, List.set_cons_succ]
          refine take_d (some 38) (i := 26) (v := ?_) rfl rfl (by kernel_rfl) (by kernel_rfl) (by kernel_rfl) (fun _ _ _ h => h) (Or.inl ⟨by rfl, ?_⟩) (by assumption) ?_
          rotate_left
          · intro w hSw; (try dsimp only at hSw); go_simp; (try with_reducible rfl)
          try simp only [Act.put, List.setIfInBounds_toArray, List.set_cons_zero, List.set_cons_succ]
          refine wpAnyH_ready (rs := [27]) (by kernel_rfl) (by simp) ?_
          refine AllReadyH.cons rfl (fun K hK => ?_) AllReadyH.nil
          go_simp
          refine (IH.out _ _ _ R (X ||| 2 ^ nd) _ hR hX2 (H.out.below hbd1) (HTA.out.below hbd1)).mono ?_
          rintro e WK1 ⟨⟨b1, rfl, hs1⟩, hbK1⟩
          have hSK1 := keepR9 (by assumption) hbK1
          have hbd2 := bstep hbd1 hbK1
          have HS1 := Lib.hid hs1
          clear hs1
          go_wp2_with fail
          refine hK.out _ _ ?_ (fun hHeld => ?_)
          · first | exact hSK2 | exact hSK1 | exact hSK0 | exact hSK
          clear hSK
          have hSK := hHeld
          clear hHeld
          clear hK K
          try simp only [Act.put, List.setIfInBounds_toArray, List.set_cons_zero, List.set_cons_succ]
          cases b1
          · skip
            refine take_d (some 40) (i := 28) (v := ?_) rfl rfl (by kernel_rfl) (by kernel_rfl) (by kernel_rfl) (fun _ _ _ h => h) (Or.inl ⟨by rfl, ?_⟩) (by assumption) ?_
            rotate_left
            · intro w hSw; (try dsimp only at hSw); go_simp; (try with_reducible rfl)
            try simp only [Act.put, List.setIfInBounds_toArray, List.set_cons_zero, List.set_cons_succ]
            refine take_d (some 41) (i := 29) (v := ?_) rfl rfl (by kernel_rfl) (by kernel_rfl) (by kernel_rfl) (fun _ _ _ h => h) (Or.inl ⟨by rfl, ?_⟩) (by assumption) ?_
            rotate_left
            · intro w hSw; (try dsimp only at hSw); go_simp; (try with_reducible rfl)
            try simp only [Act.put, List.setIfInBounds_toArray, List.set_cons_zero, List.set_cons_succ]
            refine take_d (some 42) (i := 30) (v := undef) rfl rfl (by kernel_rfl) (by kernel_rfl) (by kernel_rfl) (fun _ _ _ h => h) (Or.inr ⟨by rfl, rfl⟩) (by assumption) ?_
            try simp only [Act.put, List.setIfInBounds_toArray, List.set_cons_zero, List.set_cons_succ]
            refine take_d (some 43) (i := 31) (v := undef) rfl rfl (by kernel_rfl) (by kernel_rfl) (by kernel_rfl) (fun _ _ _ h => h) (Or.inr ⟨by rfl, rfl⟩) (by assumption) ?_
            try simp only [Act.put, List.setIfInBounds_toArray, List.set_cons_zero, List.set_cons_succ]
            refine take_d (some 44) (i := 32) (v := undef) rfl rfl (by kernel_rfl) (by kernel_rfl) (by kernel_rfl) (fun _ _ _ h => h) (Or.inr ⟨by rfl, rfl⟩) (by assumption) ?_
            try simp only [Act.put, List.setIfInBounds_toArray, List.set_cons_zero, List.set_cons_succ]
            refine take_d (some 45) (i := 33) (v := undef) rfl rfl (by kernel_rfl) (by kernel_rfl) (by kernel_rfl) (fun _ _ _ h => h) (Or.inr ⟨by rfl, rfl⟩) (by assumption) ?_
            try simp only [Act.put, List.setIfInBounds_toArray, List.set_cons_zero, List.set_cons_succ]
            refine take_d (some 46) (i := 34) (v := undef) rfl rfl (by kernel_rfl) (by kernel_rfl) (by kernel_rfl) (fun _ _ _ h => h) (Or.inr ⟨by rfl, rfl⟩) (by assumption) ?_
            try simp only [Act.put, List.setIfInBounds_toArray, List.set_cons_zero, List.set_cons_succ]
            refine take_d (some 47) (i := 35) (v := undef) rfl rfl (by kernel_rfl) (by kernel_rfl) (by kernel_rfl) (fun _ _ _ h => h) (Or.inr ⟨by rfl, rfl⟩) (by assumption) ?_
            try simp only [Act.put, List.setIfInBounds_toArray, List.set_cons_zero, List.set_cons_succ]
            refine take_d (some 48) (i := 36) (v := undef) rfl rfl (by kernel_rfl) (by kernel_rfl) (by kernel_rfl) (fun _ _ _ h => h) (Or.inr ⟨by rfl, rfl⟩) (by assumption) ?_
            try simp only [Act.put, List.setIfInBounds_toArray, List.set_cons_zero, List.set_cons_succ]
            refine take_d (some 49) (i := 37) (v := undef) rfl rfl (by kernel_rfl) (by kernel_rfl) (by kernel_rfl) (fun _ _ _ h => h) (Or.inr ⟨by rfl, rfl⟩) (by assumption) ?_
            try simp only [Act.put, List.setIfInBounds_toArray, List.set_cons_zero, List.set_cons_succ]
            refine take_d (some 50) (i := 38) (v := undef) rfl rfl (by kernel_rfl) (by kernel_rfl) (by kernel_rfl) (fun _ _ _ h => h) (Or.inr ⟨by rfl, rfl⟩) (by assumption) ?_
            try simp only [Act.put, List.setIfInBounds_toArray, List.set_cons_zero, List.set_cons_succ]
            refine take_d (some 51) (i := 39) (v := undef) rfl rfl (by kernel_rfl) (by kernel_rfl) (by kernel_rfl) (fun _ _ _ h => h) (Or.inr ⟨by rfl, rfl⟩) (by assumption) ?_
            try simp only [Act.put, List.setIfInBounds_toArray, List.set_cons_zero, List.set_cons_succ]
            refine take_d (some 52) (i := 40) (v := undef) rfl rfl (by kernel_rfl) (by kernel_rfl) (by kernel_rfl) (fun _ _ _ h => h) (Or.inr ⟨by rfl, rfl⟩) (by assumption) ?_
            try simp only [Act.put, List.setIfInBounds_toArray, List.set_cons_zero, List.set_cons_succ]
            refine take_d (some 53) (i := 41) (v := undef) rfl rfl (by kernel_rfl) (by kernel_rfl) (by kernel_rfl) (fun _ _ _ h => h) (Or.inr ⟨by rfl, rfl⟩) (by assumption) ?_
            try simp only [Act.put, List.setIfInBounds_toArray, List.set_cons_zero, List.set_cons_succ]
            refine take_d (some 54) (i := 42) (v := ?_) rfl rfl (by kernel_rfl) (by kernel_rfl) (by kernel_rfl) (fun _ _ _ h => h) (Or.inl ⟨by rfl, ?_⟩) (by assumption) ?_
            rotate_left
            · intro w hSw; (try dsimp only at hSw); go_simp; (try with_reducible rfl)
            try simp only [Act.put, List.setIfInBounds_toArray, List.set_cons_zero, List.set_cons_succ]
            refine take_d (some 8) (i := 43) (v := ?_) rfl rfl (by kernel_rfl) (by kernel_rfl) (by kernel_rfl) (fun _ _ _ h => h) (Or.inl ⟨by rfl, ?_⟩) (by assumption) ?_
            rotate_left
            · intro w hSw; (try dsimp only at hSw); go_simp; (try with_reducible rfl)
            try simp only [Act.put, List.setIfInBounds_toArray, List.set_cons_zero, List.set_cons_succ]
            refine wpAnyH_done (by kernel_rfl) ?_ _
            refine NoPanic.normal ?_
            have HZ := Lib.hid (bstep HBw.out (hbd2))
            have HS := Lib.hid (show false = true → Snd d ms R X from fun h => by cases h)
            clear hSK hS
            go_wp2_with fail
            go_ret
            exact ⟨⟨false, rfl, HS.out⟩, HZ.out⟩
          · skip
            refine take_d (some 40) (i := 28) (v := ?_) rfl rfl (by kernel_rfl) (by kernel_rfl) (by kernel_rfl) (fun _ _ _ h => h) (Or.inl ⟨by rfl, ?_⟩) (by assumption) ?_
            rotate_left
            · intro w hSw; (try dsimp only at hSw); go_simp; (try with_reducible rfl)
            try simp only [Act.put, List.setIfInBounds_toArray, List.set_cons_zero, List.set_cons_succ]
            refine take_d (some 41) (i := 29) (v := ?_) rfl rfl (by kernel_rfl) (by kernel_rfl) (by kernel_rfl) (fun _ _ _ h => h) (Or.inl ⟨by rfl, ?_⟩) (by assumption) ?_
            rotate_left
            · intro w hSw; (try dsimp only at hSw); go_simp; (try with_reducible rfl)
            try simp only [Act.put, List.setIfInBounds_toArray, List.set_cons_zero, List.set_cons_succ]
            refine take_d (some 42) (i := 30) (v := ?_) rfl rfl (by kernel_rfl) (by kernel_rfl) (by kernel_rfl) (fun _ _ _ h => h) (Or.inl ⟨by rfl, ?_⟩) (by assumption) ?_
            rotate_left
            · intro w hSw; (try dsimp only at hSw); go_simp; (try with_reducible rfl)
            try simp only [Act.put, List.setIfInBounds_toArray, List.set_cons_zero, List.set_cons_succ]
            refine take_d (some 43) (i := 31) (v := ?_) rfl rfl (by kernel_rfl) (by kernel_rfl) (by kernel_rfl) (fun _ _ _ h => h) (Or.inl ⟨by rfl, ?_⟩) (by assumption) ?_
            rotate_left
            · intro w hSw; (try dsimp only at hSw); go_simp; (try with_reducible rfl)
            try simp only [Act.put, List.setIfInBounds_toArray, List.set_cons_zero, List.set_cons_succ]
            refine take_d (some 44) (i := 32) (v := ?_) rfl rfl (by kernel_rfl) (by kernel_rfl) (by kernel_rfl) (fun _ _ _ h => h) (Or.inl ⟨by rfl, ?_⟩) (by assumption) ?_
            rotate_left
            · intro w hSw; (try dsimp only at hSw); go_simp; (try with_reducible rfl)
            try simp only [Act.put, List.setIfInBounds_toArray, List.set_cons_zero, List.set_cons_succ]
            refine take_d (some 45) (i := 33) (v := ?_) rfl rfl (by kernel_rfl) (by kernel_rfl) (by kernel_rfl) (fun _ _ _ h => h) (Or.inl ⟨by rfl, ?_⟩) (by assumption) ?_
            rotate_left
            · intro w hSw; (try dsimp only at hSw); go_simp; (try with_reducible rfl)
            try simp only [Act.put, List.setIfInBounds_toArray, List.set_cons_zero, List.set_cons_succ]
            refine take_d (some 46) (i := 34) (v := ?_) rfl rfl (by kernel_rfl) (by kernel_rfl) (by kernel_rfl) (fun _ _ _ h => h) (Or.inl ⟨by rfl, ?_⟩) (by assumption) ?_
            rotate_left
            · intro w hSw; (try dsimp only at hSw); go_simp; (try with_reducible rfl)
            try simp only [Act.put, List.setIfInBounds_toArray, List.set_cons_zero, List.set_cons_succ]
            refine take_d (some 47) (i := 35) (v := ?_) rfl rfl (by kernel_rfl) (by kernel_rfl) (by kernel_rfl) (fun _ _ _ h => h) (Or.inl ⟨by rfl, ?_⟩) (by assumption) ?_
            rotate_left
            · intro w hSw; (try dsimp only at hSw); go_simp; (try with_reducible rfl)
            try simp only [Act.put, List.setIfInBounds_toArray, List.set_cons_zero, List.set_cons_succ]
            refine take_d (some 48) (i := 36) (v := ?_) rfl rfl (by kernel_rfl) (by kernel_rfl) (by kernel_rfl) (fun _ _ _ h => h) (Or.inl ⟨by rfl, ?_⟩) (by assumption) ?_
            rotate_left
            · intro w hSw; (try dsimp only at hSw); go_simp; (try with_reducible rfl)
            try simp only [Act.put, List.setIfInBounds_toArray, List.set_cons_zero, List.set_cons_succ]
            refine take_d (some 49) (i := 37) (v := ?_) rfl rfl (by kernel_rfl) (by kernel_rfl) (by kernel_rfl) (fun _ _ _ h => h) (Or.inl ⟨by rfl, ?_⟩) (by assumption) ?_
            rotate_left
            · intro w hSw; (try dsimp only at hSw); go_simp; (try with_reducible rfl)
            try simp only [Act.put, List.setIfInBounds_toArray, List.set_cons_zero, List.set_cons_succ]
            refine take_d (some 50) (i := 38) (v := ?_) rfl rfl (by kernel_rfl) (by kernel_rfl) (by kernel_rfl) (fun _ _ _ h => h) (Or.inl ⟨by rfl, ?_⟩) (by assumption) ?_
            rotate_left
            · intro w hSw; (try dsimp only at hSw); go_simp; (try with_reducible rfl)
            try simp only [Act.put, List.setIfInBounds_toArray, List.set_cons_zero, List.set_cons_succ]
            refine take_d (some 51) (i := 39) (v := ?_) rfl rfl (by kernel_rfl) (by kernel_rfl) (by kernel_rfl) (fun _ _ _ h => h) (Or.inl ⟨by rfl, ?_⟩) (by assumption) ?_
            rotate_left
            · intro w hSw; (try dsimp only at hSw); go_simp; (try with_reducible rfl)
            try simp only [Act.put, List.setIfInBounds_toArray, List.set_cons_zero, List.set_cons_succ]
            refine take_d (some 52) (i := 40) (v := ?_) rfl rfl (by kernel_rfl) (by kernel_rfl) (by kernel_rfl) (fun _ _ _ h => h) (Or.inl ⟨by rfl, ?_⟩) (by assumption) ?_
            rotate_left
            · intro w hSw; (try dsimp only at hSw); go_simp; (try with_reducible rfl)
            try simp only [Act.put, List.setIfInBounds_toArray, List.set_cons_zero, List.set_cons_succ]
            refine wpAnyH_ready (rs := [41]) (by kernel_rfl) (by simp) ?_
            refine AllReadyH.cons rfl (fun K hK => ?_) AllReadyH.nil
            go_simp
            refine (IH.out _ _ _ (R ||| 2 ^ nd) X _ hR2 hX (H.out.below hbd2) (HTB.out.below hbd2)).mono ?_
            rintro e WK2 ⟨⟨b2, rfl, hs2⟩, hbK2⟩
            have hSK2 := keepR9 (by assumption) hbK2
            have hbd3 := bstep hbd2 hbK2
            have HS2 := Lib.hid hs2
            clear hs2
            go_wp2_with fail
            refine hK.out _ _ ?_ (fun hHeld => ?_)
            · first | exact hSK2 | exact hSK1 | exact hSK0 | exact hSK
            clear hSK
            have hSK := hHeld
            clear hHeld
            clear hK K
            try simp only [Act.put, List.setIfInBounds_toArray, List.set_cons_zero, List.set_cons_succ]
            refine take_d (some 54) (i := 42) (v := ?_) rfl rfl (by kernel_rfl) (by kernel_rfl) (by kernel_rfl) (fun _ _ _ h => h) (Or.inl ⟨by rfl, ?_⟩) (by assumption) ?_
            rotate_left
            · intro w hSw; (try dsimp only at hSw); go_simp; (try with_reducible rfl)
            try simp only [Act.put, List.setIfInBounds_toArray, List.set_cons_zero, List.set_cons_succ]
            refine take_d (some 8) (i := 43) (v := ?_) rfl rfl (by kernel_rfl) (by kernel_rfl) (by kernel_rfl) (fun _ _ _ h => h) (Or.inl ⟨by rfl, ?_⟩) (by assumption) ?_
            rotate_left
            · intro w hSw; (try dsimp only at hSw); go_simp; (try with_reducible rfl)
            try simp only [Act.put, List.setIfInBounds_toArray, List.set_cons_zero, List.set_cons_succ]
            refine wpAnyH_done (by kernel_rfl) ?_ _
            refine NoPanic.normal ?_
            have HZ := Lib.hid (bstep HBw.out (hbd3))
            have HS := Lib.hid (show b2 = true → Snd d ms R X from fun h => snd_split (HS1.out (by simp)) (HS2.out h))
            clear hSK hS
            go_wp2_with fail
            go_ret
            exact ⟨⟨b2, rfl, HS.out⟩, HZ.out⟩
      · have hm2i : ((m : Int) == 2) = false := by simp; omega
        have hS := Lib.hid (keepR3 HPRE.out (bdrewT W1))
        clear HPRE RAW
        refine wp_region_noPanic ?_
        refine wp_region_held_drew (S := fun W => W.cell? ⟨g, 0, none⟩ = some (.slice Ac ms.length cc) ∧ W.cell? ⟨g + 1, 1, none⟩ = some (.int .i64 N) ∧ W.cell? ⟨g + 1, 2, none⟩ = some (.slice A m c)) (by kernel_rfl) hS.out (fun hHeld => ?_)
        have hSK := hHeld
        clear hHeld
        refine take_d (some 12) (i := 0) (v := ?_) rfl rfl (by kernel_rfl) (by kernel_rfl) (by kernel_rfl) (fun _ _ _ h => h) (Or.inl ⟨by rfl, ?_⟩) (by assumption) ?_
        rotate_left
        · intro w hSw; (try dsimp only at hSw); go_simp; (try with_reducible rfl)
        try simp only [Act.put, List.setIfInBounds_toArray, List.set_cons_zero, List.set_cons_succ]
        refine take_d (some 13) (i := 1) (v := ?_) rfl rfl (by kernel_rfl) (by kernel_rfl) (by kernel_rfl) (fun _ _ _ h => h) (Or.inl ⟨by rfl, ?_⟩) (by assumption) ?_
        rotate_left
        · intro w hSw; (try dsimp only at hSw); go_simp; (try with_reducible rfl)
        try simp only [Act.put, List.setIfInBounds_toArray, List.set_cons_zero, List.set_cons_succ]
        refine take_d (some 14) (i := 2) (v := ?_) rfl rfl (by kernel_rfl) (by kernel_rfl) (by kernel_rfl) (fun _ _ _ h => h) (Or.inl ⟨by rfl, ?_⟩) (by assumption) ?_
        rotate_left
        · intro w hSw; (try dsimp only at hSw); go_simp; (try with_reducible rfl)
        try simp only [Act.put, List.setIfInBounds_toArray, List.set_cons_zero, List.set_cons_succ]
        refine take_d (some 15) (i := 3) (v := ?_) rfl rfl (by kernel_rfl) (by kernel_rfl) (by kernel_rfl) (fun _ _ _ h => h) (Or.inl ⟨by rfl, ?_⟩) (by assumption) ?_
        rotate_left
        · intro w hSw; (try dsimp only at hSw); go_simp; (try with_reducible rfl)
        try simp only [Act.put, List.setIfInBounds_toArray, List.set_cons_zero, List.set_cons_succ]
        try rw [hm2i]
        refine take_d (some 16) (i := 4) (v := ?_) rfl rfl (by kernel_rfl) (by kernel_rfl) (by kernel_rfl) (fun _ _ _ h => h) (Or.inl ⟨by rfl, ?_⟩) (by assumption) ?_
        rotate_left
        · intro w hSw; (try dsimp only at hSw); go_simp; (try with_reducible rfl)
        try simp only [Act.put, List.setIfInBounds_toArray, List.set_cons_zero, List.set_cons_succ]
        refine take_d (some 17) (i := 5) (v := undef) rfl rfl (by kernel_rfl) (by kernel_rfl) (by kernel_rfl) (fun _ _ _ h => h) (Or.inr ⟨by rfl, rfl⟩) (by assumption) ?_
        try simp only [Act.put, List.setIfInBounds_toArray, List.set_cons_zero, List.set_cons_succ]
        refine take_d (some 18) (i := 6) (v := undef) rfl rfl (by kernel_rfl) (by kernel_rfl) (by kernel_rfl) (fun _ _ _ h => h) (Or.inr ⟨by rfl, rfl⟩) (by assumption) ?_
        try simp only [Act.put, List.setIfInBounds_toArray, List.set_cons_zero, List.set_cons_succ]
        refine take_d (some 19) (i := 7) (v := undef) rfl rfl (by kernel_rfl) (by kernel_rfl) (by kernel_rfl) (fun _ _ _ h => h) (Or.inr ⟨by rfl, rfl⟩) (by assumption) ?_
        try simp only [Act.put, List.setIfInBounds_toArray, List.set_cons_zero, List.set_cons_succ]
        refine take_d (some 20) (i := 8) (v := undef) rfl rfl (by kernel_rfl) (by kernel_rfl) (by kernel_rfl) (fun _ _ _ h => h) (Or.inr ⟨by rfl, rfl⟩) (by assumption) ?_
        try simp only [Act.put, List.setIfInBounds_toArray, List.set_cons_zero, List.set_cons_succ]
        refine take_d (some 21) (i := 9) (v := undef) rfl rfl (by kernel_rfl) (by kernel_rfl) (by kernel_rfl) (fun _ _ _ h => h) (Or.inr ⟨by rfl, rfl⟩) (by assumption) ?_
        try simp only [Act.put, List.setIfInBounds_toArray, List.set_cons_zero, List.set_cons_succ]
        refine take_d (some 22) (i := 10) (v := undef) rfl rfl (by kernel_rfl) (by kernel_rfl) (by kernel_rfl) (fun _ _ _ h => h) (Or.inr ⟨by rfl, rfl⟩) (by assumption) ?_
        try simp only [Act.put, List.setIfInBounds_toArray, List.set_cons_zero, List.set_cons_succ]
        refine take_d (some 23) (i := 11) (v := undef) rfl rfl (by kernel_rfl) (by kernel_rfl) (by kernel_rfl) (fun _ _ _ h => h) (Or.inr ⟨by rfl, rfl⟩) (by assumption) ?_
        try simp only [Act.put, List.setIfInBounds_toArray, List.set_cons_zero, List.set_cons_succ]
        refine take_d (some 24) (i := 12) (v := undef) rfl rfl (by kernel_rfl) (by kernel_rfl) (by kernel_rfl) (fun _ _ _ h => h) (Or.inr ⟨by rfl, rfl⟩) (by assumption) ?_
        try simp only [Act.put, List.setIfInBounds_toArray, List.set_cons_zero, List.set_cons_succ]
        refine take_d (some 25) (i := 13) (v := undef) rfl rfl (by kernel_rfl) (by kernel_rfl) (by kernel_rfl) (fun _ _ _ h => h) (Or.inr ⟨by rfl, rfl⟩) (by assumption) ?_
        try simp only [Act.put, List.setIfInBounds_toArray, List.set_cons_zero, List.set_cons_succ]
        refine take_d (some 26) (i := 14) (v := ?_) rfl rfl (by kernel_rfl) (by kernel_rfl) (by kernel_rfl) (fun _ _ _ h => h) (Or.inl ⟨by rfl, ?_⟩) (by assumption) ?_
        rotate_left
        · intro w hSw; (try dsimp only at hSw); go_simp; (try with_reducible rfl)
        try simp only [Act.put, List.setIfInBounds_toArray, List.set_cons_zero, List.set_cons_succ]
        refine take_d (some 27) (i := 15) (v := ?_) rfl rfl (by kernel_rfl) (by kernel_rfl) (by kernel_rfl) (fun _ _ _ h => h) (Or.inl ⟨by rfl, ?_⟩) (by assumption) ?_
        rotate_left
        · intro w hSw; (try dsimp only at hSw); go_simp; (try with_reducible rfl)
        try simp only [Act.put, List.setIfInBounds_toArray, List.set_cons_zero, List.set_cons_succ]
        refine take_d (some 28) (i := 16) (v := undef) rfl rfl (by kernel_rfl) (by kernel_rfl) (by kernel_rfl) (fun _ _ _ h => h) (Or.inr ⟨by rfl, rfl⟩) (by assumption) ?_
        try simp only [Act.put, List.setIfInBounds_toArray, List.set_cons_zero, List.set_cons_succ]
        refine take_d (some 29) (i := 17) (v := undef) rfl rfl (by kernel_rfl) (by kernel_rfl) (by kernel_rfl) (fun _ _ _ h => h) (Or.inr ⟨by rfl, rfl⟩) (by assumption) ?_
        try simp only [Act.put, List.setIfInBounds_toArray, List.set_cons_zero, List.set_cons_succ]
        refine take_d (some 30) (i := 18) (v := undef) rfl rfl (by kernel_rfl) (by kernel_rfl) (by kernel_rfl) (fun _ _ _ h => h) (Or.inr ⟨by rfl, rfl⟩) (by assumption) ?_
        try simp only [Act.put, List.setIfInBounds_toArray, List.set_cons_zero, List.set_cons_succ]
        refine take_d (some 31) (i := 19) (v := undef) rfl rfl (by kernel_rfl) (by kernel_rfl) (by kernel_rfl) (fun _ _ _ h => h) (Or.inr ⟨by rfl, rfl⟩) (by assumption) ?_
        try simp only [Act.put, List.setIfInBounds_toArray, List.set_cons_zero, List.set_cons_succ]
        refine take_d (some 32) (i := 20) (v := undef) rfl rfl (by kernel_rfl) (by kernel_rfl) (by kernel_rfl) (fun _ _ _ h => h) (Or.inr ⟨by rfl, rfl⟩) (by assumption) ?_
        try simp only [Act.put, List.setIfInBounds_toArray, List.set_cons_zero, List.set_cons_succ]
        refine take_d (some 33) (i := 21) (v := undef) rfl rfl (by kernel_rfl) (by kernel_rfl) (by kernel_rfl) (fun _ _ _ h => h) (Or.inr ⟨by rfl, rfl⟩) (by assumption) ?_
        try simp only [Act.put, List.setIfInBounds_toArray, List.set_cons_zero, List.set_cons_succ]
        refine take_d (some 34) (i := 22) (v := undef) rfl rfl (by kernel_rfl) (by kernel_rfl) (by kernel_rfl) (fun _ _ _ h => h) (Or.inr ⟨by rfl, rfl⟩) (by assumption) ?_
        try simp only [Act.put, List.setIfInBounds_toArray, List.set_cons_zero, List.set_cons_succ]
        refine take_d (some 35) (i := 23) (v := undef) rfl rfl (by kernel_rfl) (by kernel_rfl) (by kernel_rfl) (fun _ _ _ h => h) (Or.inr ⟨by rfl, rfl⟩) (by assumption) ?_
        try simp only [Act.put, List.setIfInBounds_toArray, List.set_cons_zero, List.set_cons_succ]
        refine take_d (some 36) (i := 24) (v := undef) rfl rfl (by kernel_rfl) (by kernel_rfl) (by kernel_rfl) (fun _ _ _ h => h) (Or.inr ⟨by rfl, rfl⟩) (by assumption) ?_
        try simp only [Act.put, List.setIfInBounds_toArray, List.set_cons_zero, List.set_cons_succ]
        refine take_d (some 37) (i := 25) (v := undef) rfl rfl (by kernel_rfl) (by kernel_rfl) (by kernel_rfl) (fun _ _ _ h => h) (Or.inr ⟨by rfl, rfl⟩) (by assumption) ?_
        try simp only [Act.put, List.setIfInBounds_toArray, List.set_cons_zero, List.set_cons_succ]
        refine take_d (some 38) (i := 26) (v := undef) rfl rfl (by kernel_rfl) (by kernel_rfl) (by kernel_rfl) (fun _ _ _ h => h) (Or.inr ⟨by rfl, rfl⟩) (by assumption) ?_
        try simp only [Act.put, List.setIfInBounds_toArray, List.set_cons_zero, List.set_cons_succ]
        refine take_d (some 39) (i := 27) (v := undef) rfl rfl (by kernel_rfl) (by kernel_rfl) (by kernel_rfl) (fun _ _ _ h => h) (Or.inr ⟨by rfl, rfl⟩) (by assumption) ?_
        try simp only [Act.put, List.setIfInBounds_toArray, List.set_cons_zero, List.set_cons_succ]
        refine take_d (some 40) (i := 28) (v := ?_) rfl rfl (by kernel_rfl) (by kernel_rfl) (by kernel_rfl) (fun _ _ _ h => h) (Or.inl ⟨by rfl, ?_⟩) (by assumption) ?_
        rotate_left
        · intro w hSw; (try dsimp only at hSw); go_simp; (try with_reducible rfl)
        try simp only [Act.put, List.setIfInBounds_toArray, List.set_cons_zero, List.set_cons_succ]
        refine take_d (some 41) (i := 29) (v := ?_) rfl rfl (by kernel_rfl) (by kernel_rfl) (by kernel_rfl) (fun _ _ _ h => h) (Or.inl ⟨by rfl, ?_⟩) (by assumption) ?_
        rotate_left
        · intro w hSw; (try dsimp only at hSw); go_simp; (try with_reducible rfl)
        try simp only [Act.put, List.setIfInBounds_toArray, List.set_cons_zero, List.set_cons_succ]
        refine take_d (some 42) (i := 30) (v := undef) rfl rfl (by kernel_rfl) (by kernel_rfl) (by kernel_rfl) (fun _ _ _ h => h) (Or.inr ⟨by rfl, rfl⟩) (by assumption) ?_
        try simp only [Act.put, List.setIfInBounds_toArray, List.set_cons_zero, List.set_cons_succ]
        refine take_d (some 43) (i := 31) (v := undef) rfl rfl (by kernel_rfl) (by kernel_rfl) (by kernel_rfl) (fun _ _ _ h => h) (Or.inr ⟨by rfl, rfl⟩) (by assumption) ?_
        try simp only [Act.put, List.setIfInBounds_toArray, List.set_cons_zero, List.set_cons_succ]
        refine take_d (some 44) (i := 32) (v := undef) rfl rfl (by kernel_rfl) (by kernel_rfl) (by kernel_rfl) (fun _ _ _ h => h) (Or.inr ⟨by rfl, rfl⟩) (by assumption) ?_
        try simp only [Act.put, List.setIfInBounds_toArray, List.set_cons_zero, List.set_cons_succ]
        refine take_d (some 45) (i := 33) (v := undef) rfl rfl (by kernel_rfl) (by kernel_rfl) (by kernel_rfl) (fun _ _ _ h => h) (Or.inr ⟨by rfl, rfl⟩) (by assumption) ?_
        try simp only [Act.put, List.setIfInBounds_toArray, List.set_cons_zero, List.set_cons_succ]
        refine take_d (some 46) (i := 34) (v := undef) rfl rfl (by kernel_rfl) (by kernel_rfl) (by kernel_rfl) (fun _ _ _ h => h) (Or.inr ⟨by rfl, rfl⟩) (by assumption) ?_
        try simp only [Act.put, List.setIfInBounds_toArray, List.set_cons_zero, List.set_cons_succ]
        refine take_d (some 47) (i := 35) (v := undef) rfl rfl (by kernel_rfl) (by kernel_rfl) (by kernel_rfl) (fun _ _ _ h => h) (Or.inr ⟨by rfl, rfl⟩) (by assumption) ?_
        try simp only [Act.put, List.setIfInBounds_toArray, List.set_cons_zero, List.set_cons_succ]
        refine take_d (some 48) (i := 36) (v := undef) rfl rfl (by kernel_rfl) (by kernel_rfl) (by kernel_rfl) (fun _ _ _ h => h) (Or.inr ⟨by rfl, rfl⟩) (by assumption) ?_
        try simp only [Act.put, List.setIfInBounds_toArray, List.set_cons_zero, List.set_cons_succ]
        refine take_d (some 49) (i := 37) (v := undef) rfl rfl (by kernel_rfl) (by kernel_rfl) (by kernel_rfl) (fun _ _ _ h => h) (Or.inr ⟨by rfl, rfl⟩) (by assumption) ?_
        try simp only [Act.put, List.setIfInBounds_toArray, List.set_cons_zero, List.set_cons_succ]
        refine take_d (some 50) (i := 38) (v := undef) rfl rfl (by kernel_rfl) (by kernel_rfl) (by kernel_rfl) (fun _ _ _ h => h) (Or.inr ⟨by rfl, rfl⟩) (by assumption) ?_
        try simp only [Act.put, List.setIfInBounds_toArray, List.set_cons_zero, List.set_cons_succ]
        refine take_d (some 51) (i := 39) (v := undef) rfl rfl (by kernel_rfl) (by kernel_rfl) (by kernel_rfl) (fun _ _ _ h => h) (Or.inr ⟨by rfl, rfl⟩) (by assumption) ?_
        try simp only [Act.put, List.setIfInBounds_toArray, List.set_cons_zero, List.set_cons_succ]
        refine take_d (some 52) (i := 40) (v := undef) rfl rfl (by kernel_rfl) (by kernel_rfl) (by kernel_rfl) (fun _ _ _ h => h) (Or.inr ⟨by rfl, rfl⟩) (by assumption) ?_
        try simp only [Act.put, List.setIfInBounds_toArray, List.set_cons_zero, List.set_cons_succ]
        refine take_d (some 53) (i := 41) (v := undef) rfl rfl (by kernel_rfl) (by kernel_rfl) (by kernel_rfl) (fun _ _ _ h => h) (Or.inr ⟨by rfl, rfl⟩) (by assumption) ?_
        try simp only [Act.put, List.setIfInBounds_toArray, List.set_cons_zero, List.set_cons_succ]
        refine take_d (some 54) (i := 42) (v := ?_) rfl rfl (by kernel_rfl) (by kernel_rfl) (by kernel_rfl) (fun _ _ _ h => h) (Or.inl ⟨by rfl, ?_⟩) (by assumption) ?_
        rotate_left
        · intro w hSw; (try dsimp only at hSw); go_simp; (try with_reducible rfl)
        try simp only [Act.put, List.setIfInBounds_toArray, List.set_cons_zero, List.set_cons_succ]
        refine take_d (some 8) (i := 43) (v := ?_) rfl rfl (by kernel_rfl) (by kernel_rfl) (by kernel_rfl) (fun _ _ _ h => h) (Or.inl ⟨by rfl, ?_⟩) (by assumption) ?_
        rotate_left
        · intro w hSw; (try dsimp only at hSw); go_simp; (try with_reducible rfl)
        try simp only [Act.put, List.setIfInBounds_toArray, List.set_cons_zero, List.set_cons_succ]
        refine wpAnyH_done (by kernel_rfl) ?_ _
        refine NoPanic.normal ?_
        have HZ := Lib.hid (bstep HBw.out (bdrewT W1))
        have HS := Lib.hid (show false = true → Snd d ms R X from fun h => by cases h)
        clear hSK hS
        go_wp2_with fail
        go_ret
        exact ⟨⟨false, rfl, HS.out⟩, HZ.out⟩
    · by_cases hN0 : N = 0
      · subst hN0
        by_cases hm0 : m = 0
        · subst hm0
          by_cases h1 : K = 1
          · subst h1
            go_wp2_with fail
            refine (none_run _ d ms _ R X _ hl hR hX H.out).mono ?_
            rintro e W2 ⟨G, rfl, hGl, hgr, hb2⟩
            have HS := Lib.hid (fun h => snd_none (R := R) hgr h)
            have HB2 := Lib.hid (bstep HBw.out hb2)
            clear hgr hb2 c0 t0 t1 t2
            go_wp2_with fail
            go_ret
            exact ⟨⟨_, rfl, HS.out⟩, HB2.out⟩
          · by_cases h2 : K = 2
            · subst h2
              go_wp2_with fail
              refine (alone_run _ d ms _ R _ hl hR H.out).mono ?_
              rintro e W2 ⟨G, rfl, hGl, hgr, hb2⟩
              have HS := Lib.hid (fun h => snd_alone (R := R) (X := X) hgr h)
              have HB2 := Lib.hid (bstep HBw.out hb2)
              clear hgr hb2 c0 t0 t1 t2
              go_wp2_with fail
              go_ret
              exact ⟨⟨_, rfl, HS.out⟩, HB2.out⟩
            · go_wp2_with fail
              go_ret
              exact ⟨⟨_, rfl, fun h => by cases h⟩, HBw.out⟩
        · go_wp2_with fail
          go_ret
          exact ⟨⟨_, rfl, fun h => by cases h⟩, HBw.out⟩
      · go_wp2_with fail
        go_ret
        exact ⟨⟨_, rfl, fun h => by cases h⟩, HBw.out⟩
end Go.Proofs.Ytfghnkgllmofgaa
