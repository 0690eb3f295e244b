/- The contract of threshold.fits, for trusts that stay within the limits. -/
import Derived.Test.YtfghnkgllmofgaaDual2
namespace Go.Proofs.Ytfghnkgllmofgaa
set_option linter.unusedVariables false
set_option linter.unusedSimpArgs false
open Go.RowKit

/-- Block lb holds the number of entries that are left. -/
def LeftAt (w : World) (lb : Nat) (x : Nat) : Prop := w.heap[lb]? = some (.cells #[.int .i64 (x : Int)] 3 (0, 0))

theorem LeftAt.lt {w : World} {lb x : Nat} (h : LeftAt w lb x) : lb < w.heap.size := by
  rcases Nat.lt_or_ge lb w.heap.size with h1 | h1
  · exact h1
  · unfold LeftAt at h; rw [Array.getElem?_eq_none h1] at h; cases h

theorem LeftAt.c {w : World} {lb x : Nat} (h : LeftAt w lb x) : w.cell? ⟨lb, 0, none⟩ = some (.int .i64 (x : Int)) := cell_of_row _ _ 0 _ _ (0, 0) h

theorem LeftAt.f {w : World} {lb x : Nat} (h : LeftAt w lb x) : w.frozen? ⟨lb, 0, none⟩ = false := by
  unfold LeftAt at h
  simp [World.frozen?, h]

theorem LeftAt.keep {w w' : World} {lb x : Nat} (h : LeftAt w lb x) (hk : w'.heap[lb]? = w.heap[lb]?) : LeftAt w' lb x := hk.trans h

theorem LeftAt.below {w w' : World} {lb x : Nat} (h : LeftAt w lb x) (hb : Below w.heap.size w w') : LeftAt w' lb x := h.keep (hb.block _ h.lt)

theorem LeftAt.set {w : World} {lb x : Nat} (h : LeftAt w lb x) (y : Nat) : LeftAt (w.setCell ⟨lb, 0, none⟩ (.int .i64 (y : Int))) lb y := by
  unfold LeftAt at h ⊢
  simp [World.setCell, Array.getElem?_modify, h]

theorem alloc_at {w : World} {o : Obj} {k : Nat} (h : w.heap.size = k) : (w.alloc o).heap[k]? = some o := by rw [← h]; exact heap_alloc_new _ _

theorem alloc_on {w : World} {o v : Obj} {k : Nat} (h : w.heap[k]? = some v) : (w.alloc o).heap[k]? = some v := by
  have hl : k < w.heap.size := by
    rcases Nat.lt_or_ge k w.heap.size with h1 | h1
    · exact h1
    · rw [Array.getElem?_eq_none h1] at h; cases h
  exact (heap_alloc_old _ _ hl).trans h

theorem alloc_sz (w : World) (o : Obj) : (w.alloc o).heap.size = w.heap.size + 1 := by simp

theorem grown_at {a w : World} {lb : Nat} (h : a.grownBy w (some lb)) (o : Nat) (v : Value) : a.grownBy (w.setCell ⟨lb, o, none⟩ v) (some lb) :=
  grown_trans h (gset1 w ⟨lb, o, none⟩ v)

/-- What fits is to return. -/
def FitsC (d : Nat) : Prop := ∀ (T : Tree) (v0 v1 v2 : Value) (level lb left : Nat) (W : World), TAt (fun b => b ≠ lb) d W v0 v1 v2 T → 1 ≤ level → level + d ≤ 5 → LeftAt W lb left → sizeT d T ≤ left → left ≤ 200 →
  Calls Try.prog 75 #[.agg #[v0, v1, v2], .int .i64 (level : Int), .pointer (some ⟨lb, 0, none⟩)] W fun e W' => e = .returned (.bool true) ∧ LeftAt W' lb (left - sizeT d T) ∧ W.grownBy W' (some lb)

set_option maxHeartbeats 1000000 in
theorem fits1_run (d : Nat) (ih : FitsC d) (T : Tree) (v0 v1 v2 : Value) (level lb left b4 b5 : Nat) (W : World) (h : TAt (fun b => b ≠ lb) d W v0 v1 v2 T) (h1 : 1 ≤ level) (h5 : level + d ≤ 4) (hL : LeftAt W lb left) (hs : sizeT d T ≤ left) (h200 : left ≤ 200)
    (c4 : W.cell? ⟨b4, 0, none⟩ = some (.int .i64 (level : Int))) (c5 : W.cell? ⟨b5, 0, none⟩ = some (.pointer (some ⟨lb, 0, none⟩))) :
    Calls Try.prog 83 #[.agg #[v0, v1, v2], .pointer (some ⟨b4, 0, none⟩), .pointer (some ⟨b5, 0, none⟩)] W fun e W' => e = .returned (.bool false) ∧ LeftAt W' lb (left - sizeT d T) ∧ W.grownBy W' (some lb) := by
  obtain ⟨t', A', n', ca, B', m', cb, rfl, rfl, rfl⟩ := h.form
  have hT := Lib.hid (h.below (balloc (bref W) (.cells #[.int .i64 t', .slice A' n' ca, .slice B' m' cb] 49)))
  have HL := Lib.hid (hL.below (balloc (bref W) (.cells #[.int .i64 t', .slice A' n' ca, .slice B' m' cb] 49)))
  have HI := Lib.hid ih
  have k4 := cell_lt c4
  have k5 := cell_lt c5
  have HB := Lib.hid (grown_below (r := some lb) (balloc (bref W) (.cells #[.int .i64 t', .slice A' n' ca, .slice B' m' cb] 49)))
  clear h ih hL
  go_enter Try.func83, Try.ntmps83
  go_wp2_with fail
  refine (HI.out T _ _ _ (level + 1) lb left _ hT.out (by omega) (by omega) HL.out hs h200).mono ?_
  rintro e W2 ⟨rfl, hl2, hg2⟩
  have HL2 := Lib.hid hl2
  have HG2 := Lib.hid (grown_trans HB.out hg2)
  clear hl2 hg2
  go_wp2_with fail
  go_ret
  exact ⟨rfl, HL2.out, HG2.out⟩

theorem sum_map_take {α : Type} (f : α → Nat) {is : List α} {k : Nat} {T : α} (h : is[k]? = some T) : ((is.map f).take (k + 1)).sum = ((is.map f).take k).sum + f T := by
  rw [sum_take_succ (x := f T)]
  rw [List.getElem?_map, h]; rfl

set_option maxRecDepth 100000 in
set_option maxHeartbeats 2000000 in
theorem indexFits_run (d : Nat) (ih : FitsC d) (v : Value) (is : List Tree) (level lb left b4 b5 : Nat) (W : World) (hn : is.length ≤ 1000000) (h : ListT (fun b => b ≠ lb) d W v is) (h1 : 1 ≤ level) (h5 : level + d ≤ 4) (hL : LeftAt W lb left) (hs : (is.map (sizeT d)).sum ≤ left) (h200 : left ≤ 200)
    (c4 : W.cell? ⟨b4, 0, none⟩ = some (.int .i64 (level : Int))) (c5 : W.cell? ⟨b5, 0, none⟩ = some (.pointer (some ⟨lb, 0, none⟩))) (n4 : b4 ≠ lb) (n5 : b5 ≠ lb) :
    Calls Try.prog 90 #[v, .func (.func 83) #[] #[.pointer (some ⟨b4, 0, none⟩), .pointer (some ⟨b5, 0, none⟩)]] W fun e W' => e = .returned (.int .i64 (-1)) ∧ LeftAt W' lb (left - (is.map (sizeT d)).sum) ∧ W.grownBy W' (some lb) := by
  obtain ⟨A, c, rfl, h2⟩ := h
  have H2 := Lib.hid h2
  have HI := Lib.hid ih
  have HL := Lib.hid hL
  have k4 := cell_lt c4
  have k5 := cell_lt c5
  have C4 := Lib.hid c4
  have C5 := Lib.hid c5
  clear h2 ih hL c4 c5
  go_enter Try.func90, Try.ntmps90
  go_wp2_with fail
  go_loopw [8] (fun t wr => ∃ k : Nat, k ≤ is.length ∧ t = .int .i64 k ∧ Hid (LeftAt wr lb (left - ((is.map (sizeT d)).take k).sum)) ∧ Hid (W.grownBy wr (some lb))) (fun t _ => is.length - (intOf t).toNat)
  case atStart => exact ⟨0, by omega, rfl, Lib.hid (by simpa using HL.out), Lib.hid (World.grownBy.refl _ _)⟩
  case round =>
    obtain ⟨k, hk, rfl, hLk, hG⟩ := hrel
    by_cases hlt : k < is.length
    · obtain ⟨T, hT⟩ : ∃ T, is[k]? = some T := ⟨_, List.getElem?_eq_getElem hlt⟩
      obtain ⟨b, off, x0, x1, x2, rfl, hPb, e0, e1, e2, hTk⟩ := H2.out k T hT
      obtain ⟨t', A', n', ca, B', m', cb, rfl, rfl, rfl⟩ := hTk.form
      have hs1 := sum_map_take (sizeT d) hT
      have hs2 := sum_take_le (is.map (sizeT d)) (k + 1)
      have d0 := (World.cell?_of_block (hG.out.block b (cell_lt e0) (by simpa using hPb))).trans e0
      have d1 := (World.cell?_of_block (hG.out.block b (cell_lt e1) (by simpa using hPb))).trans e1
      have d2 := (World.cell?_of_block (hG.out.block b (cell_lt e2) (by simpa using hPb))).trans e2
      have hTr := Lib.hid (TAt.keep (fun q hq hP => hG.out.block q hq (by simpa using hP)) hTk)
      have d4 := Lib.hid ((World.cell?_of_block (hG.out.block b4 k4 (by simpa using n4))).trans C4.out)
      have d5 := Lib.hid ((World.cell?_of_block (hG.out.block b5 k5 (by simpa using n5))).trans C5.out)
      have hle : sizeT d T ≤ left - ((is.map (sizeT d)).take k).sum := by omega
      have hle2 : left - ((is.map (sizeT d)).take k).sum ≤ 200 := by omega
      have HS := Lib.hid (show left - ((is.map (sizeT d)).take k).sum - sizeT d T = left - ((is.map (sizeT d)).take (k + 1)).sum by omega)
      clear e0 e1 e2 hTk hT hs1 hs2 hPb
      go_wp2_with fail
      refine (fits1_run d HI.out T _ _ _ level lb _ b4 b5 _ hTr.out h1 h5 hLk.out hle hle2 d4.out d5.out).mono ?_
      rintro e W2 ⟨rfl, hl2, hg2⟩
      rw [HS.out] at hl2
      have HL2 := Lib.hid hl2
      have HG2 := Lib.hid (grown_trans hG.out hg2)
      clear hl2 hg2
      go_wp2_with fail
      go_roundw
      case rel => exact ⟨k + 1, by omega, by go_num, HL2, HG2⟩
      case measure => simp [intOf]; omega
    · obtain rfl : k = is.length := by omega
      have hfull : ((is.map (sizeT d)).take is.length) = is.map (sizeT d) := by
        rw [show is.length = (is.map (sizeT d)).length by simp, List.take_length]
      rw [hfull] at hLk
      clear hfull
      go_wp2_with fail
      go_ret
      exact ⟨rfl, hLk.out, hG.out⟩

set_option maxHeartbeats 1000000 in
theorem containsFits_run (d : Nat) (ih : FitsC d) (v : Value) (is : List Tree) (level lb left b4 b5 : Nat) (W : World) (hn : is.length ≤ 1000000) (h : ListT (fun b => b ≠ lb) d W v is) (h1 : 1 ≤ level) (h5 : level + d ≤ 4) (hL : LeftAt W lb left) (hs : (is.map (sizeT d)).sum ≤ left) (h200 : left ≤ 200)
    (c4 : W.cell? ⟨b4, 0, none⟩ = some (.int .i64 (level : Int))) (c5 : W.cell? ⟨b5, 0, none⟩ = some (.pointer (some ⟨lb, 0, none⟩))) (n4 : b4 ≠ lb) (n5 : b5 ≠ lb) :
    Calls Try.prog 82 #[v, .func (.func 83) #[] #[.pointer (some ⟨b4, 0, none⟩), .pointer (some ⟨b5, 0, none⟩)]] W fun e W' => e = .returned (.bool false) ∧ LeftAt W' lb (left - (is.map (sizeT d)).sum) ∧ W.grownBy W' (some lb) := by
  have HI := Lib.hid ih
  have H := Lib.hid h
  have HL := Lib.hid hL
  have C4 := Lib.hid c4
  have C5 := Lib.hid c5
  clear ih h hL c4 c5
  go_enter Try.func82, Try.ntmps82
  go_wp2_with fail
  refine (indexFits_run d HI.out v is level lb left b4 b5 _ hn H.out h1 h5 HL.out hs h200 C4.out C5.out n4 n5).mono ?_
  rintro e W2 ⟨rfl, hl2, hg2⟩
  have HL2 := Lib.hid hl2
  have HG2 := Lib.hid hg2
  clear hl2 hg2
  go_wp2_with fail
  go_ret
  exact ⟨rfl, HL2.out, HG2.out⟩

theorem hls_keep {W W' : World} {lb d : Nat} {v : Value} {is : List Tree} (h : ListT (fun b => b ≠ lb) d W v is) (hg : W.grownBy W' (some lb)) : ListT (fun b => b ≠ lb) d W' v is :=
  h.both (fun k hk hP => hg.block k hk (by simpa using hP)) (fun _ _ h => h)

set_option maxRecDepth 100000 in
set_option maxHeartbeats 2000000 in
theorem fits_run : ∀ d, FitsC d := by
  intro d
  induction d with
  | zero => intro T v0 v1 v2 level lb left W h; exact h.elim
  | succ d ih =>
    intro T v0 v1 v2 level lb left W h h1 h5 hL hs h200
    obtain ⟨thr, ns, is⟩ := T
    obtain ⟨rfl, hn, hi, hN, hLs⟩ := h.parts
    obtain ⟨A, c, rfl⟩ := hN.slice
    obtain ⟨B, c', rfl⟩ := hLs.slice
    have hsz : sizeT (d + 1) (.mk thr ns is) = ns.length + is.length + (is.map (sizeT d)).sum := rfl
    rw [hsz] at hs ⊢
    have hlb := hL.lt
    have hb3 : Below W.heap.size W (((W.alloc (.cells #[.int .i64 thr, .slice A ns.length c, .slice B is.length c'] 49)).alloc (.cells #[.int .i64 (level : Int)] 3)).alloc (.cells #[.pointer (some ⟨lb, 0, none⟩)] 89)) := balloc (balloc (balloc (bref _) _) _) _
    have k3 : (((W.alloc (.cells #[.int .i64 thr, .slice A ns.length c, .slice B is.length c'] 49)).alloc (.cells #[.int .i64 (level : Int)] 3)).alloc (.cells #[.pointer (some ⟨lb, 0, none⟩)] 89)).heap[W.heap.size]? = some (.cells #[.int .i64 thr, .slice A ns.length c, .slice B is.length c'] 49 (0, 0)) := alloc_on (alloc_on (alloc_at rfl))
    have k4 : (((W.alloc (.cells #[.int .i64 thr, .slice A ns.length c, .slice B is.length c'] 49)).alloc (.cells #[.int .i64 (level : Int)] 3)).alloc (.cells #[.pointer (some ⟨lb, 0, none⟩)] 89)).heap[W.heap.size + 1]? = some (.cells #[.int .i64 (level : Int)] 3 (0, 0)) := alloc_on (alloc_at (alloc_sz _ _))
    have k5 : (((W.alloc (.cells #[.int .i64 thr, .slice A ns.length c, .slice B is.length c'] 49)).alloc (.cells #[.int .i64 (level : Int)] 3)).alloc (.cells #[.pointer (some ⟨lb, 0, none⟩)] 89)).heap[W.heap.size + 2]? = some (.cells #[.pointer (some ⟨lb, 0, none⟩)] 89 (0, 0)) := alloc_at (by rw [alloc_sz, alloc_sz])
    have HI := Lib.hid ih
    have HB := Lib.hid hb3
    have K3 := Lib.hid k3
    have K4 := Lib.hid k4
    have K5 := Lib.hid k5
    have HL := Lib.hid (hL.below hb3)
    have HLS := Lib.hid (hLs.below hb3)
    clear ih h hL hN hLs hb3 k3 k4 k5
    go_enter Try.func75, Try.ntmps75
    go_upto_region 1 with fail
    generalize (((W.alloc (.cells #[.int .i64 thr, .slice A ns.length c, .slice B is.length c'] 49)).alloc (.cells #[.int .i64 (level : Int)] 3)).alloc (.cells #[.pointer (some ⟨lb, 0, none⟩)] 89)) = W3 at *
    generalize hg : W.heap.size = g at *
    have HG := Lib.hid hg
    clear hg
    have c0 : W3.cell? ⟨g, 0, none⟩ = some (.int .i64 thr) := cell_of_row _ _ 0 _ _ (0, 0) K3.out
    have c1 : W3.cell? ⟨g, 1, none⟩ = some (.slice A ns.length c) := cell_of_row _ _ 1 _ _ (0, 0) K3.out
    have c2 : W3.cell? ⟨g, 2, none⟩ = some (.slice B is.length c') := cell_of_row _ _ 2 _ _ (0, 0) K3.out
    have c4 : W3.cell? ⟨g + 1, 0, none⟩ = some (.int .i64 (level : Int)) := cell_of_row _ _ 0 _ _ (0, 0) K4.out
    have c5 : W3.cell? ⟨g + 2, 0, none⟩ = some (.pointer (some ⟨lb, 0, none⟩)) := cell_of_row _ _ 0 _ _ (0, 0) K5.out
    have c6 := HL.out.c
    have f6 := HL.out.f
    have w1 : IntKind.i64.wrap ((ns.length : Int) + (is.length : Int)) = (ns.length : Int) + (is.length : Int) := IntWalk.i64_in _ (by omega)
    have w2 : IntKind.i64.wrap ((left : Int) - ((ns.length : Int) + (is.length : Int))) = ((left - (ns.length + is.length) : Nat) : Int) := by
      rw [IntWalk.i64_in _ (by omega)]; omega
    go_wp2_with fail
    go_region
    have hG4 : W3.grownBy (W3.setCell ⟨lb, 0, none⟩ (.int .i64 ((left - (ns.length + is.length) : Nat) : Int))).drew (some lb) := gdrew (grown_at (World.grownBy.refl _ _) 0 _)
    have hL4 : LeftAt (W3.setCell ⟨lb, 0, none⟩ (.int .i64 ((left - (ns.length + is.length) : Nat) : Int))).drew lb (left - (ns.length + is.length)) := HL.out.set _
    generalize (W3.setCell ⟨lb, 0, none⟩ (.int .i64 ((left - (ns.length + is.length) : Nat) : Int))).drew = W4 at *
    have l3 := cell_lt c2
    have l4 := cell_lt c4
    have l5 := cell_lt c5
    have e2 := (World.cell?_of_block (hG4.block g l3 (by simp; omega))).trans c2
    have e4 := (World.cell?_of_block (hG4.block (g + 1) l4 (by simp; omega))).trans c4
    have e5 : W4.cell? ⟨g + 1 + 1, 0, none⟩ = some (.pointer (some ⟨lb, 0, none⟩)) := (World.cell?_of_block (hG4.block (g + 2) l5 (by simp; omega))).trans c5
    have e6 := hL4.c
    have HLS4 := Lib.hid (hls_keep HLS.out hG4)
    have HG4 := Lib.hid hG4
    have HL4 := Lib.hid hL4
    have E4 := Lib.hid e4
    have E5 := Lib.hid e5
    have hnl : ¬ ((left - (ns.length + is.length) : Nat) : Int) < 0 := by omega
    have hlv : ¬ (4 : Int) < (level : Int) := by omega
    clear hG4 hL4 c0 c1 c2 c4 c5 c6 f6 w1 w2
    go_wp2_with fail
    refine (containsFits_run d HI.out _ is level lb _ (g + 1) (g + 1 + 1) _ hi HLS4.out h1 (by omega) HL4.out (by omega) (by omega) E4.out E5.out (by omega) (by omega)).mono ?_
    rintro e W5 ⟨rfl, hl5, hg5⟩
    have HL5 := Lib.hid hl5
    have HG5 := Lib.hid hg5
    clear hl5 hg5
    go_wp2_with fail
    go_ret
    refine ⟨rfl, ?_, ?_⟩
    · have h1 := HL5.out
      rwa [show left - (ns.length + is.length) - (is.map (sizeT d)).sum = left - (ns.length + is.length + (is.map (sizeT d)).sum) by omega] at h1
    · have h1 := HB.out
      rw [← HG.out] at h1
      exact grown_trans (grown_below h1) (grown_trans HG4.out HG5.out)

end Go.Proofs.Ytfghnkgllmofgaa
