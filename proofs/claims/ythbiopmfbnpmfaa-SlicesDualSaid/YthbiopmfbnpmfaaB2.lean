/- What the laws of this seat share: part 2. -/
import Derived.Test.YthbiopmfbnpmfaaB1
import Derived.BigQuiet
import Derived.Deep.RegionHeld3

namespace Go.Proofs.Ythbiopmfbnpmfaa
set_option linter.unusedVariables false
set_option linter.unusedSimpArgs false
open Go.RowKit

/-- Block lb holds the number of entries that are left. -/
def LeftAt (w : World) (lb : Nat) (x : Nat) : Prop := w.heap[lb]? = some (.cells #[.int .i64 (x : Int)] 3 (0, 0))

theorem LeftAt.lt {w : World} {lb x : Nat} (h : LeftAt w lb x) : lb < w.heap.size := by
  rcases Nat.lt_or_ge lb w.heap.size with h1 | h1
  · exact h1
  · unfold LeftAt at h; rw [Array.getElem?_eq_none h1] at h; cases h

theorem LeftAt.c {w : World} {lb x : Nat} (h : LeftAt w lb x) : w.cell? ⟨lb, 0, none⟩ = some (.int .i64 (x : Int)) := cell_of_row _ _ 0 _ _ (0, 0) h

theorem LeftAt.f {w : World} {lb x : Nat} (h : LeftAt w lb x) : w.frozen? ⟨lb, 0, none⟩ = false := by
  unfold LeftAt at h
  simp [World.frozen?, h]

theorem LeftAt.keep {w w' : World} {lb x : Nat} (h : LeftAt w lb x) (hk : w'.heap[lb]? = w.heap[lb]?) : LeftAt w' lb x := hk.trans h

theorem LeftAt.below {w w' : World} {lb x : Nat} (h : LeftAt w lb x) (hb : Below w.heap.size w w') : LeftAt w' lb x := h.keep (hb.block _ h.lt)

theorem LeftAt.set {w : World} {lb x : Nat} (h : LeftAt w lb x) (y : Nat) : LeftAt (w.setCell ⟨lb, 0, none⟩ (.int .i64 (y : Int))) lb y := by
  unfold LeftAt at h ⊢
  simp [World.setCell, Array.getElem?_modify, h]

/-- What fits is to return. -/
def FitsC (d : Nat) : Prop := ∀ (T : Tree) (v0 v1 v2 : Value) (level lb left : Nat) (W : World), TAt (fun b => b ≠ lb) d W v0 v1 v2 T → 1 ≤ level → level + d ≤ 5 → LeftAt W lb left → sizeT d T ≤ left → left ≤ 200 →
  Calls Try.prog 33 #[.agg #[v0, v1, v2], .int .i64 (level : Int), .pointer (some ⟨lb, 0, none⟩)] W fun e W' => e = .returned (.bool true) ∧ LeftAt W' lb (left - sizeT d T) ∧ W.grownBy W' (some lb)

set_option maxHeartbeats 1000000 in
theorem fits1_run (d : Nat) (ih : FitsC d) (T : Tree) (v0 v1 v2 : Value) (level lb left b4 b5 : Nat) (W : World) (h : TAt (fun b => b ≠ lb) d W v0 v1 v2 T) (h1 : 1 ≤ level) (h5 : level + d ≤ 4) (hL : LeftAt W lb left) (hs : sizeT d T ≤ left) (h200 : left ≤ 200)
    (c4 : W.cell? ⟨b4, 0, none⟩ = some (.int .i64 (level : Int))) (c5 : W.cell? ⟨b5, 0, none⟩ = some (.pointer (some ⟨lb, 0, none⟩))) :
    Calls Try.prog 43 #[.agg #[v0, v1, v2], .pointer (some ⟨b4, 0, none⟩), .pointer (some ⟨b5, 0, none⟩)] W fun e W' => e = .returned (.bool false) ∧ LeftAt W' lb (left - sizeT d T) ∧ W.grownBy W' (some lb) := by
  obtain ⟨t', A', n', ca, B', m', cb, rfl, rfl, rfl⟩ := h.form
  have hT := Lib.hid (h.below (balloc (bref W) (.cells #[.int .i64 t', .slice A' n' ca, .slice B' m' cb] 27)))
  have HL := Lib.hid (hL.below (balloc (bref W) (.cells #[.int .i64 t', .slice A' n' ca, .slice B' m' cb] 27)))
  have HI := Lib.hid ih
  have k4 := cell_lt c4
  have k5 := cell_lt c5
  have HB := Lib.hid (grown_below (r := some lb) (balloc (bref W) (.cells #[.int .i64 t', .slice A' n' ca, .slice B' m' cb] 27)))
  clear h ih hL
  go_enter Try.func43, Try.ntmps43
  go_wp2_with fail
  refine (HI.out T _ _ _ (level + 1) lb left _ hT.out (by omega) (by omega) HL.out hs h200).mono ?_
  rintro e W2 ⟨rfl, hl2, hg2⟩
  have HL2 := Lib.hid hl2
  have HG2 := Lib.hid (grown_trans HB.out hg2)
  clear hl2 hg2
  go_wp2_with fail
  go_ret
  exact ⟨rfl, HL2.out, HG2.out⟩

theorem sum_map_take {α : Type} (f : α → Nat) {is : List α} {k : Nat} {T : α} (h : is[k]? = some T) : ((is.map f).take (k + 1)).sum = ((is.map f).take k).sum + f T := by
  rw [sum_take_succ (x := f T)]
  rw [List.getElem?_map, h]; rfl

set_option maxRecDepth 100000 in
set_option maxHeartbeats 2000000 in
theorem indexFits_run (d : Nat) (ih : FitsC d) (v : Value) (is : List Tree) (level lb left b4 b5 : Nat) (W : World) (hn : is.length ≤ 1000000) (h : ListT (fun b => b ≠ lb) d W v is) (h1 : 1 ≤ level) (h5 : level + d ≤ 4) (hL : LeftAt W lb left) (hs : (is.map (sizeT d)).sum ≤ left) (h200 : left ≤ 200)
    (c4 : W.cell? ⟨b4, 0, none⟩ = some (.int .i64 (level : Int))) (c5 : W.cell? ⟨b5, 0, none⟩ = some (.pointer (some ⟨lb, 0, none⟩))) (n4 : b4 ≠ lb) (n5 : b5 ≠ lb) :
    Calls Try.prog 51 #[v, .func (.func 43) #[] #[.pointer (some ⟨b4, 0, none⟩), .pointer (some ⟨b5, 0, none⟩)]] W fun e W' => e = .returned (.int .i64 (-1)) ∧ LeftAt W' lb (left - (is.map (sizeT d)).sum) ∧ W.grownBy W' (some lb) := by
  obtain ⟨A, c, rfl, h2⟩ := h
  have H2 := Lib.hid h2
  have HI := Lib.hid ih
  have HL := Lib.hid hL
  have k4 := cell_lt c4
  have k5 := cell_lt c5
  have C4 := Lib.hid c4
  have C5 := Lib.hid c5
  clear h2 ih hL c4 c5
  go_enter Try.func51, Try.ntmps51
  go_wp2_with fail
  go_loopw [8] (fun t wr => ∃ k : Nat, k ≤ is.length ∧ t = .int .i64 k ∧ Hid (LeftAt wr lb (left - ((is.map (sizeT d)).take k).sum)) ∧ Hid (W.grownBy wr (some lb))) (fun t _ => is.length - (intOf t).toNat)
  case atStart => exact ⟨0, by omega, rfl, Lib.hid (by simpa using HL.out), Lib.hid (World.grownBy.refl _ _)⟩
  case round =>
    obtain ⟨k, hk, rfl, hLk, hG⟩ := hrel
    by_cases hlt : k < is.length
    · obtain ⟨T, hT⟩ : ∃ T, is[k]? = some T := ⟨_, List.getElem?_eq_getElem hlt⟩
      obtain ⟨b, off, x0, x1, x2, rfl, hPb, e0, e1, e2, hTk⟩ := H2.out k T hT
      obtain ⟨t', A', n', ca, B', m', cb, rfl, rfl, rfl⟩ := hTk.form
      have hs1 := sum_map_take (sizeT d) hT
      have hs2 := sum_take_le (is.map (sizeT d)) (k + 1)
      have d0 := (World.cell?_of_block (hG.out.block b (cell_lt e0) (by simpa using hPb))).trans e0
      have d1 := (World.cell?_of_block (hG.out.block b (cell_lt e1) (by simpa using hPb))).trans e1
      have d2 := (World.cell?_of_block (hG.out.block b (cell_lt e2) (by simpa using hPb))).trans e2
      have hTr := Lib.hid (TAt.keep (fun q hq hP => hG.out.block q hq (by simpa using hP)) hTk)
      have d4 := Lib.hid ((World.cell?_of_block (hG.out.block b4 k4 (by simpa using n4))).trans C4.out)
      have d5 := Lib.hid ((World.cell?_of_block (hG.out.block b5 k5 (by simpa using n5))).trans C5.out)
      have hle : sizeT d T ≤ left - ((is.map (sizeT d)).take k).sum := by omega
      have hle2 : left - ((is.map (sizeT d)).take k).sum ≤ 200 := by omega
      have HS := Lib.hid (show left - ((is.map (sizeT d)).take k).sum - sizeT d T = left - ((is.map (sizeT d)).take (k + 1)).sum by omega)
      clear e0 e1 e2 hTk hT hs1 hs2 hPb
      go_wp2_with fail
      refine (fits1_run d HI.out T _ _ _ level lb _ b4 b5 _ hTr.out h1 h5 hLk.out hle hle2 d4.out d5.out).mono ?_
      rintro e W2 ⟨rfl, hl2, hg2⟩
      rw [HS.out] at hl2
      have HL2 := Lib.hid hl2
      have HG2 := Lib.hid (grown_trans hG.out hg2)
      clear hl2 hg2
      go_wp2_with fail
      go_roundw
      case rel => exact ⟨k + 1, by omega, by go_num, HL2, HG2⟩
      case measure => simp [intOf]; omega
    · obtain rfl : k = is.length := by omega
      have hfull : ((is.map (sizeT d)).take is.length) = is.map (sizeT d) := by
        rw [show is.length = (is.map (sizeT d)).length by simp, List.take_length]
      rw [hfull] at hLk
      clear hfull
      go_wp2_with fail
      go_ret
      exact ⟨rfl, hLk.out, hG.out⟩

set_option maxHeartbeats 1000000 in
theorem containsFits_run (d : Nat) (ih : FitsC d) (v : Value) (is : List Tree) (level lb left b4 b5 : Nat) (W : World) (hn : is.length ≤ 1000000) (h : ListT (fun b => b ≠ lb) d W v is) (h1 : 1 ≤ level) (h5 : level + d ≤ 4) (hL : LeftAt W lb left) (hs : (is.map (sizeT d)).sum ≤ left) (h200 : left ≤ 200)
    (c4 : W.cell? ⟨b4, 0, none⟩ = some (.int .i64 (level : Int))) (c5 : W.cell? ⟨b5, 0, none⟩ = some (.pointer (some ⟨lb, 0, none⟩))) (n4 : b4 ≠ lb) (n5 : b5 ≠ lb) :
    Calls Try.prog 42 #[v, .func (.func 43) #[] #[.pointer (some ⟨b4, 0, none⟩), .pointer (some ⟨b5, 0, none⟩)]] W fun e W' => e = .returned (.bool false) ∧ LeftAt W' lb (left - (is.map (sizeT d)).sum) ∧ W.grownBy W' (some lb) := by
  have HI := Lib.hid ih
  have H := Lib.hid h
  have HL := Lib.hid hL
  have C4 := Lib.hid c4
  have C5 := Lib.hid c5
  clear ih h hL c4 c5
  go_enter Try.func42, Try.ntmps42
  go_wp2_with fail
  refine (indexFits_run d HI.out v is level lb left b4 b5 _ hn H.out h1 h5 HL.out hs h200 C4.out C5.out n4 n5).mono ?_
  rintro e W2 ⟨rfl, hl2, hg2⟩
  have HL2 := Lib.hid hl2
  have HG2 := Lib.hid hg2
  clear hl2 hg2
  go_wp2_with fail
  go_ret
  exact ⟨rfl, HL2.out, HG2.out⟩

theorem hls_keep {W W' : World} {lb d : Nat} {v : Value} {is : List Tree} (h : ListT (fun b => b ≠ lb) d W v is) (hg : W.grownBy W' (some lb)) : ListT (fun b => b ≠ lb) d W' v is :=
  h.both (fun k hk hP => hg.block k hk (by simpa using hP)) (fun _ _ h => h)

set_option maxRecDepth 100000 in
set_option maxHeartbeats 2000000 in
theorem fits_run : ∀ d, FitsC d := by
  intro d
  induction d with
  | zero => intro T v0 v1 v2 level lb left W h; exact h.elim
  | succ d ih =>
    intro T v0 v1 v2 level lb left W h h1 h5 hL hs h200
    obtain ⟨thr, ns, is⟩ := T
    obtain ⟨rfl, hn, hi, hN, hLs⟩ := h.parts
    obtain ⟨A, c, rfl⟩ := hN.slice
    obtain ⟨B, c', rfl⟩ := hLs.slice
    have hsz : sizeT (d + 1) (.mk thr ns is) = ns.length + is.length + (is.map (sizeT d)).sum := rfl
    rw [hsz] at hs ⊢
    have hlb := hL.lt
    have hb3 : Below W.heap.size W (((W.alloc (.cells #[.int .i64 thr, .slice A ns.length c, .slice B is.length c'] 27)).alloc (.cells #[.int .i64 (level : Int)] 3)).alloc (.cells #[.pointer (some ⟨lb, 0, none⟩)] 50)) := balloc (balloc (balloc (bref _) _) _) _
    have k3 : (((W.alloc (.cells #[.int .i64 thr, .slice A ns.length c, .slice B is.length c'] 27)).alloc (.cells #[.int .i64 (level : Int)] 3)).alloc (.cells #[.pointer (some ⟨lb, 0, none⟩)] 50)).heap[W.heap.size]? = some (.cells #[.int .i64 thr, .slice A ns.length c, .slice B is.length c'] 27 (0, 0)) := alloc_on (alloc_on (alloc_at rfl))
    have k4 : (((W.alloc (.cells #[.int .i64 thr, .slice A ns.length c, .slice B is.length c'] 27)).alloc (.cells #[.int .i64 (level : Int)] 3)).alloc (.cells #[.pointer (some ⟨lb, 0, none⟩)] 50)).heap[W.heap.size + 1]? = some (.cells #[.int .i64 (level : Int)] 3 (0, 0)) := alloc_on (alloc_at (alloc_sz _ _))
    have k5 : (((W.alloc (.cells #[.int .i64 thr, .slice A ns.length c, .slice B is.length c'] 27)).alloc (.cells #[.int .i64 (level : Int)] 3)).alloc (.cells #[.pointer (some ⟨lb, 0, none⟩)] 50)).heap[W.heap.size + 2]? = some (.cells #[.pointer (some ⟨lb, 0, none⟩)] 50 (0, 0)) := alloc_at (by rw [alloc_sz, alloc_sz])
    have HI := Lib.hid ih
    have HB := Lib.hid hb3
    have K3 := Lib.hid k3
    have K4 := Lib.hid k4
    have K5 := Lib.hid k5
    have HL := Lib.hid (hL.below hb3)
    have HLS := Lib.hid (hLs.below hb3)
    clear ih h hL hN hLs hb3 k3 k4 k5
    go_enter Try.func33, Try.ntmps33
    go_upto_region 1 with fail
    generalize (((W.alloc (.cells #[.int .i64 thr, .slice A ns.length c, .slice B is.length c'] 27)).alloc (.cells #[.int .i64 (level : Int)] 3)).alloc (.cells #[.pointer (some ⟨lb, 0, none⟩)] 50)) = W3 at *
    generalize hg : W.heap.size = g at *
    have HG := Lib.hid hg
    clear hg
    have c0 : W3.cell? ⟨g, 0, none⟩ = some (.int .i64 thr) := cell_of_row _ _ 0 _ _ (0, 0) K3.out
    have c1 : W3.cell? ⟨g, 1, none⟩ = some (.slice A ns.length c) := cell_of_row _ _ 1 _ _ (0, 0) K3.out
    have c2 : W3.cell? ⟨g, 2, none⟩ = some (.slice B is.length c') := cell_of_row _ _ 2 _ _ (0, 0) K3.out
    have c4 : W3.cell? ⟨g + 1, 0, none⟩ = some (.int .i64 (level : Int)) := cell_of_row _ _ 0 _ _ (0, 0) K4.out
    have c5 : W3.cell? ⟨g + 2, 0, none⟩ = some (.pointer (some ⟨lb, 0, none⟩)) := cell_of_row _ _ 0 _ _ (0, 0) K5.out
    have c6 := HL.out.c
    have f6 := HL.out.f
    have w1 : IntKind.i64.wrap ((ns.length : Int) + (is.length : Int)) = (ns.length : Int) + (is.length : Int) := IntWalk.i64_in _ (by omega)
    have w2 : IntKind.i64.wrap ((left : Int) - ((ns.length : Int) + (is.length : Int))) = ((left - (ns.length + is.length) : Nat) : Int) := by
      rw [IntWalk.i64_in _ (by omega)]; omega
    go_wp2_with fail
    go_region
    have hG4 : W3.grownBy (W3.setCell ⟨lb, 0, none⟩ (.int .i64 ((left - (ns.length + is.length) : Nat) : Int))).drew (some lb) := gdrew (grown_at (World.grownBy.refl _ _) 0 _)
    have hL4 : LeftAt (W3.setCell ⟨lb, 0, none⟩ (.int .i64 ((left - (ns.length + is.length) : Nat) : Int))).drew lb (left - (ns.length + is.length)) := HL.out.set _
    generalize (W3.setCell ⟨lb, 0, none⟩ (.int .i64 ((left - (ns.length + is.length) : Nat) : Int))).drew = W4 at *
    have l3 := cell_lt c2
    have l4 := cell_lt c4
    have l5 := cell_lt c5
    have e2 := (World.cell?_of_block (hG4.block g l3 (by simp; omega))).trans c2
    have e4 := (World.cell?_of_block (hG4.block (g + 1) l4 (by simp; omega))).trans c4
    have e5 : W4.cell? ⟨g + 1 + 1, 0, none⟩ = some (.pointer (some ⟨lb, 0, none⟩)) := (World.cell?_of_block (hG4.block (g + 2) l5 (by simp; omega))).trans c5
    have e6 := hL4.c
    have HLS4 := Lib.hid (hls_keep HLS.out hG4)
    have HG4 := Lib.hid hG4
    have HL4 := Lib.hid hL4
    have E4 := Lib.hid e4
    have E5 := Lib.hid e5
    have hnl : ¬ ((left - (ns.length + is.length) : Nat) : Int) < 0 := by omega
    have hlv : ¬ (4 : Int) < (level : Int) := by omega
    clear hG4 hL4 c0 c1 c2 c4 c5 c6 f6 w1 w2
    go_wp2_with fail
    refine (containsFits_run d HI.out _ is level lb _ (g + 1) (g + 1 + 1) _ hi HLS4.out h1 (by omega) HL4.out (by omega) (by omega) E4.out E5.out (by omega) (by omega)).mono ?_
    rintro e W5 ⟨rfl, hl5, hg5⟩
    have HL5 := Lib.hid hl5
    have HG5 := Lib.hid hg5
    clear hl5 hg5
    go_wp2_with fail
    go_ret
    refine ⟨rfl, ?_, ?_⟩
    · have h1 := HL5.out
      rwa [show left - (ns.length + is.length) - (is.map (sizeT d)).sum = left - (ns.length + is.length + (is.map (sizeT d)).sum) by omega] at h1
    · have h1 := HB.out
      rw [← HG.out] at h1
      exact grown_trans (grown_below h1) (grown_trans HG4.out HG5.out)

end Go.Proofs.Ythbiopmfbnpmfaa

namespace Go.Proofs.Ythbiopmfbnpmfaa
set_option linter.unusedVariables false
set_option linter.unusedSimpArgs false
open Go.RowKit

set_option maxHeartbeats 400000 in
theorem right1_run (x : Int) (w : World) (h0 : 0 ≤ x) (h1 : x < 10) :
    Calls Try.prog 44 #[.int .i64 x] w fun e w' => e = .returned (.bool false) ∧ w = w' := by
  have e0 : decide (x < 0) = false := by simpa using h0
  have e1 : decide (10 ≤ x) = false := by simpa using h1
  go_enter Try.func44, Try.ntmps44
  go_wp2
  go_ret
  exact ⟨rfl, rfl⟩

set_option maxHeartbeats 1000000 in
theorem indexRight_run (A : Option Addr) (c : Nat) (ns : List Int) (w : World) (hn : ns.length ≤ 1000000) (hr : InR ns)
    (h : ∀ k, k < ns.length → ∃ b off, A = some ⟨b, off, none⟩ ∧ w.cell? ⟨b, off + k, none⟩ = some (.int .i64 (ns.getD k 0))) :
    Calls Try.prog 48 #[.slice A ns.length c, .func (.func 44) #[] #[]] w fun e w' => e = .returned (.int .i64 (-1)) ∧ w = w' := by
  have H := Lib.hid h
  have HR := Lib.hid hr
  clear h hr
  go_enter Try.func48, Try.ntmps48
  go_wp2_with fail
  go_loop [8] (fun t => ∃ k : Nat, k ≤ ns.length ∧ t = .int .i64 k) (fun t => ns.length - (intOf t).toNat)
  case atStart => exact ⟨0, by omega, rfl⟩
  case round =>
    obtain ⟨k, hk, rfl⟩ := hrel
    by_cases hlt : k < ns.length
    · obtain ⟨b, off, rfl, hc⟩ := H.out k hlt
      have hx0 : ns[k]? = some (ns.getD k 0) := by rw [List.getD_eq_getElem?_getD, List.getElem?_eq_getElem hlt]; rfl
      obtain ⟨x0, x1⟩ := HR.out _ (List.mem_of_getElem? hx0)
      clear hx0
      generalize ns.getD k 0 = x at *
      go_wp2_with fail
      refine (right1_run x _ x0 x1).mono ?_
      rintro e w2 ⟨rfl, rfl⟩
      go_wp2_with fail
      go_round
      case rel => exact ⟨k + 1, by omega, by go_num⟩
      case measure => simp [intOf]; omega
    · obtain rfl : k = ns.length := by omega
      go_wp2_with fail
      go_ret
      exact ⟨rfl, rfl⟩

set_option maxHeartbeats 1000000 in
theorem containsRight_run (A : Option Addr) (c : Nat) (ns : List Int) (w : World) (hn : ns.length ≤ 1000000) (hr : InR ns)
    (h : ∀ k, k < ns.length → ∃ b off, A = some ⟨b, off, none⟩ ∧ w.cell? ⟨b, off + k, none⟩ = some (.int .i64 (ns.getD k 0))) :
    Calls Try.prog 36 #[.slice A ns.length c, .func (.func 44) #[] #[]] w fun e w' => e = .returned (.bool false) ∧ w = w' := by
  have H := Lib.hid h
  clear h
  go_enter Try.func36, Try.ntmps36
  go_wp2_with fail
  refine (indexRight_run A c ns _ hn hr H.out).mono ?_
  rintro e w2 ⟨rfl, rfl⟩
  go_wp2_with fail
  go_ret
  exact ⟨rfl, rfl⟩

set_option maxHeartbeats 2000000 in
theorem pof_run (A : Option Addr) (c : Nat) (ns : List Int) (w : World) (hn : ns.length ≤ 1000000) (hr : InR ns) (hd : ns.Nodup)
    (h : ∀ k, k < ns.length → ∃ b off, A = some ⟨b, off, none⟩ ∧ w.cell? ⟨b, off + k, none⟩ = some (.int .i64 (ns.getD k 0))) :
    Calls Try.prog 45 #[.slice A ns.length c] w fun e w' => e = .returned (.tuple #[.int .i64 (nodesS ns), .int .i64 0]) ∧ w = w' := by
  have H := Lib.hid h
  have HR := Lib.hid hr
  have HD := Lib.hid hd
  clear h hr hd
  go_enter Try.func45, Try.ntmps45
  go_wp2_with fail
  go_loop [4, 9] (fun u t => ∃ (k s : Nat), k ≤ ns.length ∧ t = .int .i64 k ∧ u = .int .i64 (s : Int) ∧ Hid (s = (ns.take k).foldl bitS 0)) (fun _ t => ns.length - (intOf t).toNat)
  case atStart => exact ⟨0, 0, by omega, rfl, rfl, Lib.hid (by simp)⟩
  case round =>
    obtain ⟨k, s, hk, rfl, rfl, hs⟩ := hrel
    have hs1 : s < 1024 := by rw [hs.out]; exact foldBit_lt _ 0 (by omega)
    by_cases hlt : k < ns.length
    · obtain ⟨b, off, rfl, hc⟩ := H.out k hlt
      have hx0 : ns[k]? = some (ns.getD k 0) := by rw [List.getD_eq_getElem?_getD, List.getElem?_eq_getElem hlt]; rfl
      have hs' := foldl_take_succ bitS 0 hx0
      rw [← hs.out] at hs'
      have hin := HR.out _ (List.mem_of_getElem? hx0)
      have hnot : hasB (s : Int) (ns.getD k 0) = false := by
        unfold hasB
        rw [hs.out]
        have : ((List.foldl bitS 0 (List.take k ns)).testBit (ns.getD k 0).toNat) = false := by
          rw [foldBit_bit _ 0 _ (fun x hx => HR.out x (List.mem_of_mem_take hx))]
          have e : (((ns.getD k 0).toNat : Nat) : Int) = ns.getD k 0 := by omega
          rw [e]
          simp only [Nat.zero_testBit, Bool.false_or, decide_eq_false_iff_not]
          intro hmem
          obtain ⟨i, hi, hie⟩ := List.getElem_of_mem hmem
          rw [List.getElem_take] at hie
          have hik : i < k := by simp at hi; omega
          have h2 := List.pairwise_iff_getElem.1 (List.nodup_iff_pairwise_ne.1 HD.out) i k (by omega) hlt hik
          apply h2
          rw [hie, List.getD_eq_getElem?_getD, List.getElem?_eq_getElem hlt]; rfl
        rw [Int.toNat_natCast, this]
        simp
      generalize ns.getD k 0 = x at *
      obtain ⟨h0, h10⟩ := hin
      obtain ⟨K, rfl⟩ := Int.eq_ofNat_of_zero_le h0
      have hK : K < 10 := by omega
      have HS := Lib.hid (show (ns.take (k + 1)).foldl bitS 0 = s ||| 2 ^ K by rw [hs']; unfold bitS; rw [if_pos ⟨h0, h10⟩]; rfl)
      have HOR := Lib.hid (shl_or s K (by omega) hK)
      have HN := Lib.hid hnot
      clear hs' hx0 hnot
      have HNB := Lib.hid (show nodeB (K : Int) = true by rw [nodeB_iff]; omega)
      go_wp2_with fail
      refine (isNode_run _ _).mono ?_
      rintro e w2 ⟨rfl, rfl⟩
      rw [HNB.out]
      go_wp2_with fail
      refine (has_run _ _ _).mono ?_
      rintro e w2 ⟨rfl, rfl⟩
      rw [HN.out]
      go_wp2_with fail
      rw [HOR.out]
      go_round
      case rel => exact ⟨k + 1, _, by omega, by go_num, rfl, Lib.hid HS.out.symm⟩
      case measure => simp [intOf]; omega
    · obtain rfl : k = ns.length := by omega
      have hN := Lib.hid (show s = nodesS ns by rw [hs.out, List.take_length]; rfl)
      go_wp2_with fail
      go_ret2
      exact ⟨by rw [hN.out]; rfl, rfl⟩

set_option maxHeartbeats 4000000 in
theorem right_run (P : Nat → Prop) (n : Int) (hn10 : n ≤ 10) : ∀ (d : Nat) (T : Tree) (v0 v1 v2 : Value) (w : World), TAt P d w v0 v1 v2 T → WF n d T →
    Calls Try.prog 34 #[.agg #[v0, v1, v2]] w fun e w' => e = .returned (.int .i64 0) ∧ Below w.heap.size w w' := by
  intro d
  induction d with
  | zero => intro T v0 v1 v2 w h; exact h.elim
  | succ d ih =>
    intro T v0 v1 v2 w h hW
    obtain ⟨thr, ns, is⟩ := T
    obtain ⟨A, c, B, c', rfl, rfl, rfl, hn, hi, hbx⟩ := h.boxed
    have hinr := hW.inR hn10
    obtain ⟨ht0, ht1, hl5, hl3, hr, hnd, hWi⟩ := hW
    have HBX := Lib.hid hbx
    have HB1 := Lib.hid (balloc (bref w) (.cells #[.int .i64 thr, .slice A ns.length c, .slice B is.length c'] 27))
    have IH := Lib.hid ih
    have HIN := Lib.hid hinr
    have HND := Lib.hid hnd
    have HWI := Lib.hid hWi
    have hthr : thr ≤ (ns.length : Int) + (is.length : Int) := by push_cast at ht1; exact ht1
    clear h hbx ih hr hnd hWi hinr ht1
    go_enter Try.func34, Try.ntmps34
    go_upto_region 1 with fail
    generalize w.alloc (.cells #[.int .i64 thr, .slice A ns.length c, .slice B is.length c'] 27) = W1 at *
    generalize hg : w.heap.size = g at *
    have hgw := Lib.hid hg
    clear hg
    have c0 := HBX.out.c0
    have c1 := HBX.out.c1
    have c2 := HBX.out.c2
    go_wp2_with fail
    refine (containsRight_run A c ns _ hn HIN.out HBX.out.nodes).mono ?_
    rintro e w2 ⟨rfl, rfl⟩
    go_wp2_with fail
    refine (pof_run A c ns _ hn HIN.out HND.out HBX.out.nodes).mono ?_
    rintro e w2 ⟨rfl, rfl⟩
    generalize nodesS ns = sns at *
    go_wp2_with fail
    go_loopw [38] (fun t wr => ∃ (k : Nat), k ≤ is.length ∧ t = .int .i64 k ∧ Hid (Below W1.heap.size W1 wr)) (fun t _ => is.length - (intOf t).toNat)
    case atStart => exact ⟨0, by omega, rfl, Lib.hid (bref _)⟩
    case round =>
      obtain ⟨k, hk, rfl, hBr⟩ := hrel
      by_cases hlt : k < is.length
      · obtain ⟨T, hT⟩ : ∃ T, is[k]? = some T := ⟨_, List.getElem?_eq_getElem hlt⟩
        obtain ⟨b, off, t', A', n', ca, B', m', cb, rfl, hlb, e0, e1, e2, hTk⟩ := (HBX.out.below hBr.out).inner k T hT
        have hWT := Lib.hid (HWI.out T (List.mem_of_getElem? hT))
        have hTr := Lib.hid (hTk.below (balloc (bref wr) (.cells #[.int .i64 t', .slice A' n' ca, .slice B' m' cb] 27)))
        have hBa := Lib.hid (balloc hBr.out (.cells #[.int .i64 t', .slice A' n' ca, .slice B' m' cb] 27))
        clear hT hTk
        go_wp2_with fail
        refine (IH.out T _ _ _ _ hTr.out hWT.out).mono ?_
        rintro e w2 ⟨rfl, hb2⟩
        have hB2 := Lib.hid (bstep hBa.out hb2)
        clear hb2
        go_wp2_with fail
        go_roundw
        case rel => exact ⟨k + 1, by omega, by go_num, hB2⟩
        case measure => simp [intOf]; omega
      · obtain rfl : k = is.length := by omega
        go_wp2_with fail
        go_ret
        exact ⟨rfl, by have h1 := HB1.out; rw [← hgw.out] at h1; exact bstep h1 hBr.out⟩


set_option maxHeartbeats 2000000 in
theorem pvalid_run (n : Int) (hn10 : n ≤ 10) (d : Nat) (hd : d ≤ 4) (P : Nat → Prop) (T : Tree) (v0 v1 v2 : Value) (w : World) (h : TAt P d w v0 v1 v2 T) (hW : WF n d T) (hs : sizeT d T ≤ 200) :
    Calls Try.prog 18 #[.agg #[v0, v1, v2]] w fun e w' => e = .returned (.int .i64 0) ∧ Below w.heap.size w w' := by
  obtain ⟨t', A', n', ca, B', m', cb, rfl, rfl, rfl⟩ := h.form
  have h' : TAt (fun b => b < w.heap.size) d w (.int .i64 t') (.slice A' n' ca) (.slice B' m' cb) T := h.imp (fun k hk _ => hk)
  have hb2 : Below w.heap.size w ((w.alloc (.cells #[.int .i64 t', .slice A' n' ca, .slice B' m' cb] 27)).alloc (.cells #[.int .i64 200] 3)) := balloc (balloc (bref w) _) _
  have k0 : ((w.alloc (.cells #[.int .i64 t', .slice A' n' ca, .slice B' m' cb] 27)).alloc (.cells #[.int .i64 200] 3)).heap[w.heap.size]? = some (.cells #[.int .i64 t', .slice A' n' ca, .slice B' m' cb] 27 (0, 0)) := alloc_on (alloc_at rfl)
  have k1 : ((w.alloc (.cells #[.int .i64 t', .slice A' n' ca, .slice B' m' cb] 27)).alloc (.cells #[.int .i64 200] 3)).heap[w.heap.size + 1]? = some (.cells #[.int .i64 200] 3 (0, 0)) := alloc_at (alloc_sz _ _)
  have HT := Lib.hid ((h'.below hb2).imp (Q := fun b => b ≠ w.heap.size + 1) (fun k hk hP => by omega))
  have HW := Lib.hid hW
  have HB2 := Lib.hid hb2
  have K0 := Lib.hid k0
  have HL : Hid (LeftAt ((w.alloc (.cells #[.int .i64 t', .slice A' n' ca, .slice B' m' cb] 27)).alloc (.cells #[.int .i64 200] 3)) (w.heap.size + 1) 200) := Lib.hid k1
  clear h h' hW hb2 k0 k1
  go_enter Try.func18, Try.ntmps18
  go_upto_region 2 with fail
  generalize ((w.alloc (.cells #[.int .i64 t', .slice A' n' ca, .slice B' m' cb] 27)).alloc (.cells #[.int .i64 200] 3)) = W2 at *
  generalize hg : w.heap.size = g at *
  have HG := Lib.hid hg
  clear hg
  have c0 : W2.cell? ⟨g, 0, none⟩ = some (.int .i64 t') := cell_of_row _ _ 0 _ _ (0, 0) K0.out
  have c1 : W2.cell? ⟨g, 1, none⟩ = some (.slice A' n' ca) := cell_of_row _ _ 1 _ _ (0, 0) K0.out
  have c2 : W2.cell? ⟨g, 2, none⟩ = some (.slice B' m' cb) := cell_of_row _ _ 2 _ _ (0, 0) K0.out
  have hgl := cell_lt c0
  go_wp2_with fail
  refine (fits_run d T _ _ _ 1 (g + 1) 200 _ HT.out (by omega) (by omega) HL.out hs (by omega)).mono ?_
  rintro e W4 ⟨rfl, _, hg4⟩
  have d0 : W4.cell? ⟨g, 0, none⟩ = some (.int .i64 t') := (World.cell?_of_block (hg4.block g hgl (by simp))).trans c0
  have d1 : W4.cell? ⟨g, 1, none⟩ = some (.slice A' n' ca) := (World.cell?_of_block (hg4.block g hgl (by simp))).trans c1
  have d2 : W4.cell? ⟨g, 2, none⟩ = some (.slice B' m' cb) := (World.cell?_of_block (hg4.block g hgl (by simp))).trans c2
  have HT4 := Lib.hid (HT.out.keep (fun k hk hP => hg4.block k hk (by simpa using hP)))
  have HB4 : Hid (Below w.heap.size w W4) := Lib.hid (by
    have h1 := HG.out
    have h2 := HB2.out
    rw [← h1] at h2
    exact h2.grown hg4 h2.size (fun k hk => by cases hk; omega))
  clear hg4 c0 c1 c2
  go_wp2_with fail
  refine (right_run _ n hn10 d T _ _ _ _ HT4.out HW.out).mono ?_
  rintro e W5 ⟨rfl, hb5⟩
  have HB5 := Lib.hid (bstep HB4.out hb5)
  clear hb5
  go_wp2_with fail
  go_ret
  exact ⟨rfl, by have h1 := HB5.out; exact h1⟩

end Go.Proofs.Ythbiopmfbnpmfaa

namespace Go.Proofs.Ythbiopmfbnpmfaa
set_option linter.unusedVariables false
set_option linter.unusedSimpArgs false
open Go.RowKit

end Go.Proofs.Ythbiopmfbnpmfaa

namespace Go.Proofs.Ythbiopmfbnpmfaa
set_option linter.unusedVariables false
set_option linter.unusedSimpArgs false
open Go.RowKit

theorem sizeT1_le {n : Int} {T : Tree} (h : WF n 1 T) : sizeT 1 T ≤ 10 := by
  obtain ⟨thr, ns, is⟩ := T
  obtain ⟨_, _, h1, h2, _, _, hi⟩ := h
  have : is = [] := by
    cases is with
    | nil => rfl
    | cons a l => exact (hi a (by simp)).elim
  subst this
  show ns.length + ([] : List Tree).length + (([] : List Tree).map (sizeT 0)).sum ≤ 10
  simp; omega

theorem sum_le_mul2 {l : List Nat} {b : Nat} (h : ∀ x ∈ l, x ≤ b) : l.sum ≤ l.length * b := by
  induction l with
  | nil => simp
  | cons a l ih =>
    have h1 := h a List.mem_cons_self
    have h2 := ih (fun x hx => h x (List.mem_cons_of_mem _ hx))
    rw [List.sum_cons, List.length_cons, Nat.add_mul]
    omega

theorem sizeT2_le {n : Int} {T : Tree} (h : WF n 2 T) : sizeT 2 T ≤ 200 := by
  obtain ⟨thr, ns, is⟩ := T
  obtain ⟨_, _, h1, h2, _, _, hi⟩ := h
  have h3 : (is.map (sizeT 1)).sum ≤ (is.map (sizeT 1)).length * 10 := sum_le_mul2 (fun x hx => by
    obtain ⟨T, hT, rfl⟩ := List.mem_map.1 hx
    exact sizeT1_le (hi T hT))
  rw [List.length_map] at h3
  show ns.length + is.length + (is.map (sizeT 1)).sum ≤ 200
  omega

theorem foldOr_bit' : ∀ (l : List Nat) (s K : Nat), (l.foldl (· ||| ·) s).testBit K = true → s.testBit K = true ∨ ∃ x ∈ l, x.testBit K = true
  | [], s, K, h => .inl h
  | x :: l, s, K, h => by
    rw [List.foldl_cons] at h
    rcases foldOr_bit' l _ K h with h1 | ⟨y, hy, h1⟩
    · rw [Nat.testBit_or, Bool.or_eq_true] at h1
      exact h1.elim .inl (fun h => .inr ⟨x, by simp, h⟩)
    · exact .inr ⟨y, by simp [hy], h1⟩

/-- The nodes of a well-formed trust are nodes. -/
theorem usesT_sub {n : Nat} (hn : n ≤ 10) : ∀ (d : Nat) (T : Tree), WF n d T → ∀ k, (usesT d T).testBit k = true → k < n
  | 0, T, h, _, _ => h.elim
  | d + 1, .mk thr ns is, h, k, hk => by
    obtain ⟨_, _, _, _, hr, _, hi⟩ := h
    rcases foldOr_bit' _ _ k hk with h1 | ⟨x, hx, h1⟩
    · rw [nodesS_bit k (fun x hx => by have := hr x hx; omega), decide_eq_true_eq] at h1
      have := hr _ h1
      omega
    · obtain ⟨T, hT, rfl⟩ := List.mem_map.1 hx
      exact usesT_sub hn d T (hi T hT) k h1

theorem shr_zero (U n : Nat) (h : ∀ k, U.testBit k = true → k < n) : (U : Int) / 2 ^ n = 0 := by
  have h1 : U < 2 ^ n := Nat.lt_pow_two_of_testBit U (fun i hi => by
    cases hb : U.testBit i
    · rfl
    · have := h i hb; omega)
  have e : ((U : Int) / 2 ^ n) = ((U / 2 ^ n : Nat) : Int) := by
    rw [Int.natCast_ediv, Int.natCast_pow]; rfl
  rw [e, Nat.div_eq_of_lt h1]; rfl

theorem MemsAt.up {P : Nat → Prop} {w : World} {d : Nat} {v : Value} {ms : List Mem} (h : MemsAt P d w v ms) : MemsAt P (d + 1) w v ms := by
  obtain ⟨A, c, h1, h2⟩ := h
  refine ⟨A, c, h1, fun k m hm => ?_⟩
  obtain ⟨b, off, x0, x1, x2, e0, e1, e2, e3, e4, e5, e6⟩ := h2 k m hm
  exact ⟨b, off, x0, x1, x2, e0, e1, e2, e3, e4, e5, e6.up⟩

end Go.Proofs.Ythbiopmfbnpmfaa

namespace Go.Proofs.Ythbiopmfbnpmfaa
set_option linter.unusedVariables false
set_option linter.unusedSimpArgs false
open Go.RowKit

theorem take_d {P : Program} {md : Region.Mode} {ops : Array Oper} {Q : Exit → Act → World → Prop} {S : World → Prop} {i : Nat} {oi : Oper} {v : Value} {fuel : Nat} {listed : Array Bool} {a : Act} {w : World} (d : Option Tmp) (hi : ops[i]? = some oi) (hd : oi.dst = d)
    (hs : Region.noSelect ops = true) (hf : Region.free md ops listed i = true) (hr : (Region.ready md ops listed).contains i = true)
    (hQ : ∀ c a w, Q (.panic c) (a.put d v) w → Q (.panic c) a w) (hy : YieldsIf P ops S oi v a) (hS : S w)
    (h : wpAnyH P md ops Q S fuel (listed.setIfInBounds i true) (a.put d v) w) : wpAnyH P md ops Q S (fuel + 1) listed a w := by
  subst hd
  exact wpAnyH_take hi hs hf hr hQ hy hS h

end Go.Proofs.Ythbiopmfbnpmfaa

namespace Go.Proofs.Ythbiopmfbnpmfaa
set_option linter.unusedVariables false
set_option linter.unusedSimpArgs false
open Go.RowKit

/-- f sets from s on. -/
def ordL (n : Nat) : Nat → Nat → List Nat
  | 0, _ => []
  | f + 1, s => s :: ordL n f (nextN n s)

theorem ordL_len (n : Nat) : ∀ (f s : Nat), (ordL n f s).length = f
  | 0, _ => rfl
  | f + 1, s => by show (ordL n f (nextN n s)).length + 1 = f + 1; rw [ordL_len]

theorem ordL_next (n : Nat) : ∀ (f s i t : Nat), (ordL n f s)[i]? = some t → i + 1 < f → (ordL n f s)[i + 1]? = some (nextN n t)
  | 0, _, _, _, _, h => by omega
  | f + 1, s, 0, t, h, hf => by
    obtain rfl : s = t := by simpa [ordL] using h
    obtain ⟨g, rfl⟩ : ∃ g, f = g + 1 := ⟨f - 1, by omega⟩
    rfl
  | f + 1, s, i + 1, t, h, hf => ordL_next n f (nextN n s) i t (by simpa [ordL] using h) (by omega)

/-- All sets of n nodes, in order. -/
def ordN (n : Nat) : List Nat := ordL n (2 ^ n) 0

def maskL (l : List Nat) : Nat := l.foldl (fun a t => a ||| 2 ^ t) 0

theorem maskL_bit : ∀ (l : List Nat) (a t : Nat), (l.foldl (fun a t => a ||| 2 ^ t) a).testBit t = true → a.testBit t = true ∨ t ∈ l
  | [], a, t, h => .inl h
  | x :: l, a, t, h => by
    rcases maskL_bit l _ t h with h1 | h1
    · rw [Nat.testBit_or, Bool.or_eq_true] at h1
      rcases h1 with h1 | h1
      · exact .inl h1
      · rw [Nat.testBit_two_pow] at h1
        exact .inr (by have : x = t := by simpa using h1
                       rw [this]; exact List.mem_cons_self)
    · exact .inr (List.mem_cons_of_mem _ h1)

set_option maxRecDepth 100000 in
theorem ord_mask (n : Nat) (hn : n ≤ 10) : maskL (ordN n) = 2 ^ (2 ^ n) - 1 := by
  have all : ∀ n : Fin 11, maskL (ordN n.val) = 2 ^ (2 ^ n.val) - 1 := by decide +kernel
  exact all ⟨n, by omega⟩

theorem ord_mem (n : Nat) (hn : n ≤ 10) (t : Nat) (ht : t < 2 ^ n) : t ∈ ordN n := by
  have h : (maskL (ordN n)).testBit t = true := by rw [ord_mask n hn, Nat.testBit_two_pow_sub_one, decide_eq_true ht]
  rcases maskL_bit _ _ _ h with h1 | h1
  · simp at h1
  · exact h1

set_option maxRecDepth 100000 in
theorem ord_lt (n : Nat) (hn : n ≤ 10) (t : Nat) (ht : t ∈ ordN n) : t < 2 ^ n := by
  have all : ∀ n : Fin 11, (ordN n.val).all (fun t => decide (t < 2 ^ n.val)) = true := by decide +kernel
  have := List.all_eq_true.1 (all ⟨n, by omega⟩) t ht
  simpa using this

/-- The place of a set in the order of sets. -/
def keyN (s : Nat) : Nat := popc s * 1024 + s

set_option maxRecDepth 100000 in
theorem keyN_next (n : Nat) (hn : n ≤ 10) (s : Nat) (hs : s < 2 ^ n) (h : nextN n s < 2 ^ n) : keyN s < keyN (nextN n s) := by
  have all : ∀ n : Fin 11, (List.range (2 ^ n.val)).all (fun s => !decide (nextN n.val s < 2 ^ n.val) || decide (keyN s < keyN (nextN n.val s))) = true := by decide +kernel
  have h1 := List.all_eq_true.1 (all ⟨n, by omega⟩) s (List.mem_range.2 hs)
  rw [decide_eq_true h] at h1
  simpa using h1

theorem keyN_lt (s : Nat) (hs : s < 1024) : keyN s < 20000 := by
  have := popc_le s
  unfold keyN; omega

theorem ord_zero (n : Nat) : (ordN n)[0]? = some 0 := by
  unfold ordN
  obtain ⟨f, hf⟩ : ∃ f, 2 ^ n = f + 1 := ⟨2 ^ n - 1, by have := Nat.one_le_two_pow (n := n); omega⟩
  rw [hf]; rfl

theorem ord_len (n : Nat) : (ordN n).length = 2 ^ n := ordL_len n _ _

set_option maxRecDepth 100000 in
theorem ord_last (n : Nat) (hn : n ≤ 10) (s : Nat) (h : (ordN n)[2 ^ n - 1]? = some s) : 2 ^ n ≤ nextN n s := by
  have all : ∀ n : Fin 11, (match (ordN n.val)[2 ^ n.val - 1]? with | some s => decide (2 ^ n.val ≤ nextN n.val s) | none => true) = true := by decide +kernel
  have h1 := all ⟨n, by omega⟩
  simp only [h] at h1
  simpa using h1

/-- One set further: the next one, or all have been seen. -/
theorem ord_step (n : Nat) (hn : n ≤ 10) (i s : Nat) (h : (ordN n)[i]? = some s) : (nextN n s < 2 ^ n → (ordN n)[i + 1]? = some (nextN n s)) ∧ (2 ^ n ≤ nextN n s → i + 1 = 2 ^ n) := by
  have hi : i < 2 ^ n := by
    have := (List.getElem?_eq_some_iff.1 h).1
    rwa [ord_len] at this
  have hx := ordL_next n (2 ^ n) 0 i s h
  rcases Nat.lt_or_ge (i + 1) (2 ^ n) with h1 | h1
  · refine ⟨fun _ => hx h1, fun h2 => ?_⟩
    have := ord_lt n hn _ (List.mem_of_getElem? (hx h1))
    omega
  · have e : i + 1 = 2 ^ n := by omega
    refine ⟨fun h2 => ?_, fun _ => e⟩
    have h3 := ord_last n hn s (by rw [← e, Nat.add_sub_cancel]; exact h)
    omega

end Go.Proofs.Ythbiopmfbnpmfaa

namespace Go.Proofs.Ythbiopmfbnpmfaa
set_option linter.unusedVariables false
set_option linter.unusedSimpArgs false
open Go.RowKit

/-- All members but those of t. -/
def outS (n t : Nat) : Nat := (2 ^ n - 1) ^^^ ((2 ^ n - 1) &&& t)

theorem outS_bit (n t j : Nat) : (outS n t).testBit j = (decide (j < n) && !t.testBit j) := by
  unfold outS
  rw [Nat.testBit_xor, Nat.testBit_and, Nat.testBit_two_pow_sub_one]
  cases decide (j < n) <;> cases t.testBit j <;> rfl

theorem outS_lt (n t : Nat) (hn : n ≤ 10) : outS n t < 1024 := by
  have h : outS n t < 2 ^ 10 := Nat.lt_pow_two_of_testBit _ (fun i hi => by rw [outS_bit, decide_eq_false (by omega)]; rfl)
  omega

/-- t is a quorum. -/
def IsQ (d : Nat) (ms : List Mem) (t : Nat) : Prop := t ≠ 0 ∧ Sub t (declS ms ms.length) ∧ Closed d ms t

/-- t is a quorum beside which there is another one. -/
def Apart (d : Nat) (ms : List Mem) (t : Nat) : Prop := IsQ d ms t ∧ ∃ q, q < 1024 ∧ q ≠ 0 ∧ Sub q (outS ms.length t &&& declS ms ms.length) ∧ Closed d ms q

theorem apart_gr {d : Nat} {ms : List Mem} {t G : Nat} (hG : G < 1024) (h : IsGr d ms (outS ms.length t &&& declS ms ms.length) G) : (∃ q, q < 1024 ∧ q ≠ 0 ∧ Sub q (outS ms.length t &&& declS ms ms.length) ∧ Closed d ms q) ↔ G ≠ 0 := by
  constructor
  · rintro ⟨q, h1, h2, h3, h4⟩ e
    have h5 := h.most q h1 h3 h4
    rw [e] at h5
    exact h2 (Nat.eq_of_testBit_eq fun k => by
      rw [Nat.zero_testBit]
      cases hb : q.testBit k
      · rfl
      · have := h5 k hb; simp at this)
  · intro h1
    exact ⟨G, hG, h1, h.sub, h.closed⟩

theorem keepMP {W W' : World} {P : Nat → Prop} {d g : Nat} {v : Value} {ms : List Mem} (h : W.cell? ⟨g, 0, none⟩ = some v ∧ MemsAt P d W v ms) (hb : Below W.heap.size W W') : W'.cell? ⟨g, 0, none⟩ = some v ∧ MemsAt P d W' v ms := ⟨(hb.cell (cell_lt h.1)).trans h.1, h.2.below hb⟩

theorem memsM {W : World} {P : Nat → Prop} {d g : Nat} {v : Value} {ms : List Mem} (h : W.cell? ⟨g, 0, none⟩ = some v ∧ MemsAt P d W v ms) : MemsAt P d W v ms := h.2

theorem bdrew' (W : World) : Below W.heap.size W W.drew := ⟨rfl, rfl, rfl, Nat.le_refl _, fun _ _ => rfl⟩

def noneB (R G : Nat) : Bool := (G == 0) || (R ^^^ (R &&& G) != 0)

theorem noneB_iff {R G : Nat} : noneB R G = true ↔ G = 0 ∨ ¬ Sub R G := by
  unfold noneB
  rw [Bool.or_eq_true, beq_iff_eq, bne_iff_ne, ← sub_iff]

/-- What pair returns. -/
def PairOk (d : Nat) (ms : List Mem) (e : Ending) : Prop := (∃ i a b : Nat, e = .returned (.tuple #[.int .i64 (a : Int), .int .i64 (b : Int), .bool true]) ∧ (ordN ms.length)[i]? = some a ∧ Apart d ms a ∧ IsGr d ms (outS ms.length a &&& declS ms ms.length) b ∧ b < 1024 ∧ (∀ j t : Nat, j < i → (ordN ms.length)[j]? = some t → ¬ Apart d ms t)) ∨
  (e = .returned (.tuple #[.int .i64 0, .int .i64 0, .bool false]) ∧ ∀ t, t < 2 ^ ms.length → ¬ Apart d ms t)

def boolM (b : Bool) (s : Nat) : Nat := if b then 20001 - keyN s else 0

end Go.Proofs.Ythbiopmfbnpmfaa

namespace Go.Proofs.Ythbiopmfbnpmfaa
set_option linter.unusedVariables false
set_option linter.unusedSimpArgs false
open Go.RowKit

end Go.Proofs.Ythbiopmfbnpmfaa

namespace Go.Proofs.Ythbiopmfbnpmfaa
set_option linter.unusedVariables false
set_option linter.unusedSimpArgs false
open Go.RowKit

theorem bgrownT {w a b : World} {sb : Nat} (h : Below w.heap.size w a) (hg : a.grownBy b (some sb)) (hs : w.heap.size ≤ sb) : Below w.heap.size w b :=
  h.grown hg h.size (fun k hk => by cases hk; exact hs)

/-- What holds of the world of a law that has made a trust: the tape, the trust in its block g. -/
structure MadeAt (w : World) (g d : Nat) (t : Int) (v1 v2 : Value) (T : Tree) (W : World) : Prop where
  tape : TapeOk W w.heap.size
  out : OutAt W g t v1 v2
  tat : TAt (fun b => w.heap.size < b) d W (.int .i64 t) v1 v2 T
  low : w.heap.size < g
  below : Below w.heap.size w W
theorem MadeAt.bel {w W W' : World} {g d : Nat} {t : Int} {v1 v2 : Value} {T : Tree} (h : MadeAt w g d t v1 v2 T W) (hb : Below W.heap.size W W') : MadeAt w g d t v1 v2 T W' :=
  ⟨h.tape.below hb, h.out.keep (hb.block _ h.out.lt), h.tat.below hb, h.low, bstep h.below hb⟩
theorem MadeAt.grown {w W W' : World} {g d : Nat} {t : Int} {v1 v2 : Value} {T : Tree} (h : MadeAt w g d t v1 v2 T W) (hs : TapeOk W' w.heap.size) (hg : W.grownBy W' (some w.heap.size)) : MadeAt w g d t v1 v2 T W' :=
  ⟨hs, h.out.keep (hg.block _ h.out.lt (by have := h.low; simp; omega)), h.tat.keep (fun q hq hP => hg.block q hq (by simp; omega)), h.low, bgrownT h.below hg (Nat.le_refl _)⟩
theorem MadeAt.drew {w W : World} {g d : Nat} {t : Int} {v1 v2 : Value} {T : Tree} (h : MadeAt w g d t v1 v2 T W) : MadeAt w g d t v1 v2 T W.drew := h.bel ⟨rfl, rfl, rfl, Nat.le_refl _, fun _ _ => rfl⟩
/-- What a drawn region keeps. -/
theorem keepM {w W W' : World} {g d : Nat} {t : Int} {v1 v2 : Value} {T : Tree}
    (h : W.cell? ⟨g, 0, none⟩ = some (.int .i64 t) ∧ W.cell? ⟨g, 1, none⟩ = some v1 ∧ W.cell? ⟨g, 2, none⟩ = some v2 ∧ MadeAt w g d t v1 v2 T W) (hb : Below W.heap.size W W') :
    W'.cell? ⟨g, 0, none⟩ = some (.int .i64 t) ∧ W'.cell? ⟨g, 1, none⟩ = some v1 ∧ W'.cell? ⟨g, 2, none⟩ = some v2 ∧ MadeAt w g d t v1 v2 T W' := by
  have k := h.2.2.2.bel hb
  exact ⟨k.out.cs.1, k.out.cs.2.1, k.out.cs.2.2, k⟩
theorem MadeAt.keeps {w W : World} {g d : Nat} {t : Int} {v1 v2 : Value} {T : Tree} (h : MadeAt w g d t v1 v2 T W) :
    W.cell? ⟨g, 0, none⟩ = some (.int .i64 t) ∧ W.cell? ⟨g, 1, none⟩ = some v1 ∧ W.cell? ⟨g, 2, none⟩ = some v2 ∧ MadeAt w g d t v1 v2 T W := ⟨h.out.cs.1, h.out.cs.2.1, h.out.cs.2.2, h⟩
theorem tatM {w W : World} {g d : Nat} {t : Int} {v1 v2 : Value} {T : Tree}
    (h : W.cell? ⟨g, 0, none⟩ = some (.int .i64 t) ∧ W.cell? ⟨g, 1, none⟩ = some v1 ∧ W.cell? ⟨g, 2, none⟩ = some v2 ∧ MadeAt w g d t v1 v2 T W) : TAt (fun b => w.heap.size < b) d W (.int .i64 t) v1 v2 T := h.2.2.2.tat
end Go.Proofs.Ythbiopmfbnpmfaa

namespace Go.Proofs.Ythbiopmfbnpmfaa
set_option linter.unusedVariables false
set_option linter.unusedSimpArgs false
open Go.RowKit

end Go.Proofs.Ythbiopmfbnpmfaa
