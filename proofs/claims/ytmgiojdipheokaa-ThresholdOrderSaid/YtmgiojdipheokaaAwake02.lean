/- The example of chapter 2 (awake of the laws of layer 2). -/
import Derived.Test.YtmgiojdipheokaaDual2
namespace Go.Proofs.Ytmgiojdipheokaa
set_option linter.unusedVariables false
open Go.RowKit

def exT : Tree := .mk 2 [0, 1] [.mk 1 [2, 3] []]
theorem exT_sat : satB 2 exT 5 = true ∧ satB 2 exT 12 = false ∧ blkB 2 exT 3 = true ∧ blkB 2 exT 4 = false := by decide +kernel
theorem exT_dual : dualT 2 exT = .mk 2 [0, 1] [.mk 2 [2, 3] []] := rfl
theorem exT_WF : WF 10 2 exT := by
  show 1 ≤ (2 : Int) ∧ (2 : Int) ≤ ((2 + 1 : Nat) : Int) ∧ 2 ≤ 5 ∧ 1 ≤ 3 ∧ (∀ x ∈ ([0, 1] : List Int), 0 ≤ x ∧ x < 10) ∧ ([0, 1] : List Int).Nodup ∧ ∀ T ∈ [Tree.mk 1 [2, 3] []], WF 10 1 T
  refine ⟨by omega, by omega, by omega, by omega, by decide, by decide, fun T hT => ?_⟩
  rw [List.mem_singleton] at hT
  subst hT
  show 1 ≤ (1 : Int) ∧ (1 : Int) ≤ ((2 + 0 : Nat) : Int) ∧ 2 ≤ 5 ∧ 0 ≤ 3 ∧ (∀ x ∈ ([2, 3] : List Int), 0 ≤ x ∧ x < 10) ∧ ([2, 3] : List Int).Nodup ∧ ∀ T ∈ ([] : List Tree), WF 10 0 T
  exact ⟨by omega, by omega, by omega, by omega, by decide, by decide, fun T hT => by simp at hT⟩

/-- The example in memory: the nodes at s, the inner nodes at s1, the inner trust at s2. -/
theorem exT_at {W : World} {s s1 s2 : Nat} (h0 : W.heap[s]? = some (.cells #[.int .i64 0, .int .i64 1] 3 (0, 0))) (h1 : W.heap[s1]? = some (.cells #[.int .i64 2, .int .i64 3] 3 (0, 0)))
    (h2 : W.heap[s2]? = some (.cells #[.int .i64 1, .slice (some ⟨s1, 0, none⟩) 2 2, .slice none 0 0] 41 (0, 0))) :
    TAt (fun _ => True) 2 W (.int .i64 2) (.slice (some ⟨s, 0, none⟩) 2 2) (.slice (some ⟨s2, 0, none⟩) 1 1) exT := by
  refine ⟨rfl, by simp, by simp, ⟨some ⟨s, 0, none⟩, 2, rfl, fun k hk => ⟨s, 0, rfl, trivial, ?_⟩⟩, ⟨some ⟨s2, 0, none⟩, 1, rfl, fun k T hT => ?_⟩⟩
  · match k, hk with
    | 0, _ => exact cell_of_row _ _ 0 _ _ (0, 0) h0
    | 1, _ => exact cell_of_row _ _ 1 _ _ (0, 0) h0
  · match k, hT with
    | 0, hT =>
      simp at hT
      subst hT
      refine ⟨s2, 0, _, _, _, rfl, trivial, cell_of_row _ _ 0 _ _ (0, 0) h2, cell_of_row _ _ 1 _ _ (0, 0) h2, cell_of_row _ _ 2 _ _ (0, 0) h2, ?_⟩
      refine ⟨rfl, by simp, by simp, ⟨some ⟨s1, 0, none⟩, 2, rfl, fun k hk => ⟨s1, 0, rfl, trivial, ?_⟩⟩, ⟨none, 0, rfl, fun k T hT => by simp at hT⟩⟩
      match k, hk with
      | 0, _ => exact cell_of_row _ _ 0 _ _ (0, 0) h1
      | 1, _ => exact cell_of_row _ _ 1 _ _ (0, 0) h1
    | k + 1, hT => simp at hT

theorem alloc4 (w : World) (a b c d : Obj) : ((((w.alloc a).alloc b).alloc c).alloc d).heap[w.heap.size]? = some a ∧ ((((w.alloc a).alloc b).alloc c).alloc d).heap[w.heap.size + 1]? = some b ∧
    ((((w.alloc a).alloc b).alloc c).alloc d).heap[w.heap.size + 1 + 1]? = some c ∧ ((((w.alloc a).alloc b).alloc c).alloc d).heap[w.heap.size + 1 + 1 + 1]? = some d := by
  refine ⟨?_, ?_, ?_, ?_⟩
  · rw [Below.heap_alloc _ _ _ (by simp; omega), Below.heap_alloc _ _ _ (by simp; try omega), Below.heap_alloc _ _ _ (by simp)]; exact heap_alloc_new _ _
  · rw [Below.heap_alloc _ _ _ (by simp; try omega), Below.heap_alloc _ _ _ (by simp)]
    have := heap_alloc_new (w.alloc a) b
    simpa using this
  · rw [Below.heap_alloc _ _ _ (by simp)]
    have := heap_alloc_new ((w.alloc a).alloc b) c
    simpa using this
  · have := heap_alloc_new (((w.alloc a).alloc b).alloc c) d
    simpa using this

set_option maxRecDepth 100000 in
set_option maxHeartbeats 4000000 in
theorem awake02 (w : World) : Calls Try.prog 48 #[] w fun e w' => e = .returned (.bool true) ∧ Below w.heap.size w w' := by
  obtain ⟨x1, x2, x3, x4⟩ := exT_sat
  have X1 := Lib.hid x1
  have X2 := Lib.hid x2
  have X3 := Lib.hid x3
  have X4 := Lib.hid x4
  clear x1 x2 x3 x4
  go_enter Try.func48, Try.ntmps48
  go_upto_region 2 with fail
  obtain ⟨a0, a1, a2, a3⟩ := alloc4 w (.cells #[.int .i64 0, .int .i64 1] 3) (.cells #[.int .i64 2, .int .i64 3] 3) (.cells #[.int .i64 1, .slice (some ⟨w.heap.size + 1, 0, none⟩) 2 2, .slice none 0 0] 41) (.cells #[.int .i64 2, .slice (some ⟨w.heap.size, 0, none⟩) 2 2, .slice (some ⟨w.heap.size + 1 + 1, 0, none⟩) 1 1] 41)
  have HB1 := Lib.hid (balloc (balloc (balloc (balloc (bref w) (.cells #[.int .i64 0, .int .i64 1] 3)) (.cells #[.int .i64 2, .int .i64 3] 3)) (.cells #[.int .i64 1, .slice (some ⟨w.heap.size + 1, 0, none⟩) 2 2, .slice none 0 0] 41)) (.cells #[.int .i64 2, .slice (some ⟨w.heap.size, 0, none⟩) 2 2, .slice (some ⟨w.heap.size + 1 + 1, 0, none⟩) 1 1] 41))
  have HT := Lib.hid (exT_at a0 a1 a2)
  have HO := Lib.hid (show OutAt _ _ _ _ _ from a3)
  generalize (((w.alloc (.cells #[.int .i64 0, .int .i64 1] 3)).alloc (.cells #[.int .i64 2, .int .i64 3] 3)).alloc (.cells #[.int .i64 1, .slice (some ⟨w.heap.size + 1, 0, none⟩) 2 2, .slice none 0 0] 41)).alloc (.cells #[.int .i64 2, .slice (some ⟨w.heap.size, 0, none⟩) 2 2, .slice (some ⟨w.heap.size + 1 + 1, 0, none⟩) 1 1] 41) = W1 at *
  clear a0 a1 a2 a3
  obtain ⟨c0, c1, c2⟩ := HO.out.cs
  have hol := HO.out.lt
  go_wp2_with fail
  refine (dual_one 10 2 _ exT _ _ _ _ HT.out exT_WF).mono ?_
  rintro e W2 ⟨y0, y1, y2, rfl, hD, hb2⟩
  rw [exT_dual] at hD
  obtain ⟨rfl, _, _, hN, hL⟩ := hD.parts
  obtain ⟨Ay, cy, rfl⟩ := hN.slice
  obtain ⟨By, cz, rfl, hL1⟩ := hL
  obtain ⟨b, off, x0, x1, x2, rfl, hPb, e0, _, _, hI⟩ := hL1 0 _ rfl
  obtain ⟨rfl, _⟩ := hI
  have HO2 := Lib.hid (HO.out.keep (hb2.block _ hol))
  have HT2 := Lib.hid (HT.out.below hb2)
  have HB2 := Lib.hid (bstep HB1.out hb2)
  have e0' : W2.cell? ⟨b, off, none⟩ = some (.int .i64 2) := by simpa using e0
  clear hb2 hN hL1 hD e0
  go_upto_region 3 with fail
  have hb3 := balloc (bref W2) (.cells #[.int .i64 2, .slice Ay [(0 : Int), 1].length cy, .slice (some ⟨b, off, none⟩) [Tree.mk 2 [2, 3] []].length cz] 41)
  have hD3 : OutAt (W2.alloc (.cells #[.int .i64 2, .slice Ay [(0 : Int), 1].length cy, .slice (some ⟨b, off, none⟩) [Tree.mk 2 [2, 3] []].length cz] 41)) W2.heap.size 2 (.slice Ay 2 cy) (.slice (some ⟨b, off, none⟩) 1 cz) := heap_alloc_new _ _
  have HD3 := Lib.hid hD3
  have HO3 := Lib.hid (HO2.out.keep (hb3.block _ HO2.out.lt))
  have HT3 := Lib.hid (HT2.out.below hb3)
  have HB3 := Lib.hid (bstep HB2.out hb3)
  have e3 := (hb3.cell (cell_lt e0')).trans e0'
  generalize W2.alloc (.cells #[.int .i64 2, .slice Ay [(0 : Int), 1].length cy, .slice (some ⟨b, off, none⟩) [Tree.mk 2 [2, 3] []].length cz] 41) = W3 at *
  generalize W2.heap.size = g2 at *
  clear hb3 hD3 e0' HO2 HT2 HB2 c0 c1 c2
  obtain ⟨c0, c1, c2⟩ := HO3.out.cs
  go_wp2_with fail
  refine (satisfied_run _ 2 exT _ _ _ 5 _ HT3.out).mono ?_
  rintro e W4 ⟨rfl, hb4⟩
  rw [X1.out]
  have HD4 := Lib.hid (HD3.out.keep (hb4.block _ HD3.out.lt))
  have HO4 := Lib.hid (HO3.out.keep (hb4.block _ HO3.out.lt))
  have HT4 := Lib.hid (HT3.out.below hb4)
  have HB4 := Lib.hid (bstep HB3.out hb4)
  have e4 := (hb4.cell (cell_lt e3)).trans e3
  clear hb4 c0 c1 c2
  obtain ⟨c0, c1, c2⟩ := HO4.out.cs
  go_wp2_with fail
  refine (satisfied_run _ 2 exT _ _ _ 12 _ HT4.out).mono ?_
  rintro e W5 ⟨rfl, hb5⟩
  rw [X2.out]
  have HD5 := Lib.hid (HD4.out.keep (hb5.block _ HD4.out.lt))
  have HO5 := Lib.hid (HO4.out.keep (hb5.block _ HO4.out.lt))
  have HT5 := Lib.hid (HT4.out.below hb5)
  have HB5 := Lib.hid (bstep HB4.out hb5)
  have e5 := (hb5.cell (cell_lt e4)).trans e4
  clear hb5 c0 c1 c2
  obtain ⟨c0, c1, c2⟩ := HO5.out.cs
  go_wp2_with fail
  refine (blocked_run _ 2 exT _ _ _ 3 _ HT5.out).mono ?_
  rintro e W6 ⟨rfl, hb6⟩
  rw [X3.out]
  have HD6 := Lib.hid (HD5.out.keep (hb6.block _ HD5.out.lt))
  have HO6 := Lib.hid (HO5.out.keep (hb6.block _ HO5.out.lt))
  have HT6 := Lib.hid (HT5.out.below hb6)
  have HB6 := Lib.hid (bstep HB5.out hb6)
  have e6 := (hb6.cell (cell_lt e5)).trans e5
  clear hb6 c0 c1 c2
  obtain ⟨c0, c1, c2⟩ := HO6.out.cs
  go_wp2_with fail
  refine (blocked_run _ 2 exT _ _ _ 4 _ HT6.out).mono ?_
  rintro e W7 ⟨rfl, hb7⟩
  rw [X4.out]
  have HD7 := Lib.hid (HD6.out.keep (hb7.block _ HD6.out.lt))
  have HO7 := Lib.hid (HO6.out.keep (hb7.block _ HO6.out.lt))
  have HT7 := Lib.hid (HT6.out.below hb7)
  have HB7 := Lib.hid (bstep HB6.out hb7)
  have e7 := (hb7.cell (cell_lt e6)).trans e6
  clear hb7 c0 c1 c2
  obtain ⟨c0, c1, c2⟩ := HO7.out.cs
  obtain ⟨d0, d1, d2⟩ := HD7.out.cs
  go_wp2_with fail
  go_ret
  exact ⟨rfl, HB7.out⟩
end Go.Proofs.Ytmgiojdipheokaa
