/- The walk of BallotsOrder: ballots are in one order; who has prepared a ballot has given up what is less and has another value, and nothing that has its value. -/
import Derived.Test.YtolodegbilagbaaBallotsLowestWalk
import Derived.Deep.RegionHeld3
import Derived.Deep.DeepCutAuto
import Derived.Deep.CutBlock
namespace Go.Proofs.Ytolodegbilagbaa
set_option linter.unusedVariables false
open Go.RowKit

/-- The laws of the order. -/
theorem order_math {c d f : Int} {i j k : Nat} (hc : 1 ≤ c) (hd : 1 ≤ d) :
    (lessB c i d j = true → lessB d j f k = true → lessB c i f k = true) ∧ (covB c i d j = true → abB c i d j = false) ∧
    (abB c i d j = true → covB d j f k = true → abB c i f k = true) ∧ (covB c i d j = true → covB d j f k = true → covB c i f k = true) ∧ covB c i c i = true ∧ abB c i c i = false := by
  refine ⟨?_, ?_, ?_, ?_, ?_, ?_⟩
  · unfold lessB; simp; omega
  · rw [abB_false hc]; unfold covB zeroB; simp; omega
  · rw [abB_iff hc, abB_iff hc]; unfold covB zeroB; simp; omega
  · unfold covB zeroB; simp; omega
  · unfold covB zeroB; simp; omega
  · rw [abB_false hc]; omega
/-- What a drawn region keeps: the three ballots where they lie. -/
theorem keepS {w W w1 : World} {g : Nat} {c d f : Int} {i j k : Nat}
    (h : W.cell? ⟨g, 0, none⟩ = some (.int .i64 c) ∧ W.cell? ⟨g, 1, none⟩ = some (.string (valOf i)) ∧ W.cell? ⟨g + 1, 0, none⟩ = some (.int .i64 d) ∧ W.cell? ⟨g + 1, 1, none⟩ = some (.string (valOf j)) ∧
      BalAt W g c i ∧ BalAt W (g + 1) d j ∧ BalAt W (g + 1 + 1) f k ∧ Below w.heap.size w W) (hb : Below W.heap.size W w1) :
    w1.cell? ⟨g, 0, none⟩ = some (.int .i64 c) ∧ w1.cell? ⟨g, 1, none⟩ = some (.string (valOf i)) ∧ w1.cell? ⟨g + 1, 0, none⟩ = some (.int .i64 d) ∧ w1.cell? ⟨g + 1, 1, none⟩ = some (.string (valOf j)) ∧
      BalAt w1 g c i ∧ BalAt w1 (g + 1) d j ∧ BalAt w1 (g + 1 + 1) f k ∧ Below w.heap.size w w1 := by
  obtain ⟨_, _, _, _, h1, h2, h3, h4⟩ := h
  have k1 := h1.below hb
  have k2 := h2.below hb
  exact ⟨k1.cs.1, k1.cs.2, k2.cs.1, k2.cs.2, k1, k2, h3.below hb, bstep h4 hb⟩

set_option maxRecDepth 100000 in
set_option maxHeartbeats 4000000 in
theorem walkBallotsOrder (a0 : Option Addr) (len0 cap0 : Nat) (z0 : List Int) (w : World) (w0 : IsRow .i64 w a0 len0 cap0 z0) :
    Calls Try.prog 9 #[.slice a0 len0 cap0] w fun e w' => e = .returned (.bool true) ∧ Below w.heap.size w w' := by
  have HR := Lib.hid w0
  clear w0
  go_enter Try.func9, Try.ntmps9
  go_wp2_with fail
  refine (New_run _ _ _ _ _ HR.out).mono ?_
  rintro e v0 ⟨rfl, hs0, hb0⟩
  have HS0 := Lib.hid hs0
  clear hs0
  go_wp2_with fail
  refine (Ballot_run _ _ HS0.out).mono ?_
  rintro e v1 ⟨c, i, hc0, hc1, hc2, hi0, hi1, rfl, hs1, hg1⟩
  have HB1 := Lib.hid (bgrown hb0 hg1 (Nat.le_refl _))
  have HS1 := Lib.hid hs1
  clear hs1 hg1 hb0
  go_wp2_with fail
  refine (Ballot_run _ _ HS1.out).mono ?_
  rintro e v2 ⟨d, j, hd0, hd1, hd2, hj0, hj1, rfl, hs2, hg2⟩
  have HB2 := Lib.hid (bgrown HB1.out hg2 (Nat.le_refl _))
  have HS2 := Lib.hid hs2
  clear hs2 hg2 HB1
  go_wp2_with fail
  refine (Ballot_run _ _ HS2.out).mono ?_
  rintro e v3 ⟨f, k, hf0, hf1, hf2, hk0, hk1, rfl, hs3, hg3⟩
  have HB3 := Lib.hid (bgrown HB2.out hg3 (Nat.le_refl _))
  clear hs3 hg3 HB2
  go_wp2_with fail
  have hP : BalAt (((v3.alloc (.cells #[.int .i64 c, .string (valOf i)] 52)).alloc (.cells #[.int .i64 d, .string (valOf j)] 52)).alloc (.cells #[.int .i64 f, .string (valOf k)] 52)) v3.heap.size c i := ((BalAt.new _ _ _).alloc _).alloc _
  have hQ : BalAt (((v3.alloc (.cells #[.int .i64 c, .string (valOf i)] 52)).alloc (.cells #[.int .i64 d, .string (valOf j)] 52)).alloc (.cells #[.int .i64 f, .string (valOf k)] 52)) (v3.heap.size + 1) d j := by
    have := (BalAt.new (v3.alloc (.cells #[.int .i64 c, .string (valOf i)] 52)) d j).alloc (.cells #[.int .i64 f, .string (valOf k)] 52)
    simpa using this
  have hR : BalAt (((v3.alloc (.cells #[.int .i64 c, .string (valOf i)] 52)).alloc (.cells #[.int .i64 d, .string (valOf j)] 52)).alloc (.cells #[.int .i64 f, .string (valOf k)] 52)) (v3.heap.size + 1 + 1) f k := by
    have := BalAt.new ((v3.alloc (.cells #[.int .i64 c, .string (valOf i)] 52)).alloc (.cells #[.int .i64 d, .string (valOf j)] 52)) f k
    simpa using this
  have HB4 := Lib.hid (balloc (balloc (balloc HB3.out (.cells #[.int .i64 c, .string (valOf i)] 52)) (.cells #[.int .i64 d, .string (valOf j)] 52)) (.cells #[.int .i64 f, .string (valOf k)] 52))
  generalize ((v3.alloc (.cells #[.int .i64 c, .string (valOf i)] 52)).alloc (.cells #[.int .i64 d, .string (valOf j)] 52)).alloc (.cells #[.int .i64 f, .string (valOf k)] 52) = W4 at *
  generalize v3.heap.size = g at *
  have hP4 := Lib.hid hP
  have hQ4 := Lib.hid hQ
  have hR4 := Lib.hid hR
  clear hP hQ hR
  have five : (c < d) ∨ (d < c) ∨ (c = d ∧ i < j) ∨ (c = d ∧ j < i) ∨ (c = d ∧ i = j) := by omega
  go_upto_region 4 with fail
  go_cut [27, 28] (fun a b W => ∃ x1 x2 x3 : Bool, a = .agg #[.bool x1, .bool x2, .bool x3] ∧ b = .int .i64 0 ∧ Hid (x1 = lessB c i d j) ∧ Hid (x2 = lessB d j c i) ∧ Hid (x3 = decide (c = d ∧ i = j)) ∧ Hid (BalAt W g c i) ∧ Hid (BalAt W (g + 1) d j) ∧ Hid (BalAt W (g + 1 + 1) f k) ∧ Hid (Below w.heap.size w W))
  case first =>
    rcases five with h5 | h5 | h5 | h5 | ⟨h5, h6⟩
    · have hcd : (c == d) = false := by simp; omega
      have L1 : lessB c i d j = true := by unfold lessB; simp; try omega
      have L2 : lessB d j c i = false := by unfold lessB; simp; try omega
      have E3 := Lib.hid (show decide (c = d ∧ i = j) = false by simp; try omega)
      obtain ⟨lP4, mP4⟩ := hP4.out.cs
      obtain ⟨lQ4, mQ4⟩ := hQ4.out.cs
      have hS4 := Lib.hid (show W4.drew.cell? ⟨g, 0, none⟩ = some (.int .i64 c) ∧ W4.drew.cell? ⟨g, 1, none⟩ = some (.string (valOf i)) ∧ W4.drew.cell? ⟨g + 1, 0, none⟩ = some (.int .i64 d) ∧ W4.drew.cell? ⟨g + 1, 1, none⟩ = some (.string (valOf j)) ∧ BalAt W4.drew g c i ∧ BalAt W4.drew (g + 1) d j ∧ BalAt W4.drew (g + 1 + 1) f k ∧ Below w.heap.size w W4.drew from ⟨lP4, mP4, lQ4, mQ4, hP4.out, hQ4.out, hR4.out, bdrew HB4.out⟩)
      try clear h5
      go_region_held3 (fun W => W.cell? ⟨g, 0, none⟩ = some (.int .i64 c) ∧ W.cell? ⟨g, 1, none⟩ = some (.string (valOf i)) ∧ W.cell? ⟨g + 1, 0, none⟩ = some (.int .i64 d) ∧ W.cell? ⟨g + 1, 1, none⟩ = some (.string (valOf j)) ∧ BalAt W g c i ∧ BalAt W (g + 1) d j ∧ BalAt W (g + 1 + 1) f k ∧ Below w.heap.size w W) (first | exact hS4.out | exact keepS (by assumption) hbK | go_keep)
        (first | (go_at_call 46; refine (less_run _ _ _ _ _ (by omega) (by omega)).mono ?_; rintro e WK ⟨rfl, hbK⟩))
      all_goals
        go_wp2_with fail
        go_meet
        have hF : WK.cell? ⟨g, 0, none⟩ = some (.int .i64 c) ∧ WK.cell? ⟨g, 1, none⟩ = some (.string (valOf i)) ∧ WK.cell? ⟨g + 1, 0, none⟩ = some (.int .i64 d) ∧ WK.cell? ⟨g + 1, 1, none⟩ = some (.string (valOf j)) ∧ BalAt WK g c i ∧ BalAt WK (g + 1) d j ∧ BalAt WK (g + 1 + 1) f k ∧ Below w.heap.size w WK := by assumption
        exact ⟨_, _, _, rfl, rfl, Lib.hid L1.symm, Lib.hid L2.symm, Lib.hid (by first | exact E3.out.symm | simp), Lib.hid hF.2.2.2.2.1, Lib.hid hF.2.2.2.2.2.1, Lib.hid hF.2.2.2.2.2.2.1, Lib.hid hF.2.2.2.2.2.2.2⟩
    · have hcd : (c == d) = false := by simp; omega
      have L1 : lessB c i d j = false := by unfold lessB; simp; try omega
      have L2 : lessB d j c i = true := by unfold lessB; simp; try omega
      have E3 := Lib.hid (show decide (c = d ∧ i = j) = false by simp; try omega)
      obtain ⟨lP4, mP4⟩ := hP4.out.cs
      obtain ⟨lQ4, mQ4⟩ := hQ4.out.cs
      have hS4 := Lib.hid (show W4.drew.cell? ⟨g, 0, none⟩ = some (.int .i64 c) ∧ W4.drew.cell? ⟨g, 1, none⟩ = some (.string (valOf i)) ∧ W4.drew.cell? ⟨g + 1, 0, none⟩ = some (.int .i64 d) ∧ W4.drew.cell? ⟨g + 1, 1, none⟩ = some (.string (valOf j)) ∧ BalAt W4.drew g c i ∧ BalAt W4.drew (g + 1) d j ∧ BalAt W4.drew (g + 1 + 1) f k ∧ Below w.heap.size w W4.drew from ⟨lP4, mP4, lQ4, mQ4, hP4.out, hQ4.out, hR4.out, bdrew HB4.out⟩)
      try clear h5
      go_region_held3 (fun W => W.cell? ⟨g, 0, none⟩ = some (.int .i64 c) ∧ W.cell? ⟨g, 1, none⟩ = some (.string (valOf i)) ∧ W.cell? ⟨g + 1, 0, none⟩ = some (.int .i64 d) ∧ W.cell? ⟨g + 1, 1, none⟩ = some (.string (valOf j)) ∧ BalAt W g c i ∧ BalAt W (g + 1) d j ∧ BalAt W (g + 1 + 1) f k ∧ Below w.heap.size w W) (first | exact hS4.out | exact keepS (by assumption) hbK | go_keep)
        (first | (go_at_call 46; refine (less_run _ _ _ _ _ (by omega) (by omega)).mono ?_; rintro e WK ⟨rfl, hbK⟩))
      all_goals
        go_wp2_with fail
        go_meet
        have hF : WK.cell? ⟨g, 0, none⟩ = some (.int .i64 c) ∧ WK.cell? ⟨g, 1, none⟩ = some (.string (valOf i)) ∧ WK.cell? ⟨g + 1, 0, none⟩ = some (.int .i64 d) ∧ WK.cell? ⟨g + 1, 1, none⟩ = some (.string (valOf j)) ∧ BalAt WK g c i ∧ BalAt WK (g + 1) d j ∧ BalAt WK (g + 1 + 1) f k ∧ Below w.heap.size w WK := by assumption
        exact ⟨_, _, _, rfl, rfl, Lib.hid L1.symm, Lib.hid L2.symm, Lib.hid (by first | exact E3.out.symm | simp), Lib.hid hF.2.2.2.2.1, Lib.hid hF.2.2.2.2.2.1, Lib.hid hF.2.2.2.2.2.2.1, Lib.hid hF.2.2.2.2.2.2.2⟩
    · have hcd : (c == d) = true := by simp; omega
      have hst : ((valOf i).toList == (valOf j).toList) = false := by rw [valOf_eqL hi1 hj1]; simp; omega
      have hst2 : ¬ (valOf i).toList = (valOf j).toList := by simpa using hst
      have L1 : lessB c i d j = true := by unfold lessB; simp; try omega
      have L2 : lessB d j c i = false := by unfold lessB; simp; try omega
      have E3 := Lib.hid (show decide (c = d ∧ i = j) = false by simp; try omega)
      obtain ⟨lP4, mP4⟩ := hP4.out.cs
      obtain ⟨lQ4, mQ4⟩ := hQ4.out.cs
      have hS4 := Lib.hid (show W4.drew.cell? ⟨g, 0, none⟩ = some (.int .i64 c) ∧ W4.drew.cell? ⟨g, 1, none⟩ = some (.string (valOf i)) ∧ W4.drew.cell? ⟨g + 1, 0, none⟩ = some (.int .i64 d) ∧ W4.drew.cell? ⟨g + 1, 1, none⟩ = some (.string (valOf j)) ∧ BalAt W4.drew g c i ∧ BalAt W4.drew (g + 1) d j ∧ BalAt W4.drew (g + 1 + 1) f k ∧ Below w.heap.size w W4.drew from ⟨lP4, mP4, lQ4, mQ4, hP4.out, hQ4.out, hR4.out, bdrew HB4.out⟩)
      try clear h5
      go_region_held3 (fun W => W.cell? ⟨g, 0, none⟩ = some (.int .i64 c) ∧ W.cell? ⟨g, 1, none⟩ = some (.string (valOf i)) ∧ W.cell? ⟨g + 1, 0, none⟩ = some (.int .i64 d) ∧ W.cell? ⟨g + 1, 1, none⟩ = some (.string (valOf j)) ∧ BalAt W g c i ∧ BalAt W (g + 1) d j ∧ BalAt W (g + 1 + 1) f k ∧ Below w.heap.size w W) (first | exact hS4.out | exact keepS (by assumption) hbK | go_keep)
        (first | (go_at_call 46; refine (less_run _ _ _ _ _ (by omega) (by omega)).mono ?_; rintro e WK ⟨rfl, hbK⟩))
      all_goals
        go_wp2_with fail
        go_meet
        have hF : WK.cell? ⟨g, 0, none⟩ = some (.int .i64 c) ∧ WK.cell? ⟨g, 1, none⟩ = some (.string (valOf i)) ∧ WK.cell? ⟨g + 1, 0, none⟩ = some (.int .i64 d) ∧ WK.cell? ⟨g + 1, 1, none⟩ = some (.string (valOf j)) ∧ BalAt WK g c i ∧ BalAt WK (g + 1) d j ∧ BalAt WK (g + 1 + 1) f k ∧ Below w.heap.size w WK := by assumption
        exact ⟨_, _, _, rfl, rfl, Lib.hid L1.symm, Lib.hid L2.symm, Lib.hid (by first | exact E3.out.symm | simp), Lib.hid hF.2.2.2.2.1, Lib.hid hF.2.2.2.2.2.1, Lib.hid hF.2.2.2.2.2.2.1, Lib.hid hF.2.2.2.2.2.2.2⟩
    · have hcd : (c == d) = true := by simp; omega
      have hst : ((valOf i).toList == (valOf j).toList) = false := by rw [valOf_eqL hi1 hj1]; simp; omega
      have hst2 : ¬ (valOf i).toList = (valOf j).toList := by simpa using hst
      have L1 : lessB c i d j = false := by unfold lessB; simp; try omega
      have L2 : lessB d j c i = true := by unfold lessB; simp; try omega
      have E3 := Lib.hid (show decide (c = d ∧ i = j) = false by simp; try omega)
      obtain ⟨lP4, mP4⟩ := hP4.out.cs
      obtain ⟨lQ4, mQ4⟩ := hQ4.out.cs
      have hS4 := Lib.hid (show W4.drew.cell? ⟨g, 0, none⟩ = some (.int .i64 c) ∧ W4.drew.cell? ⟨g, 1, none⟩ = some (.string (valOf i)) ∧ W4.drew.cell? ⟨g + 1, 0, none⟩ = some (.int .i64 d) ∧ W4.drew.cell? ⟨g + 1, 1, none⟩ = some (.string (valOf j)) ∧ BalAt W4.drew g c i ∧ BalAt W4.drew (g + 1) d j ∧ BalAt W4.drew (g + 1 + 1) f k ∧ Below w.heap.size w W4.drew from ⟨lP4, mP4, lQ4, mQ4, hP4.out, hQ4.out, hR4.out, bdrew HB4.out⟩)
      try clear h5
      go_region_held3 (fun W => W.cell? ⟨g, 0, none⟩ = some (.int .i64 c) ∧ W.cell? ⟨g, 1, none⟩ = some (.string (valOf i)) ∧ W.cell? ⟨g + 1, 0, none⟩ = some (.int .i64 d) ∧ W.cell? ⟨g + 1, 1, none⟩ = some (.string (valOf j)) ∧ BalAt W g c i ∧ BalAt W (g + 1) d j ∧ BalAt W (g + 1 + 1) f k ∧ Below w.heap.size w W) (first | exact hS4.out | exact keepS (by assumption) hbK | go_keep)
        (first | (go_at_call 46; refine (less_run _ _ _ _ _ (by omega) (by omega)).mono ?_; rintro e WK ⟨rfl, hbK⟩))
      all_goals
        go_wp2_with fail
        go_meet
        have hF : WK.cell? ⟨g, 0, none⟩ = some (.int .i64 c) ∧ WK.cell? ⟨g, 1, none⟩ = some (.string (valOf i)) ∧ WK.cell? ⟨g + 1, 0, none⟩ = some (.int .i64 d) ∧ WK.cell? ⟨g + 1, 1, none⟩ = some (.string (valOf j)) ∧ BalAt WK g c i ∧ BalAt WK (g + 1) d j ∧ BalAt WK (g + 1 + 1) f k ∧ Below w.heap.size w WK := by assumption
        exact ⟨_, _, _, rfl, rfl, Lib.hid L1.symm, Lib.hid L2.symm, Lib.hid (by first | exact E3.out.symm | simp), Lib.hid hF.2.2.2.2.1, Lib.hid hF.2.2.2.2.2.1, Lib.hid hF.2.2.2.2.2.2.1, Lib.hid hF.2.2.2.2.2.2.2⟩
    · subst h5
      subst h6
      have L1 : lessB c i c i = false := by unfold lessB; simp; try omega
      have L2 : lessB c i c i = false := by unfold lessB; simp; try omega
      have E3 := Lib.hid (show decide (c = c ∧ i = i) = true by simp; try omega)
      obtain ⟨lP4, mP4⟩ := hP4.out.cs
      obtain ⟨lQ4, mQ4⟩ := hQ4.out.cs
      have hS4 := Lib.hid (show W4.drew.cell? ⟨g, 0, none⟩ = some (.int .i64 c) ∧ W4.drew.cell? ⟨g, 1, none⟩ = some (.string (valOf i)) ∧ W4.drew.cell? ⟨g + 1, 0, none⟩ = some (.int .i64 c) ∧ W4.drew.cell? ⟨g + 1, 1, none⟩ = some (.string (valOf i)) ∧ BalAt W4.drew g c i ∧ BalAt W4.drew (g + 1) c i ∧ BalAt W4.drew (g + 1 + 1) f k ∧ Below w.heap.size w W4.drew from ⟨lP4, mP4, lQ4, mQ4, hP4.out, hQ4.out, hR4.out, bdrew HB4.out⟩)
      try clear h5
      go_region_held3 (fun W => W.cell? ⟨g, 0, none⟩ = some (.int .i64 c) ∧ W.cell? ⟨g, 1, none⟩ = some (.string (valOf i)) ∧ W.cell? ⟨g + 1, 0, none⟩ = some (.int .i64 c) ∧ W.cell? ⟨g + 1, 1, none⟩ = some (.string (valOf i)) ∧ BalAt W g c i ∧ BalAt W (g + 1) c i ∧ BalAt W (g + 1 + 1) f k ∧ Below w.heap.size w W) (first | exact hS4.out | exact keepS (by assumption) hbK | go_keep)
        (first | (go_at_call 46; refine (less_run _ _ _ _ _ (by omega) (by omega)).mono ?_; rintro e WK ⟨rfl, hbK⟩))
      all_goals
        go_wp2_with fail
        go_meet
        have hF : WK.cell? ⟨g, 0, none⟩ = some (.int .i64 c) ∧ WK.cell? ⟨g, 1, none⟩ = some (.string (valOf i)) ∧ WK.cell? ⟨g + 1, 0, none⟩ = some (.int .i64 c) ∧ WK.cell? ⟨g + 1, 1, none⟩ = some (.string (valOf i)) ∧ BalAt WK g c i ∧ BalAt WK (g + 1) c i ∧ BalAt WK (g + 1 + 1) f k ∧ Below w.heap.size w WK := by assumption
        exact ⟨_, _, _, rfl, rfl, Lib.hid L1.symm, Lib.hid L2.symm, Lib.hid (by first | exact E3.out.symm | simp), Lib.hid hF.2.2.2.2.1, Lib.hid hF.2.2.2.2.2.1, Lib.hid hF.2.2.2.2.2.2.1, Lib.hid hF.2.2.2.2.2.2.2⟩
  case rest =>
    obtain ⟨x1, x2, x3, rfl, rfl, hx1, hx2, hx3, hP5, hQ5, hR5, HB5⟩ := hcut
    go_upto_block 0 with fail
    go_cut [7] (fun u W => u = .int .i64 1 ∧ Hid (BalAt W g c i) ∧ Hid (BalAt W (g + 1) d j) ∧ Hid (BalAt W (g + 1 + 1) f k) ∧ Hid (Below w.heap.size w W))
    case first =>
      rcases five with h5 | h5 | h5 | h5 | h5
      · have L1 : lessB c i d j = true := by unfold lessB; simp; try omega
        have L2 : lessB d j c i = false := by unfold lessB; simp; try omega
        have E3 : decide (c = d ∧ i = j) = false := by simp; try omega
        obtain rfl : x1 = true := hx1.out.trans L1
        obtain rfl : x2 = false := hx2.out.trans L2
        obtain rfl : x3 = false := hx3.out.trans E3
        clear L1 L2 E3 h5
        have i0 : ∀ W : World, (Instr.index 57 (.agg #[.bool true, .bool false, .bool false]) (.int .i64 0)).run Try.prog W = .ok (.bool true) W := fun _ => by kernel_rfl
        have i1 : ∀ W : World, (Instr.index 57 (.agg #[.bool true, .bool false, .bool false]) (.int .i64 1)).run Try.prog W = .ok (.bool false) W := fun _ => by kernel_rfl
        have i2 : ∀ W : World, (Instr.index 57 (.agg #[.bool true, .bool false, .bool false]) (.int .i64 2)).run Try.prog W = .ok (.bool false) W := fun _ => by kernel_rfl
        go_wp2_with fail
        go_loopw [7, 28] (fun u t W => ∃ q : Nat, q ≤ 3 ∧ t = .int .i64 q ∧ u = .int .i64 ((if 0 < q then 1 else 0 : Nat) : Int) ∧ Hid (BalAt W g c i) ∧ Hid (BalAt W (g + 1) d j) ∧ Hid (BalAt W (g + 1 + 1) f k) ∧ Hid (Below w.heap.size w W)) (fun _ t _ => 3 - (intOf t).toNat)
        case atStart => exact ⟨0, by omega, rfl, rfl, hP5, hQ5, hR5, HB5⟩
        case round =>
          obtain ⟨q, hq, rfl, rfl, hPr, hQr, hRr, hBr⟩ := hrel
          match q, hq with
          | 0, _ =>
            go_wp2_with fail
            go_roundw
            case rel => exact ⟨1, by omega, rfl, rfl, hPr, hQr, hRr, hBr⟩
            case measure => simp [intOf]
          | 1, _ =>
            go_wp2_with fail
            go_roundw
            case rel => exact ⟨2, by omega, rfl, rfl, hPr, hQr, hRr, hBr⟩
            case measure => simp [intOf]
          | 2, _ =>
            go_wp2_with fail
            go_roundw
            case rel => exact ⟨3, by omega, rfl, rfl, hPr, hQr, hRr, hBr⟩
            case measure => simp [intOf]
          | 3, _ =>
            go_wp2_with fail
            go_meet
            exact ⟨rfl, hPr, hQr, hRr, hBr⟩
      · have L1 : lessB c i d j = false := by unfold lessB; simp; try omega
        have L2 : lessB d j c i = true := by unfold lessB; simp; try omega
        have E3 : decide (c = d ∧ i = j) = false := by simp; try omega
        obtain rfl : x1 = false := hx1.out.trans L1
        obtain rfl : x2 = true := hx2.out.trans L2
        obtain rfl : x3 = false := hx3.out.trans E3
        clear L1 L2 E3 h5
        have i0 : ∀ W : World, (Instr.index 57 (.agg #[.bool false, .bool true, .bool false]) (.int .i64 0)).run Try.prog W = .ok (.bool false) W := fun _ => by kernel_rfl
        have i1 : ∀ W : World, (Instr.index 57 (.agg #[.bool false, .bool true, .bool false]) (.int .i64 1)).run Try.prog W = .ok (.bool true) W := fun _ => by kernel_rfl
        have i2 : ∀ W : World, (Instr.index 57 (.agg #[.bool false, .bool true, .bool false]) (.int .i64 2)).run Try.prog W = .ok (.bool false) W := fun _ => by kernel_rfl
        go_wp2_with fail
        go_loopw [7, 28] (fun u t W => ∃ q : Nat, q ≤ 3 ∧ t = .int .i64 q ∧ u = .int .i64 ((if 1 < q then 1 else 0 : Nat) : Int) ∧ Hid (BalAt W g c i) ∧ Hid (BalAt W (g + 1) d j) ∧ Hid (BalAt W (g + 1 + 1) f k) ∧ Hid (Below w.heap.size w W)) (fun _ t _ => 3 - (intOf t).toNat)
        case atStart => exact ⟨0, by omega, rfl, rfl, hP5, hQ5, hR5, HB5⟩
        case round =>
          obtain ⟨q, hq, rfl, rfl, hPr, hQr, hRr, hBr⟩ := hrel
          match q, hq with
          | 0, _ =>
            go_wp2_with fail
            go_roundw
            case rel => exact ⟨1, by omega, rfl, rfl, hPr, hQr, hRr, hBr⟩
            case measure => simp [intOf]
          | 1, _ =>
            go_wp2_with fail
            go_roundw
            case rel => exact ⟨2, by omega, rfl, rfl, hPr, hQr, hRr, hBr⟩
            case measure => simp [intOf]
          | 2, _ =>
            go_wp2_with fail
            go_roundw
            case rel => exact ⟨3, by omega, rfl, rfl, hPr, hQr, hRr, hBr⟩
            case measure => simp [intOf]
          | 3, _ =>
            go_wp2_with fail
            go_meet
            exact ⟨rfl, hPr, hQr, hRr, hBr⟩
      · have L1 : lessB c i d j = true := by unfold lessB; simp; try omega
        have L2 : lessB d j c i = false := by unfold lessB; simp; try omega
        have E3 : decide (c = d ∧ i = j) = false := by simp; try omega
        obtain rfl : x1 = true := hx1.out.trans L1
        obtain rfl : x2 = false := hx2.out.trans L2
        obtain rfl : x3 = false := hx3.out.trans E3
        clear L1 L2 E3 h5
        have i0 : ∀ W : World, (Instr.index 57 (.agg #[.bool true, .bool false, .bool false]) (.int .i64 0)).run Try.prog W = .ok (.bool true) W := fun _ => by kernel_rfl
        have i1 : ∀ W : World, (Instr.index 57 (.agg #[.bool true, .bool false, .bool false]) (.int .i64 1)).run Try.prog W = .ok (.bool false) W := fun _ => by kernel_rfl
        have i2 : ∀ W : World, (Instr.index 57 (.agg #[.bool true, .bool false, .bool false]) (.int .i64 2)).run Try.prog W = .ok (.bool false) W := fun _ => by kernel_rfl
        go_wp2_with fail
        go_loopw [7, 28] (fun u t W => ∃ q : Nat, q ≤ 3 ∧ t = .int .i64 q ∧ u = .int .i64 ((if 0 < q then 1 else 0 : Nat) : Int) ∧ Hid (BalAt W g c i) ∧ Hid (BalAt W (g + 1) d j) ∧ Hid (BalAt W (g + 1 + 1) f k) ∧ Hid (Below w.heap.size w W)) (fun _ t _ => 3 - (intOf t).toNat)
        case atStart => exact ⟨0, by omega, rfl, rfl, hP5, hQ5, hR5, HB5⟩
        case round =>
          obtain ⟨q, hq, rfl, rfl, hPr, hQr, hRr, hBr⟩ := hrel
          match q, hq with
          | 0, _ =>
            go_wp2_with fail
            go_roundw
            case rel => exact ⟨1, by omega, rfl, rfl, hPr, hQr, hRr, hBr⟩
            case measure => simp [intOf]
          | 1, _ =>
            go_wp2_with fail
            go_roundw
            case rel => exact ⟨2, by omega, rfl, rfl, hPr, hQr, hRr, hBr⟩
            case measure => simp [intOf]
          | 2, _ =>
            go_wp2_with fail
            go_roundw
            case rel => exact ⟨3, by omega, rfl, rfl, hPr, hQr, hRr, hBr⟩
            case measure => simp [intOf]
          | 3, _ =>
            go_wp2_with fail
            go_meet
            exact ⟨rfl, hPr, hQr, hRr, hBr⟩
      · have L1 : lessB c i d j = false := by unfold lessB; simp; try omega
        have L2 : lessB d j c i = true := by unfold lessB; simp; try omega
        have E3 : decide (c = d ∧ i = j) = false := by simp; try omega
        obtain rfl : x1 = false := hx1.out.trans L1
        obtain rfl : x2 = true := hx2.out.trans L2
        obtain rfl : x3 = false := hx3.out.trans E3
        clear L1 L2 E3 h5
        have i0 : ∀ W : World, (Instr.index 57 (.agg #[.bool false, .bool true, .bool false]) (.int .i64 0)).run Try.prog W = .ok (.bool false) W := fun _ => by kernel_rfl
        have i1 : ∀ W : World, (Instr.index 57 (.agg #[.bool false, .bool true, .bool false]) (.int .i64 1)).run Try.prog W = .ok (.bool true) W := fun _ => by kernel_rfl
        have i2 : ∀ W : World, (Instr.index 57 (.agg #[.bool false, .bool true, .bool false]) (.int .i64 2)).run Try.prog W = .ok (.bool false) W := fun _ => by kernel_rfl
        go_wp2_with fail
        go_loopw [7, 28] (fun u t W => ∃ q : Nat, q ≤ 3 ∧ t = .int .i64 q ∧ u = .int .i64 ((if 1 < q then 1 else 0 : Nat) : Int) ∧ Hid (BalAt W g c i) ∧ Hid (BalAt W (g + 1) d j) ∧ Hid (BalAt W (g + 1 + 1) f k) ∧ Hid (Below w.heap.size w W)) (fun _ t _ => 3 - (intOf t).toNat)
        case atStart => exact ⟨0, by omega, rfl, rfl, hP5, hQ5, hR5, HB5⟩
        case round =>
          obtain ⟨q, hq, rfl, rfl, hPr, hQr, hRr, hBr⟩ := hrel
          match q, hq with
          | 0, _ =>
            go_wp2_with fail
            go_roundw
            case rel => exact ⟨1, by omega, rfl, rfl, hPr, hQr, hRr, hBr⟩
            case measure => simp [intOf]
          | 1, _ =>
            go_wp2_with fail
            go_roundw
            case rel => exact ⟨2, by omega, rfl, rfl, hPr, hQr, hRr, hBr⟩
            case measure => simp [intOf]
          | 2, _ =>
            go_wp2_with fail
            go_roundw
            case rel => exact ⟨3, by omega, rfl, rfl, hPr, hQr, hRr, hBr⟩
            case measure => simp [intOf]
          | 3, _ =>
            go_wp2_with fail
            go_meet
            exact ⟨rfl, hPr, hQr, hRr, hBr⟩
      · have L1 : lessB c i d j = false := by unfold lessB; simp; try omega
        have L2 : lessB d j c i = false := by unfold lessB; simp; try omega
        have E3 : decide (c = d ∧ i = j) = true := by simp; try omega
        obtain rfl : x1 = false := hx1.out.trans L1
        obtain rfl : x2 = false := hx2.out.trans L2
        obtain rfl : x3 = true := hx3.out.trans E3
        clear L1 L2 E3 h5
        have i0 : ∀ W : World, (Instr.index 57 (.agg #[.bool false, .bool false, .bool true]) (.int .i64 0)).run Try.prog W = .ok (.bool false) W := fun _ => by kernel_rfl
        have i1 : ∀ W : World, (Instr.index 57 (.agg #[.bool false, .bool false, .bool true]) (.int .i64 1)).run Try.prog W = .ok (.bool false) W := fun _ => by kernel_rfl
        have i2 : ∀ W : World, (Instr.index 57 (.agg #[.bool false, .bool false, .bool true]) (.int .i64 2)).run Try.prog W = .ok (.bool true) W := fun _ => by kernel_rfl
        go_wp2_with fail
        go_loopw [7, 28] (fun u t W => ∃ q : Nat, q ≤ 3 ∧ t = .int .i64 q ∧ u = .int .i64 ((if 2 < q then 1 else 0 : Nat) : Int) ∧ Hid (BalAt W g c i) ∧ Hid (BalAt W (g + 1) d j) ∧ Hid (BalAt W (g + 1 + 1) f k) ∧ Hid (Below w.heap.size w W)) (fun _ t _ => 3 - (intOf t).toNat)
        case atStart => exact ⟨0, by omega, rfl, rfl, hP5, hQ5, hR5, HB5⟩
        case round =>
          obtain ⟨q, hq, rfl, rfl, hPr, hQr, hRr, hBr⟩ := hrel
          match q, hq with
          | 0, _ =>
            go_wp2_with fail
            go_roundw
            case rel => exact ⟨1, by omega, rfl, rfl, hPr, hQr, hRr, hBr⟩
            case measure => simp [intOf]
          | 1, _ =>
            go_wp2_with fail
            go_roundw
            case rel => exact ⟨2, by omega, rfl, rfl, hPr, hQr, hRr, hBr⟩
            case measure => simp [intOf]
          | 2, _ =>
            go_wp2_with fail
            go_roundw
            case rel => exact ⟨3, by omega, rfl, rfl, hPr, hQr, hRr, hBr⟩
            case measure => simp [intOf]
          | 3, _ =>
            go_wp2_with fail
            go_meet
            exact ⟨rfl, hPr, hQr, hRr, hBr⟩
    case rest =>
      obtain ⟨rfl, hP6, hQ6, hR6, HB6⟩ := hcut
      go_upto_region 10 with fail
      go_cut [62] (fun s W => s = .bool false ∧ Hid (BalAt W g c i) ∧ Hid (BalAt W (g + 1) d j) ∧ Hid (BalAt W (g + 1 + 1) f k) ∧ Hid (Below w.heap.size w W))
      case first =>
        obtain ⟨o1, o2, o3, o4, o5, o6⟩ := order_math (c := c) (d := d) (f := f) (i := i) (j := j) (k := k) hc0 hd0
        obtain ⟨lP6, mP6⟩ := hP6.out.cs
        obtain ⟨lQ6, mQ6⟩ := hQ6.out.cs
        obtain ⟨lR6, mR6⟩ := hR6.out.cs
        clear o3 o4
        clear o5 o6
        cases y0 : lessB c i d j
        · cases y2 : covB c i d j
          · go_wp2_with fail
            refine (less_run _ _ _ _ _ (by omega) (by omega)).mono ?_
            rintro e V7 ⟨rfl, hb7⟩
            have HB7 := Lib.hid (bstep HB6.out hb7)
            have hP7 := Lib.hid (hP6.out.below hb7)
            obtain ⟨lP7, mP7⟩ := hP7.out.cs
            have hQ7 := Lib.hid (hQ6.out.below hb7)
            obtain ⟨lQ7, mQ7⟩ := hQ7.out.cs
            have hR7 := Lib.hid (hR6.out.below hb7)
            obtain ⟨lR7, mR7⟩ := hR7.out.cs
            clear hb7
            rw [y0]
            go_wp2_with fail
            refine (covers_run _ _ _ _ _ (by omega) (by omega)).mono ?_
            rintro e V8 ⟨rfl, hb8⟩
            have HB8 := Lib.hid (bstep HB7.out hb8)
            have hP8 := Lib.hid (hP7.out.below hb8)
            obtain ⟨lP8, mP8⟩ := hP8.out.cs
            have hQ8 := Lib.hid (hQ7.out.below hb8)
            obtain ⟨lQ8, mQ8⟩ := hQ8.out.cs
            have hR8 := Lib.hid (hR7.out.below hb8)
            obtain ⟨lR8, mR8⟩ := hR8.out.cs
            clear hb8
            rw [y2]
            go_wp2_with fail
            go_meet
            exact ⟨rfl, hP8, hQ8, hR8, HB8⟩
          · have y3 := o2 y2
            go_wp2_with fail
            refine (less_run _ _ _ _ _ (by omega) (by omega)).mono ?_
            rintro e V7 ⟨rfl, hb7⟩
            have HB7 := Lib.hid (bstep HB6.out hb7)
            have hP7 := Lib.hid (hP6.out.below hb7)
            obtain ⟨lP7, mP7⟩ := hP7.out.cs
            have hQ7 := Lib.hid (hQ6.out.below hb7)
            obtain ⟨lQ7, mQ7⟩ := hQ7.out.cs
            have hR7 := Lib.hid (hR6.out.below hb7)
            obtain ⟨lR7, mR7⟩ := hR7.out.cs
            clear hb7
            rw [y0]
            go_wp2_with fail
            refine (covers_run _ _ _ _ _ (by omega) (by omega)).mono ?_
            rintro e V8 ⟨rfl, hb8⟩
            have HB8 := Lib.hid (bstep HB7.out hb8)
            have hP8 := Lib.hid (hP7.out.below hb8)
            obtain ⟨lP8, mP8⟩ := hP8.out.cs
            have hQ8 := Lib.hid (hQ7.out.below hb8)
            obtain ⟨lQ8, mQ8⟩ := hQ8.out.cs
            have hR8 := Lib.hid (hR7.out.below hb8)
            obtain ⟨lR8, mR8⟩ := hR8.out.cs
            clear hb8
            rw [y2]
            go_wp2_with fail
            refine (aborts_run _ _ _ _ _ (by omega) (by omega)).mono ?_
            rintro e V9 ⟨rfl, hb9⟩
            have HB9 := Lib.hid (bstep HB8.out hb9)
            have hP9 := Lib.hid (hP8.out.below hb9)
            obtain ⟨lP9, mP9⟩ := hP9.out.cs
            have hQ9 := Lib.hid (hQ8.out.below hb9)
            obtain ⟨lQ9, mQ9⟩ := hQ9.out.cs
            have hR9 := Lib.hid (hR8.out.below hb9)
            obtain ⟨lR9, mR9⟩ := hR9.out.cs
            clear hb9
            rw [y3]
            go_wp2_with fail
            go_meet
            exact ⟨rfl, hP9, hQ9, hR9, HB9⟩
        · cases y1 : lessB d j f k
          · cases y2 : covB c i d j
            · go_wp2_with fail
              refine (less_run _ _ _ _ _ (by omega) (by omega)).mono ?_
              rintro e V7 ⟨rfl, hb7⟩
              have HB7 := Lib.hid (bstep HB6.out hb7)
              have hP7 := Lib.hid (hP6.out.below hb7)
              obtain ⟨lP7, mP7⟩ := hP7.out.cs
              have hQ7 := Lib.hid (hQ6.out.below hb7)
              obtain ⟨lQ7, mQ7⟩ := hQ7.out.cs
              have hR7 := Lib.hid (hR6.out.below hb7)
              obtain ⟨lR7, mR7⟩ := hR7.out.cs
              clear hb7
              rw [y0]
              go_wp2_with fail
              refine (less_run _ _ _ _ _ (by omega) (by omega)).mono ?_
              rintro e V8 ⟨rfl, hb8⟩
              have HB8 := Lib.hid (bstep HB7.out hb8)
              have hP8 := Lib.hid (hP7.out.below hb8)
              obtain ⟨lP8, mP8⟩ := hP8.out.cs
              have hQ8 := Lib.hid (hQ7.out.below hb8)
              obtain ⟨lQ8, mQ8⟩ := hQ8.out.cs
              have hR8 := Lib.hid (hR7.out.below hb8)
              obtain ⟨lR8, mR8⟩ := hR8.out.cs
              clear hb8
              rw [y1]
              go_wp2_with fail
              refine (covers_run _ _ _ _ _ (by omega) (by omega)).mono ?_
              rintro e V9 ⟨rfl, hb9⟩
              have HB9 := Lib.hid (bstep HB8.out hb9)
              have hP9 := Lib.hid (hP8.out.below hb9)
              obtain ⟨lP9, mP9⟩ := hP9.out.cs
              have hQ9 := Lib.hid (hQ8.out.below hb9)
              obtain ⟨lQ9, mQ9⟩ := hQ9.out.cs
              have hR9 := Lib.hid (hR8.out.below hb9)
              obtain ⟨lR9, mR9⟩ := hR9.out.cs
              clear hb9
              rw [y2]
              go_wp2_with fail
              go_meet
              exact ⟨rfl, hP9, hQ9, hR9, HB9⟩
            · have y3 := o2 y2
              go_wp2_with fail
              refine (less_run _ _ _ _ _ (by omega) (by omega)).mono ?_
              rintro e V7 ⟨rfl, hb7⟩
              have HB7 := Lib.hid (bstep HB6.out hb7)
              have hP7 := Lib.hid (hP6.out.below hb7)
              obtain ⟨lP7, mP7⟩ := hP7.out.cs
              have hQ7 := Lib.hid (hQ6.out.below hb7)
              obtain ⟨lQ7, mQ7⟩ := hQ7.out.cs
              have hR7 := Lib.hid (hR6.out.below hb7)
              obtain ⟨lR7, mR7⟩ := hR7.out.cs
              clear hb7
              rw [y0]
              go_wp2_with fail
              refine (less_run _ _ _ _ _ (by omega) (by omega)).mono ?_
              rintro e V8 ⟨rfl, hb8⟩
              have HB8 := Lib.hid (bstep HB7.out hb8)
              have hP8 := Lib.hid (hP7.out.below hb8)
              obtain ⟨lP8, mP8⟩ := hP8.out.cs
              have hQ8 := Lib.hid (hQ7.out.below hb8)
              obtain ⟨lQ8, mQ8⟩ := hQ8.out.cs
              have hR8 := Lib.hid (hR7.out.below hb8)
              obtain ⟨lR8, mR8⟩ := hR8.out.cs
              clear hb8
              rw [y1]
              go_wp2_with fail
              refine (covers_run _ _ _ _ _ (by omega) (by omega)).mono ?_
              rintro e V9 ⟨rfl, hb9⟩
              have HB9 := Lib.hid (bstep HB8.out hb9)
              have hP9 := Lib.hid (hP8.out.below hb9)
              obtain ⟨lP9, mP9⟩ := hP9.out.cs
              have hQ9 := Lib.hid (hQ8.out.below hb9)
              obtain ⟨lQ9, mQ9⟩ := hQ9.out.cs
              have hR9 := Lib.hid (hR8.out.below hb9)
              obtain ⟨lR9, mR9⟩ := hR9.out.cs
              clear hb9
              rw [y2]
              go_wp2_with fail
              refine (aborts_run _ _ _ _ _ (by omega) (by omega)).mono ?_
              rintro e V10 ⟨rfl, hb10⟩
              have HB10 := Lib.hid (bstep HB9.out hb10)
              have hP10 := Lib.hid (hP9.out.below hb10)
              obtain ⟨lP10, mP10⟩ := hP10.out.cs
              have hQ10 := Lib.hid (hQ9.out.below hb10)
              obtain ⟨lQ10, mQ10⟩ := hQ10.out.cs
              have hR10 := Lib.hid (hR9.out.below hb10)
              obtain ⟨lR10, mR10⟩ := hR10.out.cs
              clear hb10
              rw [y3]
              go_wp2_with fail
              go_meet
              exact ⟨rfl, hP10, hQ10, hR10, HB10⟩
          · have y4 := o1 y0 y1
            cases y2 : covB c i d j
            · go_wp2_with fail
              refine (less_run _ _ _ _ _ (by omega) (by omega)).mono ?_
              rintro e V7 ⟨rfl, hb7⟩
              have HB7 := Lib.hid (bstep HB6.out hb7)
              have hP7 := Lib.hid (hP6.out.below hb7)
              obtain ⟨lP7, mP7⟩ := hP7.out.cs
              have hQ7 := Lib.hid (hQ6.out.below hb7)
              obtain ⟨lQ7, mQ7⟩ := hQ7.out.cs
              have hR7 := Lib.hid (hR6.out.below hb7)
              obtain ⟨lR7, mR7⟩ := hR7.out.cs
              clear hb7
              rw [y0]
              go_wp2_with fail
              refine (less_run _ _ _ _ _ (by omega) (by omega)).mono ?_
              rintro e V8 ⟨rfl, hb8⟩
              have HB8 := Lib.hid (bstep HB7.out hb8)
              have hP8 := Lib.hid (hP7.out.below hb8)
              obtain ⟨lP8, mP8⟩ := hP8.out.cs
              have hQ8 := Lib.hid (hQ7.out.below hb8)
              obtain ⟨lQ8, mQ8⟩ := hQ8.out.cs
              have hR8 := Lib.hid (hR7.out.below hb8)
              obtain ⟨lR8, mR8⟩ := hR8.out.cs
              clear hb8
              rw [y1]
              go_wp2_with fail
              refine (less_run _ _ _ _ _ (by omega) (by omega)).mono ?_
              rintro e V9 ⟨rfl, hb9⟩
              have HB9 := Lib.hid (bstep HB8.out hb9)
              have hP9 := Lib.hid (hP8.out.below hb9)
              obtain ⟨lP9, mP9⟩ := hP9.out.cs
              have hQ9 := Lib.hid (hQ8.out.below hb9)
              obtain ⟨lQ9, mQ9⟩ := hQ9.out.cs
              have hR9 := Lib.hid (hR8.out.below hb9)
              obtain ⟨lR9, mR9⟩ := hR9.out.cs
              clear hb9
              rw [y4]
              go_wp2_with fail
              refine (covers_run _ _ _ _ _ (by omega) (by omega)).mono ?_
              rintro e V10 ⟨rfl, hb10⟩
              have HB10 := Lib.hid (bstep HB9.out hb10)
              have hP10 := Lib.hid (hP9.out.below hb10)
              obtain ⟨lP10, mP10⟩ := hP10.out.cs
              have hQ10 := Lib.hid (hQ9.out.below hb10)
              obtain ⟨lQ10, mQ10⟩ := hQ10.out.cs
              have hR10 := Lib.hid (hR9.out.below hb10)
              obtain ⟨lR10, mR10⟩ := hR10.out.cs
              clear hb10
              rw [y2]
              go_wp2_with fail
              go_meet
              exact ⟨rfl, hP10, hQ10, hR10, HB10⟩
            · have y3 := o2 y2
              go_wp2_with fail
              refine (less_run _ _ _ _ _ (by omega) (by omega)).mono ?_
              rintro e V7 ⟨rfl, hb7⟩
              have HB7 := Lib.hid (bstep HB6.out hb7)
              have hP7 := Lib.hid (hP6.out.below hb7)
              obtain ⟨lP7, mP7⟩ := hP7.out.cs
              have hQ7 := Lib.hid (hQ6.out.below hb7)
              obtain ⟨lQ7, mQ7⟩ := hQ7.out.cs
              have hR7 := Lib.hid (hR6.out.below hb7)
              obtain ⟨lR7, mR7⟩ := hR7.out.cs
              clear hb7
              rw [y0]
              go_wp2_with fail
              refine (less_run _ _ _ _ _ (by omega) (by omega)).mono ?_
              rintro e V8 ⟨rfl, hb8⟩
              have HB8 := Lib.hid (bstep HB7.out hb8)
              have hP8 := Lib.hid (hP7.out.below hb8)
              obtain ⟨lP8, mP8⟩ := hP8.out.cs
              have hQ8 := Lib.hid (hQ7.out.below hb8)
              obtain ⟨lQ8, mQ8⟩ := hQ8.out.cs
              have hR8 := Lib.hid (hR7.out.below hb8)
              obtain ⟨lR8, mR8⟩ := hR8.out.cs
              clear hb8
              rw [y1]
              go_wp2_with fail
              refine (less_run _ _ _ _ _ (by omega) (by omega)).mono ?_
              rintro e V9 ⟨rfl, hb9⟩
              have HB9 := Lib.hid (bstep HB8.out hb9)
              have hP9 := Lib.hid (hP8.out.below hb9)
              obtain ⟨lP9, mP9⟩ := hP9.out.cs
              have hQ9 := Lib.hid (hQ8.out.below hb9)
              obtain ⟨lQ9, mQ9⟩ := hQ9.out.cs
              have hR9 := Lib.hid (hR8.out.below hb9)
              obtain ⟨lR9, mR9⟩ := hR9.out.cs
              clear hb9
              rw [y4]
              go_wp2_with fail
              refine (covers_run _ _ _ _ _ (by omega) (by omega)).mono ?_
              rintro e V10 ⟨rfl, hb10⟩
              have HB10 := Lib.hid (bstep HB9.out hb10)
              have hP10 := Lib.hid (hP9.out.below hb10)
              obtain ⟨lP10, mP10⟩ := hP10.out.cs
              have hQ10 := Lib.hid (hQ9.out.below hb10)
              obtain ⟨lQ10, mQ10⟩ := hQ10.out.cs
              have hR10 := Lib.hid (hR9.out.below hb10)
              obtain ⟨lR10, mR10⟩ := hR10.out.cs
              clear hb10
              rw [y2]
              go_wp2_with fail
              refine (aborts_run _ _ _ _ _ (by omega) (by omega)).mono ?_
              rintro e V11 ⟨rfl, hb11⟩
              have HB11 := Lib.hid (bstep HB10.out hb11)
              have hP11 := Lib.hid (hP10.out.below hb11)
              obtain ⟨lP11, mP11⟩ := hP11.out.cs
              have hQ11 := Lib.hid (hQ10.out.below hb11)
              obtain ⟨lQ11, mQ11⟩ := hQ11.out.cs
              have hR11 := Lib.hid (hR10.out.below hb11)
              obtain ⟨lR11, mR11⟩ := hR11.out.cs
              clear hb11
              rw [y3]
              go_wp2_with fail
              go_meet
              exact ⟨rfl, hP11, hQ11, hR11, HB11⟩
      case rest =>
        obtain ⟨rfl, hP6, hQ6, hR6, HB6⟩ := hcut
        go_upto_region 12 with fail
        go_cut [92] (fun s W => s = .bool false ∧ Hid (BalAt W g c i) ∧ Hid (BalAt W (g + 1) d j) ∧ Hid (BalAt W (g + 1 + 1) f k) ∧ Hid (Below w.heap.size w W))
        case first =>
          obtain ⟨o1, o2, o3, o4, o5, o6⟩ := order_math (c := c) (d := d) (f := f) (i := i) (j := j) (k := k) hc0 hd0
          obtain ⟨lP6, mP6⟩ := hP6.out.cs
          obtain ⟨lQ6, mQ6⟩ := hQ6.out.cs
          obtain ⟨lR6, mR6⟩ := hR6.out.cs
          clear o1 o2
          clear o5 o6
          cases y0 : abB c i d j
          · cases y2 : covB c i d j
            · go_wp2_with fail
              refine (aborts_run _ _ _ _ _ (by omega) (by omega)).mono ?_
              rintro e V7 ⟨rfl, hb7⟩
              have HB7 := Lib.hid (bstep HB6.out hb7)
              have hP7 := Lib.hid (hP6.out.below hb7)
              obtain ⟨lP7, mP7⟩ := hP7.out.cs
              have hQ7 := Lib.hid (hQ6.out.below hb7)
              obtain ⟨lQ7, mQ7⟩ := hQ7.out.cs
              have hR7 := Lib.hid (hR6.out.below hb7)
              obtain ⟨lR7, mR7⟩ := hR7.out.cs
              clear hb7
              rw [y0]
              go_wp2_with fail
              refine (covers_run _ _ _ _ _ (by omega) (by omega)).mono ?_
              rintro e V8 ⟨rfl, hb8⟩
              have HB8 := Lib.hid (bstep HB7.out hb8)
              have hP8 := Lib.hid (hP7.out.below hb8)
              obtain ⟨lP8, mP8⟩ := hP8.out.cs
              have hQ8 := Lib.hid (hQ7.out.below hb8)
              obtain ⟨lQ8, mQ8⟩ := hQ8.out.cs
              have hR8 := Lib.hid (hR7.out.below hb8)
              obtain ⟨lR8, mR8⟩ := hR8.out.cs
              clear hb8
              rw [y2]
              go_wp2_with fail
              go_meet
              exact ⟨rfl, hP8, hQ8, hR8, HB8⟩
            · cases y1 : covB d j f k
              · go_wp2_with fail
                refine (aborts_run _ _ _ _ _ (by omega) (by omega)).mono ?_
                rintro e V7 ⟨rfl, hb7⟩
                have HB7 := Lib.hid (bstep HB6.out hb7)
                have hP7 := Lib.hid (hP6.out.below hb7)
                obtain ⟨lP7, mP7⟩ := hP7.out.cs
                have hQ7 := Lib.hid (hQ6.out.below hb7)
                obtain ⟨lQ7, mQ7⟩ := hQ7.out.cs
                have hR7 := Lib.hid (hR6.out.below hb7)
                obtain ⟨lR7, mR7⟩ := hR7.out.cs
                clear hb7
                rw [y0]
                go_wp2_with fail
                refine (covers_run _ _ _ _ _ (by omega) (by omega)).mono ?_
                rintro e V8 ⟨rfl, hb8⟩
                have HB8 := Lib.hid (bstep HB7.out hb8)
                have hP8 := Lib.hid (hP7.out.below hb8)
                obtain ⟨lP8, mP8⟩ := hP8.out.cs
                have hQ8 := Lib.hid (hQ7.out.below hb8)
                obtain ⟨lQ8, mQ8⟩ := hQ8.out.cs
                have hR8 := Lib.hid (hR7.out.below hb8)
                obtain ⟨lR8, mR8⟩ := hR8.out.cs
                clear hb8
                rw [y2]
                go_wp2_with fail
                refine (covers_run _ _ _ _ _ (by omega) (by omega)).mono ?_
                rintro e V9 ⟨rfl, hb9⟩
                have HB9 := Lib.hid (bstep HB8.out hb9)
                have hP9 := Lib.hid (hP8.out.below hb9)
                obtain ⟨lP9, mP9⟩ := hP9.out.cs
                have hQ9 := Lib.hid (hQ8.out.below hb9)
                obtain ⟨lQ9, mQ9⟩ := hQ9.out.cs
                have hR9 := Lib.hid (hR8.out.below hb9)
                obtain ⟨lR9, mR9⟩ := hR9.out.cs
                clear hb9
                rw [y1]
                go_wp2_with fail
                go_meet
                exact ⟨rfl, hP9, hQ9, hR9, HB9⟩
              · have y5 := o4 y2 y1
                go_wp2_with fail
                refine (aborts_run _ _ _ _ _ (by omega) (by omega)).mono ?_
                rintro e V7 ⟨rfl, hb7⟩
                have HB7 := Lib.hid (bstep HB6.out hb7)
                have hP7 := Lib.hid (hP6.out.below hb7)
                obtain ⟨lP7, mP7⟩ := hP7.out.cs
                have hQ7 := Lib.hid (hQ6.out.below hb7)
                obtain ⟨lQ7, mQ7⟩ := hQ7.out.cs
                have hR7 := Lib.hid (hR6.out.below hb7)
                obtain ⟨lR7, mR7⟩ := hR7.out.cs
                clear hb7
                rw [y0]
                go_wp2_with fail
                refine (covers_run _ _ _ _ _ (by omega) (by omega)).mono ?_
                rintro e V8 ⟨rfl, hb8⟩
                have HB8 := Lib.hid (bstep HB7.out hb8)
                have hP8 := Lib.hid (hP7.out.below hb8)
                obtain ⟨lP8, mP8⟩ := hP8.out.cs
                have hQ8 := Lib.hid (hQ7.out.below hb8)
                obtain ⟨lQ8, mQ8⟩ := hQ8.out.cs
                have hR8 := Lib.hid (hR7.out.below hb8)
                obtain ⟨lR8, mR8⟩ := hR8.out.cs
                clear hb8
                rw [y2]
                go_wp2_with fail
                refine (covers_run _ _ _ _ _ (by omega) (by omega)).mono ?_
                rintro e V9 ⟨rfl, hb9⟩
                have HB9 := Lib.hid (bstep HB8.out hb9)
                have hP9 := Lib.hid (hP8.out.below hb9)
                obtain ⟨lP9, mP9⟩ := hP9.out.cs
                have hQ9 := Lib.hid (hQ8.out.below hb9)
                obtain ⟨lQ9, mQ9⟩ := hQ9.out.cs
                have hR9 := Lib.hid (hR8.out.below hb9)
                obtain ⟨lR9, mR9⟩ := hR9.out.cs
                clear hb9
                rw [y1]
                go_wp2_with fail
                refine (covers_run _ _ _ _ _ (by omega) (by omega)).mono ?_
                rintro e V10 ⟨rfl, hb10⟩
                have HB10 := Lib.hid (bstep HB9.out hb10)
                have hP10 := Lib.hid (hP9.out.below hb10)
                obtain ⟨lP10, mP10⟩ := hP10.out.cs
                have hQ10 := Lib.hid (hQ9.out.below hb10)
                obtain ⟨lQ10, mQ10⟩ := hQ10.out.cs
                have hR10 := Lib.hid (hR9.out.below hb10)
                obtain ⟨lR10, mR10⟩ := hR10.out.cs
                clear hb10
                rw [y5]
                go_wp2_with fail
                go_meet
                exact ⟨rfl, hP10, hQ10, hR10, HB10⟩
          · cases y1 : covB d j f k
            · cases y2 : covB c i d j
              · go_wp2_with fail
                refine (aborts_run _ _ _ _ _ (by omega) (by omega)).mono ?_
                rintro e V7 ⟨rfl, hb7⟩
                have HB7 := Lib.hid (bstep HB6.out hb7)
                have hP7 := Lib.hid (hP6.out.below hb7)
                obtain ⟨lP7, mP7⟩ := hP7.out.cs
                have hQ7 := Lib.hid (hQ6.out.below hb7)
                obtain ⟨lQ7, mQ7⟩ := hQ7.out.cs
                have hR7 := Lib.hid (hR6.out.below hb7)
                obtain ⟨lR7, mR7⟩ := hR7.out.cs
                clear hb7
                rw [y0]
                go_wp2_with fail
                refine (covers_run _ _ _ _ _ (by omega) (by omega)).mono ?_
                rintro e V8 ⟨rfl, hb8⟩
                have HB8 := Lib.hid (bstep HB7.out hb8)
                have hP8 := Lib.hid (hP7.out.below hb8)
                obtain ⟨lP8, mP8⟩ := hP8.out.cs
                have hQ8 := Lib.hid (hQ7.out.below hb8)
                obtain ⟨lQ8, mQ8⟩ := hQ8.out.cs
                have hR8 := Lib.hid (hR7.out.below hb8)
                obtain ⟨lR8, mR8⟩ := hR8.out.cs
                clear hb8
                rw [y1]
                go_wp2_with fail
                refine (covers_run _ _ _ _ _ (by omega) (by omega)).mono ?_
                rintro e V9 ⟨rfl, hb9⟩
                have HB9 := Lib.hid (bstep HB8.out hb9)
                have hP9 := Lib.hid (hP8.out.below hb9)
                obtain ⟨lP9, mP9⟩ := hP9.out.cs
                have hQ9 := Lib.hid (hQ8.out.below hb9)
                obtain ⟨lQ9, mQ9⟩ := hQ9.out.cs
                have hR9 := Lib.hid (hR8.out.below hb9)
                obtain ⟨lR9, mR9⟩ := hR9.out.cs
                clear hb9
                rw [y2]
                go_wp2_with fail
                go_meet
                exact ⟨rfl, hP9, hQ9, hR9, HB9⟩
              · go_wp2_with fail
                refine (aborts_run _ _ _ _ _ (by omega) (by omega)).mono ?_
                rintro e V7 ⟨rfl, hb7⟩
                have HB7 := Lib.hid (bstep HB6.out hb7)
                have hP7 := Lib.hid (hP6.out.below hb7)
                obtain ⟨lP7, mP7⟩ := hP7.out.cs
                have hQ7 := Lib.hid (hQ6.out.below hb7)
                obtain ⟨lQ7, mQ7⟩ := hQ7.out.cs
                have hR7 := Lib.hid (hR6.out.below hb7)
                obtain ⟨lR7, mR7⟩ := hR7.out.cs
                clear hb7
                rw [y0]
                go_wp2_with fail
                refine (covers_run _ _ _ _ _ (by omega) (by omega)).mono ?_
                rintro e V8 ⟨rfl, hb8⟩
                have HB8 := Lib.hid (bstep HB7.out hb8)
                have hP8 := Lib.hid (hP7.out.below hb8)
                obtain ⟨lP8, mP8⟩ := hP8.out.cs
                have hQ8 := Lib.hid (hQ7.out.below hb8)
                obtain ⟨lQ8, mQ8⟩ := hQ8.out.cs
                have hR8 := Lib.hid (hR7.out.below hb8)
                obtain ⟨lR8, mR8⟩ := hR8.out.cs
                clear hb8
                rw [y1]
                go_wp2_with fail
                refine (covers_run _ _ _ _ _ (by omega) (by omega)).mono ?_
                rintro e V9 ⟨rfl, hb9⟩
                have HB9 := Lib.hid (bstep HB8.out hb9)
                have hP9 := Lib.hid (hP8.out.below hb9)
                obtain ⟨lP9, mP9⟩ := hP9.out.cs
                have hQ9 := Lib.hid (hQ8.out.below hb9)
                obtain ⟨lQ9, mQ9⟩ := hQ9.out.cs
                have hR9 := Lib.hid (hR8.out.below hb9)
                obtain ⟨lR9, mR9⟩ := hR9.out.cs
                clear hb9
                rw [y2]
                go_wp2_with fail
                refine (covers_run _ _ _ _ _ (by omega) (by omega)).mono ?_
                rintro e V10 ⟨rfl, hb10⟩
                have HB10 := Lib.hid (bstep HB9.out hb10)
                have hP10 := Lib.hid (hP9.out.below hb10)
                obtain ⟨lP10, mP10⟩ := hP10.out.cs
                have hQ10 := Lib.hid (hQ9.out.below hb10)
                obtain ⟨lQ10, mQ10⟩ := hQ10.out.cs
                have hR10 := Lib.hid (hR9.out.below hb10)
                obtain ⟨lR10, mR10⟩ := hR10.out.cs
                clear hb10
                rw [y1]
                go_wp2_with fail
                go_meet
                exact ⟨rfl, hP10, hQ10, hR10, HB10⟩
            · have y4 := o3 y0 y1
              cases y2 : covB c i d j
              · go_wp2_with fail
                refine (aborts_run _ _ _ _ _ (by omega) (by omega)).mono ?_
                rintro e V7 ⟨rfl, hb7⟩
                have HB7 := Lib.hid (bstep HB6.out hb7)
                have hP7 := Lib.hid (hP6.out.below hb7)
                obtain ⟨lP7, mP7⟩ := hP7.out.cs
                have hQ7 := Lib.hid (hQ6.out.below hb7)
                obtain ⟨lQ7, mQ7⟩ := hQ7.out.cs
                have hR7 := Lib.hid (hR6.out.below hb7)
                obtain ⟨lR7, mR7⟩ := hR7.out.cs
                clear hb7
                rw [y0]
                go_wp2_with fail
                refine (covers_run _ _ _ _ _ (by omega) (by omega)).mono ?_
                rintro e V8 ⟨rfl, hb8⟩
                have HB8 := Lib.hid (bstep HB7.out hb8)
                have hP8 := Lib.hid (hP7.out.below hb8)
                obtain ⟨lP8, mP8⟩ := hP8.out.cs
                have hQ8 := Lib.hid (hQ7.out.below hb8)
                obtain ⟨lQ8, mQ8⟩ := hQ8.out.cs
                have hR8 := Lib.hid (hR7.out.below hb8)
                obtain ⟨lR8, mR8⟩ := hR8.out.cs
                clear hb8
                rw [y1]
                go_wp2_with fail
                refine (aborts_run _ _ _ _ _ (by omega) (by omega)).mono ?_
                rintro e V9 ⟨rfl, hb9⟩
                have HB9 := Lib.hid (bstep HB8.out hb9)
                have hP9 := Lib.hid (hP8.out.below hb9)
                obtain ⟨lP9, mP9⟩ := hP9.out.cs
                have hQ9 := Lib.hid (hQ8.out.below hb9)
                obtain ⟨lQ9, mQ9⟩ := hQ9.out.cs
                have hR9 := Lib.hid (hR8.out.below hb9)
                obtain ⟨lR9, mR9⟩ := hR9.out.cs
                clear hb9
                rw [y4]
                go_wp2_with fail
                refine (covers_run _ _ _ _ _ (by omega) (by omega)).mono ?_
                rintro e V10 ⟨rfl, hb10⟩
                have HB10 := Lib.hid (bstep HB9.out hb10)
                have hP10 := Lib.hid (hP9.out.below hb10)
                obtain ⟨lP10, mP10⟩ := hP10.out.cs
                have hQ10 := Lib.hid (hQ9.out.below hb10)
                obtain ⟨lQ10, mQ10⟩ := hQ10.out.cs
                have hR10 := Lib.hid (hR9.out.below hb10)
                obtain ⟨lR10, mR10⟩ := hR10.out.cs
                clear hb10
                rw [y2]
                go_wp2_with fail
                go_meet
                exact ⟨rfl, hP10, hQ10, hR10, HB10⟩
              · have y5 := o4 y2 y1
                go_wp2_with fail
                refine (aborts_run _ _ _ _ _ (by omega) (by omega)).mono ?_
                rintro e V7 ⟨rfl, hb7⟩
                have HB7 := Lib.hid (bstep HB6.out hb7)
                have hP7 := Lib.hid (hP6.out.below hb7)
                obtain ⟨lP7, mP7⟩ := hP7.out.cs
                have hQ7 := Lib.hid (hQ6.out.below hb7)
                obtain ⟨lQ7, mQ7⟩ := hQ7.out.cs
                have hR7 := Lib.hid (hR6.out.below hb7)
                obtain ⟨lR7, mR7⟩ := hR7.out.cs
                clear hb7
                rw [y0]
                go_wp2_with fail
                refine (covers_run _ _ _ _ _ (by omega) (by omega)).mono ?_
                rintro e V8 ⟨rfl, hb8⟩
                have HB8 := Lib.hid (bstep HB7.out hb8)
                have hP8 := Lib.hid (hP7.out.below hb8)
                obtain ⟨lP8, mP8⟩ := hP8.out.cs
                have hQ8 := Lib.hid (hQ7.out.below hb8)
                obtain ⟨lQ8, mQ8⟩ := hQ8.out.cs
                have hR8 := Lib.hid (hR7.out.below hb8)
                obtain ⟨lR8, mR8⟩ := hR8.out.cs
                clear hb8
                rw [y1]
                go_wp2_with fail
                refine (aborts_run _ _ _ _ _ (by omega) (by omega)).mono ?_
                rintro e V9 ⟨rfl, hb9⟩
                have HB9 := Lib.hid (bstep HB8.out hb9)
                have hP9 := Lib.hid (hP8.out.below hb9)
                obtain ⟨lP9, mP9⟩ := hP9.out.cs
                have hQ9 := Lib.hid (hQ8.out.below hb9)
                obtain ⟨lQ9, mQ9⟩ := hQ9.out.cs
                have hR9 := Lib.hid (hR8.out.below hb9)
                obtain ⟨lR9, mR9⟩ := hR9.out.cs
                clear hb9
                rw [y4]
                go_wp2_with fail
                refine (covers_run _ _ _ _ _ (by omega) (by omega)).mono ?_
                rintro e V10 ⟨rfl, hb10⟩
                have HB10 := Lib.hid (bstep HB9.out hb10)
                have hP10 := Lib.hid (hP9.out.below hb10)
                obtain ⟨lP10, mP10⟩ := hP10.out.cs
                have hQ10 := Lib.hid (hQ9.out.below hb10)
                obtain ⟨lQ10, mQ10⟩ := hQ10.out.cs
                have hR10 := Lib.hid (hR9.out.below hb10)
                obtain ⟨lR10, mR10⟩ := hR10.out.cs
                clear hb10
                rw [y2]
                go_wp2_with fail
                refine (covers_run _ _ _ _ _ (by omega) (by omega)).mono ?_
                rintro e V11 ⟨rfl, hb11⟩
                have HB11 := Lib.hid (bstep HB10.out hb11)
                have hP11 := Lib.hid (hP10.out.below hb11)
                obtain ⟨lP11, mP11⟩ := hP11.out.cs
                have hQ11 := Lib.hid (hQ10.out.below hb11)
                obtain ⟨lQ11, mQ11⟩ := hQ11.out.cs
                have hR11 := Lib.hid (hR10.out.below hb11)
                obtain ⟨lR11, mR11⟩ := hR11.out.cs
                clear hb11
                rw [y1]
                go_wp2_with fail
                refine (covers_run _ _ _ _ _ (by omega) (by omega)).mono ?_
                rintro e V12 ⟨rfl, hb12⟩
                have HB12 := Lib.hid (bstep HB11.out hb12)
                have hP12 := Lib.hid (hP11.out.below hb12)
                obtain ⟨lP12, mP12⟩ := hP12.out.cs
                have hQ12 := Lib.hid (hQ11.out.below hb12)
                obtain ⟨lQ12, mQ12⟩ := hQ12.out.cs
                have hR12 := Lib.hid (hR11.out.below hb12)
                obtain ⟨lR12, mR12⟩ := hR12.out.cs
                clear hb12
                rw [y5]
                go_wp2_with fail
                go_meet
                exact ⟨rfl, hP12, hQ12, hR12, HB12⟩
        case rest =>
          obtain ⟨rfl, hP6, hQ6, hR6, HB6⟩ := hcut
          obtain ⟨o1, o2, o3, o4, o5, o6⟩ := order_math (c := c) (d := d) (f := f) (i := i) (j := j) (k := k) hc0 hd0
          clear o1 o2 o3 o4
          have hst := valOf_eqL hi1 hj1
          obtain ⟨lP6, mP6⟩ := hP6.out.cs
          obtain ⟨lQ6, mQ6⟩ := hQ6.out.cs
          go_upto_region 14 with fail
          cases hbij : decide (i = j)
          all_goals
            rw [hbij] at hst
            have hS6 := Lib.hid (show wc.drew.cell? ⟨g, 0, none⟩ = some (.int .i64 c) ∧ wc.drew.cell? ⟨g, 1, none⟩ = some (.string (valOf i)) ∧ wc.drew.cell? ⟨g + 1, 0, none⟩ = some (.int .i64 d) ∧ wc.drew.cell? ⟨g + 1, 1, none⟩ = some (.string (valOf j)) ∧ BalAt wc.drew g c i ∧ BalAt wc.drew (g + 1) d j ∧ BalAt wc.drew (g + 1 + 1) f k ∧ Below w.heap.size w wc.drew from ⟨lP6, mP6, lQ6, mQ6, hP6.out, hQ6.out, hR6.out, bdrew HB6.out⟩)
            go_region_held3 (fun W => W.cell? ⟨g, 0, none⟩ = some (.int .i64 c) ∧ W.cell? ⟨g, 1, none⟩ = some (.string (valOf i)) ∧ W.cell? ⟨g + 1, 0, none⟩ = some (.int .i64 d) ∧ W.cell? ⟨g + 1, 1, none⟩ = some (.string (valOf j)) ∧ BalAt W g c i ∧ BalAt W (g + 1) d j ∧ BalAt W (g + 1 + 1) f k ∧ Below w.heap.size w W) (first | exact hS6.out | exact keepS (by assumption) hbK | go_keep)
              (first
                | (go_at_call 50; refine (compat_run _ _ _ _ _ (by omega) (by omega)).mono ?_; rintro e WK ⟨rfl, hbK⟩; rw [hbij])
                | (go_at_call 48; refine (covers_run _ _ _ _ _ (by omega) (by omega)).mono ?_; rintro e WK ⟨rfl, hbK⟩; rw [o5])
                | (go_at_call 49; refine (aborts_run _ _ _ _ _ (by omega) (by omega)).mono ?_; rintro e WK ⟨rfl, hbK⟩; rw [o6])
                | (go_at_call 47; refine (sane23 _).mono ?_; rintro e WK ⟨rfl, hbK⟩))
            all_goals
              have hF : WK.cell? ⟨g, 0, none⟩ = some (.int .i64 c) ∧ WK.cell? ⟨g, 1, none⟩ = some (.string (valOf i)) ∧ WK.cell? ⟨g + 1, 0, none⟩ = some (.int .i64 d) ∧ WK.cell? ⟨g + 1, 1, none⟩ = some (.string (valOf j)) ∧ BalAt WK g c i ∧ BalAt WK (g + 1) d j ∧ BalAt WK (g + 1 + 1) f k ∧ Below w.heap.size w WK := by assumption
              go_wp2_with fail
              go_ret
              exact ⟨rfl, hF.2.2.2.2.2.2.2⟩
end Go.Proofs.Ytolodegbilagbaa
