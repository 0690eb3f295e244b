/- Ballots at any counters and values: the contracts of package ballots and of the reference. -/
import Derived.Test.YtnnajmoedihkjaaBal
import Derived.Test.YtnnajmoedihkjaaLess35
import Derived.Deep.DeepCutAuto
namespace Go.Proofs.Ytnnajmoedihkjaa
set_option linter.unusedVariables false
set_option linter.unusedSimpArgs false
open Go.RowKit

def zeroX (c : Int) (B : ByteArray) : Bool := (c == 0) && (B.toList == [])
def lvX (B C : ByteArray) : Bool := if B.size = C.size then Op.bytesLess B.toList C.toList else decide (B.size < C.size)
def lessX (c : Int) (B : ByteArray) (d : Int) (C : ByteArray) : Bool := if c = d then lvX B C else decide (c < d)
def compX (B C : ByteArray) : Bool := (B.toList == C.toList)
def covX (c : Int) (B : ByteArray) (d : Int) (C : ByteArray) : Bool := !zeroX c B && (compX B C && decide (d ≤ c))
def abX (c : Int) (B : ByteArray) (d : Int) (C : ByteArray) : Bool := !zeroX c B && (!compX B C && lessX d C c B)
def prepX (c : Int) (B : ByteArray) (d : Int) (C : ByteArray) (f : Int) (D : ByteArray) : Bool := covX c B f D || (covX d C f D || (!zeroX d C && lessX f D d C))
def validX (c : Int) (B : ByteArray) : Bool := (decide (1 ≤ c ∧ c ≤ 1000) || decide (c = 1000000)) && decide (1 ≤ B.size ∧ B.size ≤ 200)
/-- A ballot's two cells. -/
def Bs2 (g : Nat) (c : Int) (B : ByteArray) (W : World) : Prop := W.cell? ⟨g, 0, none⟩ = some (.int .i64 c) ∧ W.cell? ⟨g, 1, none⟩ = some (.string B)
theorem Bs2.below {g : Nat} {c : Int} {B : ByteArray} {W W' : World} (h : Bs2 g c B W) (hb : Below W.heap.size W W') : Bs2 g c B W' := ⟨(hb.cell (cell_lt h.1)).trans h.1, (hb.cell (cell_lt h.2)).trans h.2⟩
theorem Bs2.new (w : World) (c : Int) (B : ByteArray) : Bs2 w.heap.size c B (w.alloc (.cells #[.int .i64 c, .string B] 25)) := ⟨row_new w _ _ 0, row_new w _ _ 1⟩
theorem Bs2.alloc {g : Nat} {c : Int} {B : ByteArray} {W : World} (h : Bs2 g c B W) (q : Obj) : Bs2 g c B (W.alloc q) := h.below (balloc (bref _) _)

set_option maxHeartbeats 1000000 in
theorem zero_s (c : Int) (B : ByteArray) (w : World) : Calls Try.prog 12 #[.agg #[.int .i64 c, .string B]] w fun e w' => e = .returned (.bool (zeroX c B)) ∧ Below w.heap.size w w' := by
  go_enter Try.func12, Try.ntmps12
  go_wp2
  all_goals
    go_ret
    exact ⟨by unfold zeroX; simp_all, balloc (bref _) _⟩

set_option maxHeartbeats 1000000 in
theorem lv_s (B C : ByteArray) (w : World) : Calls Try.prog 18 #[.string B, .string C] w fun e w' => e = .returned (.bool (lvX B C)) ∧ w = w' := by
  by_cases h : B.size = C.size
  · have HL := Lib.hid (show lvX B C = Op.bytesLess B.toList C.toList from if_pos h)
    have q1 : ((B.size : Int) != (C.size : Int)) = false := by simp [h]
    go_enter Try.func18, Try.ntmps18
    go_wp2
    all_goals
      go_ret
      exact ⟨by rw [HL.out]; simp_all, rfl⟩
  · have HL := Lib.hid (show lvX B C = decide (B.size < C.size) from if_neg h)
    have q1 : ((B.size : Int) != (C.size : Int)) = true := by simp; omega
    clear h
    go_enter Try.func18, Try.ntmps18
    go_wp2
    all_goals
      go_ret
      exact ⟨by rw [HL.out]; simp_all, rfl⟩

set_option maxHeartbeats 1000000 in
theorem less_s (c : Int) (B : ByteArray) (d : Int) (C : ByteArray) (w : World) : Calls Try.prog 16 #[.agg #[.int .i64 c, .string B], .agg #[.int .i64 d, .string C]] w fun e w' => e = .returned (.bool (lessX c B d C)) ∧ Below w.heap.size w w' := by
  have HV := Lib.hid (fun W => lv_s B C W)
  by_cases hc : c = d
  · subst hc
    have HL := Lib.hid (show lessX c B c C = lvX B C from if_pos rfl)
    generalize lvX B C = r at *
    go_enter Try.func16, Try.ntmps16
    go_wp2_with (go_at_call 18; refine (HV.out _).mono ?_; rintro e w2 ⟨rfl, rfl⟩)
    go_ret
    exact ⟨by rw [HL.out]; rfl, balloc (balloc (bref _) _) _⟩
  · have hd : (c != d) = true := by simp [hc]
    have HL := Lib.hid (show lessX c B d C = decide (c < d) from if_neg hc)
    go_enter Try.func16, Try.ntmps16
    go_wp2
    go_ret
    exact ⟨by rw [HL.out]; rfl, balloc (balloc (bref _) _) _⟩

set_option maxHeartbeats 1000000 in
theorem comp_s (c : Int) (B : ByteArray) (d : Int) (C : ByteArray) (w : World) : Calls Try.prog 20 #[.agg #[.int .i64 c, .string B], .agg #[.int .i64 d, .string C]] w fun e w' => e = .returned (.bool (compX B C)) ∧ Below w.heap.size w w' := by
  go_enter Try.func20, Try.ntmps20
  go_wp2
  all_goals
    go_ret
    exact ⟨by unfold compX; simp_all, balloc (balloc (bref _) _) _⟩

set_option maxHeartbeats 4000000 in
theorem valid_s (c : Int) (B : ByteArray) (w : World) : Calls Try.prog 14 #[.agg #[.int .i64 c, .string B]] w fun e w' => e = .returned (.bool (validX c B)) ∧ Below w.heap.size w w' := by
  cases hval : validX c B
  all_goals
    have hv : validX c B = true ↔ ((1 ≤ c ∧ c ≤ 1000) ∨ c = 1000000) ∧ 1 ≤ B.size ∧ B.size ≤ 200 := by unfold validX; simp
    rw [hval] at hv
    have HL := Lib.hid hval
    clear hval
    by_cases h1 : 1 ≤ c <;> by_cases h2 : c ≤ 1000 <;> by_cases h3 : c = 1000000 <;> by_cases h5 : (1 : Int) ≤ (B.size : Int) <;> by_cases h6 : (B.size : Int) ≤ 200
  all_goals simp only [reduceCtorEq, false_iff, true_iff] at hv
  all_goals first | (exfalso; omega) | skip
  all_goals first | (have h4 : (c == 1000000) = true := by simpa using h3) | (have h4 : (c == 1000000) = false := by simpa using h3)
  all_goals
    clear h3 hv
    go_enter Try.func14, Try.ntmps14
    go_wp2
    go_ret
    exact ⟨rfl, balloc (bref _) _⟩

set_option maxHeartbeats 4000000 in
theorem cov_s (c : Int) (B : ByteArray) (d : Int) (C : ByteArray) (w : World) : Calls Try.prog 22 #[.agg #[.int .i64 c, .string B], .agg #[.int .i64 d, .string C]] w fun e w' => e = .returned (.bool (covX c B d C)) ∧ Below w.heap.size w w' := by
  have hn0 := Bs2.new (w) c B
  have hn1 := Bs2.new ((w).alloc (.cells #[.int .i64 c, .string B] 25)) d C
  rw [show ((w).alloc (.cells #[.int .i64 c, .string B] 25)).heap.size = w.heap.size + 1 by simp] at hn1
  have HU0_0 := Lib.hid (show Bs2 (w.heap.size) c B ((w.alloc (.cells #[.int .i64 c, .string B] 25)).alloc (.cells #[.int .i64 d, .string C] 25)) from (hn0).alloc _)
  have HU1_0 := Lib.hid (show Bs2 (w.heap.size + 1) d C ((w.alloc (.cells #[.int .i64 c, .string B] 25)).alloc (.cells #[.int .i64 d, .string C] 25)) from hn1)
  have HB_0 := Lib.hid (balloc (balloc (bref w) (.cells #[.int .i64 c, .string B] 25)) (.cells #[.int .i64 d, .string C] 25))
  clear hn0 hn1
  have HC0 := Lib.hid (fun W => zero_s c B W)
  obtain ⟨b0, hb0⟩ : ∃ b, zeroX c B = b := ⟨_, rfl⟩
  rw [hb0] at HC0
  have HC1 := Lib.hid (fun W => comp_s c B d C W)
  obtain ⟨b1, hb1⟩ : ∃ b, compX B C = b := ⟨_, rfl⟩
  rw [hb1] at HC1
  have HS : Hid (covX c B d C = (!b0 && (b1 && decide (d ≤ c)))) := Lib.hid (by unfold covX; rw [hb0, hb1])
  clear hb0 hb1
  rcases (show b0 = true ∨ b0 = false by cases b0 <;> simp) with hq0 | hq0
  · skip
    obtain rfl : b0 = true := hq0
    go_enter Try.func22, Try.ntmps22
    go_upto_region 1 with fail
    generalize (w.alloc (.cells #[.int .i64 c, .string B] 25)).alloc (.cells #[.int .i64 d, .string C] 25) = W_0 at *
    obtain ⟨u0_0, u0_1⟩ := HU0_0.out
    obtain ⟨u1_0, u1_1⟩ := HU1_0.out
    go_wp2_with fail
    refine (HC0.out _).mono ?_
    rintro e W_1 ⟨rfl, hbw⟩
    have HU0_1 := Lib.hid (HU0_0.out.below hbw)
    have HU1_1 := Lib.hid (HU1_0.out.below hbw)
    have HB_1 := Lib.hid (bstep HB_0.out hbw)
    clear hbw u0_0 u0_1 u1_0 u1_1
    obtain ⟨u0_0, u0_1⟩ := HU0_1.out
    obtain ⟨u1_0, u1_1⟩ := HU1_1.out
    go_wp2_with fail
    go_ret
    exact ⟨by rw [HS.out]; first | rfl | simp, HB_1.out⟩
  · skip
    rcases (show b1 = true ∨ b1 = false by cases b1 <;> simp) with hq1 | hq1
    · skip
      obtain rfl : b0 = false := hq0
      obtain rfl : b1 = true := hq1
      go_enter Try.func22, Try.ntmps22
      go_upto_region 1 with fail
      generalize (w.alloc (.cells #[.int .i64 c, .string B] 25)).alloc (.cells #[.int .i64 d, .string C] 25) = W_0 at *
      obtain ⟨u0_0, u0_1⟩ := HU0_0.out
      obtain ⟨u1_0, u1_1⟩ := HU1_0.out
      go_wp2_with fail
      refine (HC0.out _).mono ?_
      rintro e W_1 ⟨rfl, hbw⟩
      have HU0_1 := Lib.hid (HU0_0.out.below hbw)
      have HU1_1 := Lib.hid (HU1_0.out.below hbw)
      have HB_1 := Lib.hid (bstep HB_0.out hbw)
      clear hbw u0_0 u0_1 u1_0 u1_1
      obtain ⟨u0_0, u0_1⟩ := HU0_1.out
      obtain ⟨u1_0, u1_1⟩ := HU1_1.out
      go_wp2_with fail
      refine (HC1.out _).mono ?_
      rintro e W_2 ⟨rfl, hbw⟩
      have HU0_2 := Lib.hid (HU0_1.out.below hbw)
      have HU1_2 := Lib.hid (HU1_1.out.below hbw)
      have HB_2 := Lib.hid (bstep HB_1.out hbw)
      clear hbw u0_0 u0_1 u1_0 u1_1
      obtain ⟨u0_0, u0_1⟩ := HU0_2.out
      obtain ⟨u1_0, u1_1⟩ := HU1_2.out
      go_wp2_with fail
      go_ret
      exact ⟨by rw [HS.out]; first | rfl | simp, HB_2.out⟩
    · skip
      obtain rfl : b0 = false := hq0
      obtain rfl : b1 = false := hq1
      go_enter Try.func22, Try.ntmps22
      go_upto_region 1 with fail
      generalize (w.alloc (.cells #[.int .i64 c, .string B] 25)).alloc (.cells #[.int .i64 d, .string C] 25) = W_0 at *
      obtain ⟨u0_0, u0_1⟩ := HU0_0.out
      obtain ⟨u1_0, u1_1⟩ := HU1_0.out
      go_wp2_with fail
      refine (HC0.out _).mono ?_
      rintro e W_1 ⟨rfl, hbw⟩
      have HU0_1 := Lib.hid (HU0_0.out.below hbw)
      have HU1_1 := Lib.hid (HU1_0.out.below hbw)
      have HB_1 := Lib.hid (bstep HB_0.out hbw)
      clear hbw u0_0 u0_1 u1_0 u1_1
      obtain ⟨u0_0, u0_1⟩ := HU0_1.out
      obtain ⟨u1_0, u1_1⟩ := HU1_1.out
      go_wp2_with fail
      refine (HC1.out _).mono ?_
      rintro e W_2 ⟨rfl, hbw⟩
      have HU0_2 := Lib.hid (HU0_1.out.below hbw)
      have HU1_2 := Lib.hid (HU1_1.out.below hbw)
      have HB_2 := Lib.hid (bstep HB_1.out hbw)
      clear hbw u0_0 u0_1 u1_0 u1_1
      obtain ⟨u0_0, u0_1⟩ := HU0_2.out
      obtain ⟨u1_0, u1_1⟩ := HU1_2.out
      go_wp2_with fail
      go_ret
      exact ⟨by rw [HS.out]; first | rfl | simp, HB_2.out⟩

set_option maxHeartbeats 4000000 in
theorem ab_s (c : Int) (B : ByteArray) (d : Int) (C : ByteArray) (w : World) : Calls Try.prog 24 #[.agg #[.int .i64 c, .string B], .agg #[.int .i64 d, .string C]] w fun e w' => e = .returned (.bool (abX c B d C)) ∧ Below w.heap.size w w' := by
  have hn0 := Bs2.new (w) c B
  have hn1 := Bs2.new ((w).alloc (.cells #[.int .i64 c, .string B] 25)) d C
  rw [show ((w).alloc (.cells #[.int .i64 c, .string B] 25)).heap.size = w.heap.size + 1 by simp] at hn1
  have HU0_0 := Lib.hid (show Bs2 (w.heap.size) c B ((w.alloc (.cells #[.int .i64 c, .string B] 25)).alloc (.cells #[.int .i64 d, .string C] 25)) from (hn0).alloc _)
  have HU1_0 := Lib.hid (show Bs2 (w.heap.size + 1) d C ((w.alloc (.cells #[.int .i64 c, .string B] 25)).alloc (.cells #[.int .i64 d, .string C] 25)) from hn1)
  have HB_0 := Lib.hid (balloc (balloc (bref w) (.cells #[.int .i64 c, .string B] 25)) (.cells #[.int .i64 d, .string C] 25))
  clear hn0 hn1
  have HC0 := Lib.hid (fun W => zero_s c B W)
  obtain ⟨b0, hb0⟩ : ∃ b, zeroX c B = b := ⟨_, rfl⟩
  rw [hb0] at HC0
  have HC1 := Lib.hid (fun W => comp_s c B d C W)
  obtain ⟨b1, hb1⟩ : ∃ b, compX B C = b := ⟨_, rfl⟩
  rw [hb1] at HC1
  have HC2 := Lib.hid (fun W => less_s d C c B W)
  obtain ⟨b2, hb2⟩ : ∃ b, lessX d C c B = b := ⟨_, rfl⟩
  rw [hb2] at HC2
  have HS : Hid (abX c B d C = (!b0 && (!b1 && b2))) := Lib.hid (by unfold abX; rw [hb0, hb1, hb2])
  clear hb0 hb1 hb2
  rcases (show b0 = true ∨ b0 = false by cases b0 <;> simp) with hq0 | hq0
  · skip
    obtain rfl : b0 = true := hq0
    go_enter Try.func24, Try.ntmps24
    go_upto_region 1 with fail
    generalize (w.alloc (.cells #[.int .i64 c, .string B] 25)).alloc (.cells #[.int .i64 d, .string C] 25) = W_0 at *
    obtain ⟨u0_0, u0_1⟩ := HU0_0.out
    obtain ⟨u1_0, u1_1⟩ := HU1_0.out
    go_wp2_with fail
    refine (HC0.out _).mono ?_
    rintro e W_1 ⟨rfl, hbw⟩
    have HU0_1 := Lib.hid (HU0_0.out.below hbw)
    have HU1_1 := Lib.hid (HU1_0.out.below hbw)
    have HB_1 := Lib.hid (bstep HB_0.out hbw)
    clear hbw u0_0 u0_1 u1_0 u1_1
    obtain ⟨u0_0, u0_1⟩ := HU0_1.out
    obtain ⟨u1_0, u1_1⟩ := HU1_1.out
    go_wp2_with fail
    go_ret
    exact ⟨by rw [HS.out]; first | rfl | simp, HB_1.out⟩
  · skip
    rcases (show b1 = true ∨ b1 = false by cases b1 <;> simp) with hq1 | hq1
    · skip
      obtain rfl : b0 = false := hq0
      obtain rfl : b1 = true := hq1
      go_enter Try.func24, Try.ntmps24
      go_upto_region 1 with fail
      generalize (w.alloc (.cells #[.int .i64 c, .string B] 25)).alloc (.cells #[.int .i64 d, .string C] 25) = W_0 at *
      obtain ⟨u0_0, u0_1⟩ := HU0_0.out
      obtain ⟨u1_0, u1_1⟩ := HU1_0.out
      go_wp2_with fail
      refine (HC0.out _).mono ?_
      rintro e W_1 ⟨rfl, hbw⟩
      have HU0_1 := Lib.hid (HU0_0.out.below hbw)
      have HU1_1 := Lib.hid (HU1_0.out.below hbw)
      have HB_1 := Lib.hid (bstep HB_0.out hbw)
      clear hbw u0_0 u0_1 u1_0 u1_1
      obtain ⟨u0_0, u0_1⟩ := HU0_1.out
      obtain ⟨u1_0, u1_1⟩ := HU1_1.out
      go_wp2_with fail
      refine (HC1.out _).mono ?_
      rintro e W_2 ⟨rfl, hbw⟩
      have HU0_2 := Lib.hid (HU0_1.out.below hbw)
      have HU1_2 := Lib.hid (HU1_1.out.below hbw)
      have HB_2 := Lib.hid (bstep HB_1.out hbw)
      clear hbw u0_0 u0_1 u1_0 u1_1
      obtain ⟨u0_0, u0_1⟩ := HU0_2.out
      obtain ⟨u1_0, u1_1⟩ := HU1_2.out
      go_wp2_with fail
      go_ret
      exact ⟨by rw [HS.out]; first | rfl | simp, HB_2.out⟩
    · skip
      obtain rfl : b0 = false := hq0
      obtain rfl : b1 = false := hq1
      go_enter Try.func24, Try.ntmps24
      go_upto_region 1 with fail
      generalize (w.alloc (.cells #[.int .i64 c, .string B] 25)).alloc (.cells #[.int .i64 d, .string C] 25) = W_0 at *
      obtain ⟨u0_0, u0_1⟩ := HU0_0.out
      obtain ⟨u1_0, u1_1⟩ := HU1_0.out
      go_wp2_with fail
      refine (HC0.out _).mono ?_
      rintro e W_1 ⟨rfl, hbw⟩
      have HU0_1 := Lib.hid (HU0_0.out.below hbw)
      have HU1_1 := Lib.hid (HU1_0.out.below hbw)
      have HB_1 := Lib.hid (bstep HB_0.out hbw)
      clear hbw u0_0 u0_1 u1_0 u1_1
      obtain ⟨u0_0, u0_1⟩ := HU0_1.out
      obtain ⟨u1_0, u1_1⟩ := HU1_1.out
      go_wp2_with fail
      refine (HC1.out _).mono ?_
      rintro e W_2 ⟨rfl, hbw⟩
      have HU0_2 := Lib.hid (HU0_1.out.below hbw)
      have HU1_2 := Lib.hid (HU1_1.out.below hbw)
      have HB_2 := Lib.hid (bstep HB_1.out hbw)
      clear hbw u0_0 u0_1 u1_0 u1_1
      obtain ⟨u0_0, u0_1⟩ := HU0_2.out
      obtain ⟨u1_0, u1_1⟩ := HU1_2.out
      go_wp2_with fail
      refine (HC2.out _).mono ?_
      rintro e W_3 ⟨rfl, hbw⟩
      have HU0_3 := Lib.hid (HU0_2.out.below hbw)
      have HU1_3 := Lib.hid (HU1_2.out.below hbw)
      have HB_3 := Lib.hid (bstep HB_2.out hbw)
      clear hbw u0_0 u0_1 u1_0 u1_1
      obtain ⟨u0_0, u0_1⟩ := HU0_3.out
      obtain ⟨u1_0, u1_1⟩ := HU1_3.out
      go_wp2_with fail
      go_ret
      exact ⟨by rw [HS.out]; first | rfl | simp, HB_3.out⟩

set_option maxHeartbeats 4000000 in
theorem prep_s (c : Int) (B : ByteArray) (d : Int) (C : ByteArray) (f : Int) (D : ByteArray) (w : World) : Calls Try.prog 26 #[.agg #[.int .i64 c, .string B], .agg #[.int .i64 d, .string C], .agg #[.int .i64 f, .string D]] w fun e w' => e = .returned (.bool (prepX c B d C f D)) ∧ Below w.heap.size w w' := by
  have hn0 := Bs2.new (w) c B
  have hn1 := Bs2.new ((w).alloc (.cells #[.int .i64 c, .string B] 25)) d C
  rw [show ((w).alloc (.cells #[.int .i64 c, .string B] 25)).heap.size = w.heap.size + 1 by simp] at hn1
  have hn2 := Bs2.new (((w).alloc (.cells #[.int .i64 c, .string B] 25)).alloc (.cells #[.int .i64 d, .string C] 25)) f D
  rw [show (((w).alloc (.cells #[.int .i64 c, .string B] 25)).alloc (.cells #[.int .i64 d, .string C] 25)).heap.size = w.heap.size + 2 by simp] at hn2
  have HU0_0 := Lib.hid (show Bs2 (w.heap.size) c B (((w.alloc (.cells #[.int .i64 c, .string B] 25)).alloc (.cells #[.int .i64 d, .string C] 25)).alloc (.cells #[.int .i64 f, .string D] 25)) from ((hn0).alloc _).alloc _)
  have HU1_0 := Lib.hid (show Bs2 (w.heap.size + 1) d C (((w.alloc (.cells #[.int .i64 c, .string B] 25)).alloc (.cells #[.int .i64 d, .string C] 25)).alloc (.cells #[.int .i64 f, .string D] 25)) from (hn1).alloc _)
  have HU2_0 := Lib.hid (show Bs2 (w.heap.size + 2) f D (((w.alloc (.cells #[.int .i64 c, .string B] 25)).alloc (.cells #[.int .i64 d, .string C] 25)).alloc (.cells #[.int .i64 f, .string D] 25)) from hn2)
  have HB_0 := Lib.hid (balloc (balloc (balloc (bref w) (.cells #[.int .i64 c, .string B] 25)) (.cells #[.int .i64 d, .string C] 25)) (.cells #[.int .i64 f, .string D] 25))
  clear hn0 hn1 hn2
  have HC0 := Lib.hid (fun W => cov_s c B f D W)
  obtain ⟨b0, hb0⟩ : ∃ b, covX c B f D = b := ⟨_, rfl⟩
  rw [hb0] at HC0
  have HC1 := Lib.hid (fun W => cov_s d C f D W)
  obtain ⟨b1, hb1⟩ : ∃ b, covX d C f D = b := ⟨_, rfl⟩
  rw [hb1] at HC1
  have HC2 := Lib.hid (fun W => zero_s d C W)
  obtain ⟨b2, hb2⟩ : ∃ b, zeroX d C = b := ⟨_, rfl⟩
  rw [hb2] at HC2
  have HC3 := Lib.hid (fun W => less_s f D d C W)
  obtain ⟨b3, hb3⟩ : ∃ b, lessX f D d C = b := ⟨_, rfl⟩
  rw [hb3] at HC3
  have HS : Hid (prepX c B d C f D = (b0 || (b1 || (!b2 && b3)))) := Lib.hid (by unfold prepX; rw [hb0, hb1, hb2, hb3])
  clear hb0 hb1 hb2 hb3
  rcases (show b0 = true ∨ b0 = false by cases b0 <;> simp) with hq0 | hq0
  · skip
    obtain rfl : b0 = true := hq0
    go_enter Try.func26, Try.ntmps26
    go_upto_region 1 with fail
    generalize ((w.alloc (.cells #[.int .i64 c, .string B] 25)).alloc (.cells #[.int .i64 d, .string C] 25)).alloc (.cells #[.int .i64 f, .string D] 25) = W_0 at *
    obtain ⟨u0_0, u0_1⟩ := HU0_0.out
    obtain ⟨u1_0, u1_1⟩ := HU1_0.out
    obtain ⟨u2_0, u2_1⟩ := HU2_0.out
    go_wp2_with fail
    refine (HC0.out _).mono ?_
    rintro e W_1 ⟨rfl, hbw⟩
    have HU0_1 := Lib.hid (HU0_0.out.below hbw)
    have HU1_1 := Lib.hid (HU1_0.out.below hbw)
    have HU2_1 := Lib.hid (HU2_0.out.below hbw)
    have HB_1 := Lib.hid (bstep HB_0.out hbw)
    clear hbw u0_0 u0_1 u1_0 u1_1 u2_0 u2_1
    obtain ⟨u0_0, u0_1⟩ := HU0_1.out
    obtain ⟨u1_0, u1_1⟩ := HU1_1.out
    obtain ⟨u2_0, u2_1⟩ := HU2_1.out
    go_wp2_with fail
    go_ret
    exact ⟨by rw [HS.out]; first | rfl | simp, HB_1.out⟩
  · skip
    rcases (show b1 = true ∨ b1 = false by cases b1 <;> simp) with hq1 | hq1
    · skip
      obtain rfl : b0 = false := hq0
      obtain rfl : b1 = true := hq1
      go_enter Try.func26, Try.ntmps26
      go_upto_region 1 with fail
      generalize ((w.alloc (.cells #[.int .i64 c, .string B] 25)).alloc (.cells #[.int .i64 d, .string C] 25)).alloc (.cells #[.int .i64 f, .string D] 25) = W_0 at *
      obtain ⟨u0_0, u0_1⟩ := HU0_0.out
      obtain ⟨u1_0, u1_1⟩ := HU1_0.out
      obtain ⟨u2_0, u2_1⟩ := HU2_0.out
      go_wp2_with fail
      refine (HC0.out _).mono ?_
      rintro e W_1 ⟨rfl, hbw⟩
      have HU0_1 := Lib.hid (HU0_0.out.below hbw)
      have HU1_1 := Lib.hid (HU1_0.out.below hbw)
      have HU2_1 := Lib.hid (HU2_0.out.below hbw)
      have HB_1 := Lib.hid (bstep HB_0.out hbw)
      clear hbw u0_0 u0_1 u1_0 u1_1 u2_0 u2_1
      obtain ⟨u0_0, u0_1⟩ := HU0_1.out
      obtain ⟨u1_0, u1_1⟩ := HU1_1.out
      obtain ⟨u2_0, u2_1⟩ := HU2_1.out
      go_wp2_with fail
      refine (HC1.out _).mono ?_
      rintro e W_2 ⟨rfl, hbw⟩
      have HU0_2 := Lib.hid (HU0_1.out.below hbw)
      have HU1_2 := Lib.hid (HU1_1.out.below hbw)
      have HU2_2 := Lib.hid (HU2_1.out.below hbw)
      have HB_2 := Lib.hid (bstep HB_1.out hbw)
      clear hbw u0_0 u0_1 u1_0 u1_1 u2_0 u2_1
      obtain ⟨u0_0, u0_1⟩ := HU0_2.out
      obtain ⟨u1_0, u1_1⟩ := HU1_2.out
      obtain ⟨u2_0, u2_1⟩ := HU2_2.out
      go_wp2_with fail
      go_ret
      exact ⟨by rw [HS.out]; first | rfl | simp, HB_2.out⟩
    · skip
      rcases (show b2 = true ∨ b2 = false by cases b2 <;> simp) with hq2 | hq2
      · skip
        obtain rfl : b0 = false := hq0
        obtain rfl : b1 = false := hq1
        obtain rfl : b2 = true := hq2
        go_enter Try.func26, Try.ntmps26
        go_upto_region 1 with fail
        generalize ((w.alloc (.cells #[.int .i64 c, .string B] 25)).alloc (.cells #[.int .i64 d, .string C] 25)).alloc (.cells #[.int .i64 f, .string D] 25) = W_0 at *
        obtain ⟨u0_0, u0_1⟩ := HU0_0.out
        obtain ⟨u1_0, u1_1⟩ := HU1_0.out
        obtain ⟨u2_0, u2_1⟩ := HU2_0.out
        go_wp2_with fail
        refine (HC0.out _).mono ?_
        rintro e W_1 ⟨rfl, hbw⟩
        have HU0_1 := Lib.hid (HU0_0.out.below hbw)
        have HU1_1 := Lib.hid (HU1_0.out.below hbw)
        have HU2_1 := Lib.hid (HU2_0.out.below hbw)
        have HB_1 := Lib.hid (bstep HB_0.out hbw)
        clear hbw u0_0 u0_1 u1_0 u1_1 u2_0 u2_1
        obtain ⟨u0_0, u0_1⟩ := HU0_1.out
        obtain ⟨u1_0, u1_1⟩ := HU1_1.out
        obtain ⟨u2_0, u2_1⟩ := HU2_1.out
        go_wp2_with fail
        refine (HC1.out _).mono ?_
        rintro e W_2 ⟨rfl, hbw⟩
        have HU0_2 := Lib.hid (HU0_1.out.below hbw)
        have HU1_2 := Lib.hid (HU1_1.out.below hbw)
        have HU2_2 := Lib.hid (HU2_1.out.below hbw)
        have HB_2 := Lib.hid (bstep HB_1.out hbw)
        clear hbw u0_0 u0_1 u1_0 u1_1 u2_0 u2_1
        obtain ⟨u0_0, u0_1⟩ := HU0_2.out
        obtain ⟨u1_0, u1_1⟩ := HU1_2.out
        obtain ⟨u2_0, u2_1⟩ := HU2_2.out
        go_wp2_with fail
        refine (HC2.out _).mono ?_
        rintro e W_3 ⟨rfl, hbw⟩
        have HU0_3 := Lib.hid (HU0_2.out.below hbw)
        have HU1_3 := Lib.hid (HU1_2.out.below hbw)
        have HU2_3 := Lib.hid (HU2_2.out.below hbw)
        have HB_3 := Lib.hid (bstep HB_2.out hbw)
        clear hbw u0_0 u0_1 u1_0 u1_1 u2_0 u2_1
        obtain ⟨u0_0, u0_1⟩ := HU0_3.out
        obtain ⟨u1_0, u1_1⟩ := HU1_3.out
        obtain ⟨u2_0, u2_1⟩ := HU2_3.out
        go_wp2_with fail
        go_ret
        exact ⟨by rw [HS.out]; first | rfl | simp, HB_3.out⟩
      · skip
        obtain rfl : b0 = false := hq0
        obtain rfl : b1 = false := hq1
        obtain rfl : b2 = false := hq2
        go_enter Try.func26, Try.ntmps26
        go_upto_region 1 with fail
        generalize ((w.alloc (.cells #[.int .i64 c, .string B] 25)).alloc (.cells #[.int .i64 d, .string C] 25)).alloc (.cells #[.int .i64 f, .string D] 25) = W_0 at *
        obtain ⟨u0_0, u0_1⟩ := HU0_0.out
        obtain ⟨u1_0, u1_1⟩ := HU1_0.out
        obtain ⟨u2_0, u2_1⟩ := HU2_0.out
        go_wp2_with fail
        refine (HC0.out _).mono ?_
        rintro e W_1 ⟨rfl, hbw⟩
        have HU0_1 := Lib.hid (HU0_0.out.below hbw)
        have HU1_1 := Lib.hid (HU1_0.out.below hbw)
        have HU2_1 := Lib.hid (HU2_0.out.below hbw)
        have HB_1 := Lib.hid (bstep HB_0.out hbw)
        clear hbw u0_0 u0_1 u1_0 u1_1 u2_0 u2_1
        obtain ⟨u0_0, u0_1⟩ := HU0_1.out
        obtain ⟨u1_0, u1_1⟩ := HU1_1.out
        obtain ⟨u2_0, u2_1⟩ := HU2_1.out
        go_wp2_with fail
        refine (HC1.out _).mono ?_
        rintro e W_2 ⟨rfl, hbw⟩
        have HU0_2 := Lib.hid (HU0_1.out.below hbw)
        have HU1_2 := Lib.hid (HU1_1.out.below hbw)
        have HU2_2 := Lib.hid (HU2_1.out.below hbw)
        have HB_2 := Lib.hid (bstep HB_1.out hbw)
        clear hbw u0_0 u0_1 u1_0 u1_1 u2_0 u2_1
        obtain ⟨u0_0, u0_1⟩ := HU0_2.out
        obtain ⟨u1_0, u1_1⟩ := HU1_2.out
        obtain ⟨u2_0, u2_1⟩ := HU2_2.out
        go_wp2_with fail
        refine (HC2.out _).mono ?_
        rintro e W_3 ⟨rfl, hbw⟩
        have HU0_3 := Lib.hid (HU0_2.out.below hbw)
        have HU1_3 := Lib.hid (HU1_2.out.below hbw)
        have HU2_3 := Lib.hid (HU2_2.out.below hbw)
        have HB_3 := Lib.hid (bstep HB_2.out hbw)
        clear hbw u0_0 u0_1 u1_0 u1_1 u2_0 u2_1
        obtain ⟨u0_0, u0_1⟩ := HU0_3.out
        obtain ⟨u1_0, u1_1⟩ := HU1_3.out
        obtain ⟨u2_0, u2_1⟩ := HU2_3.out
        go_wp2_with fail
        refine (HC3.out _).mono ?_
        rintro e W_4 ⟨rfl, hbw⟩
        have HU0_4 := Lib.hid (HU0_3.out.below hbw)
        have HU1_4 := Lib.hid (HU1_3.out.below hbw)
        have HU2_4 := Lib.hid (HU2_3.out.below hbw)
        have HB_4 := Lib.hid (bstep HB_3.out hbw)
        clear hbw u0_0 u0_1 u1_0 u1_1 u2_0 u2_1
        obtain ⟨u0_0, u0_1⟩ := HU0_4.out
        obtain ⟨u1_0, u1_1⟩ := HU1_4.out
        obtain ⟨u2_0, u2_1⟩ := HU2_4.out
        go_wp2_with fail
        go_ret
        exact ⟨by rw [HS.out]; first | rfl | simp, HB_4.out⟩

set_option maxHeartbeats 1000000 in
theorem zero_r (c : Int) (B : ByteArray) (w : World) : Calls Try.prog 13 #[.agg #[.int .i64 c, .string B]] w fun e w' => e = .returned (.bool (zeroX c B)) ∧ Below w.heap.size w w' := by
  go_enter Try.func13, Try.ntmps13
  go_wp2
  all_goals
    go_ret
    exact ⟨by unfold zeroX; simp_all, balloc (bref _) _⟩

set_option maxHeartbeats 1000000 in
theorem lv_r (B C : ByteArray) (w : World) : Calls Try.prog 19 #[.string B, .string C] w fun e w' => e = .returned (.bool (lvX B C)) ∧ w = w' := by
  by_cases h : B.size = C.size
  · have HL := Lib.hid (show lvX B C = Op.bytesLess B.toList C.toList from if_pos h)
    have q1 : ((B.size : Int) != (C.size : Int)) = false := by simp [h]
    go_enter Try.func19, Try.ntmps19
    go_wp2
    all_goals
      go_ret
      exact ⟨by rw [HL.out]; simp_all, rfl⟩
  · have HL := Lib.hid (show lvX B C = decide (B.size < C.size) from if_neg h)
    have q1 : ((B.size : Int) != (C.size : Int)) = true := by simp; omega
    clear h
    go_enter Try.func19, Try.ntmps19
    go_wp2
    all_goals
      go_ret
      exact ⟨by rw [HL.out]; simp_all, rfl⟩

set_option maxHeartbeats 1000000 in
theorem less_r (c : Int) (B : ByteArray) (d : Int) (C : ByteArray) (w : World) : Calls Try.prog 17 #[.agg #[.int .i64 c, .string B], .agg #[.int .i64 d, .string C]] w fun e w' => e = .returned (.bool (lessX c B d C)) ∧ Below w.heap.size w w' := by
  have HV := Lib.hid (fun W => lv_r B C W)
  by_cases hc : c = d
  · subst hc
    have HL := Lib.hid (show lessX c B c C = lvX B C from if_pos rfl)
    generalize lvX B C = r at *
    go_enter Try.func17, Try.ntmps17
    go_wp2_with (go_at_call 19; refine (HV.out _).mono ?_; rintro e w2 ⟨rfl, rfl⟩)
    go_ret
    exact ⟨by rw [HL.out]; rfl, balloc (balloc (bref _) _) _⟩
  · have hd : (c != d) = true := by simp [hc]
    have HL := Lib.hid (show lessX c B d C = decide (c < d) from if_neg hc)
    go_enter Try.func17, Try.ntmps17
    go_wp2
    go_ret
    exact ⟨by rw [HL.out]; rfl, balloc (balloc (bref _) _) _⟩

set_option maxHeartbeats 1000000 in
theorem comp_r (c : Int) (B : ByteArray) (d : Int) (C : ByteArray) (w : World) : Calls Try.prog 21 #[.agg #[.int .i64 c, .string B], .agg #[.int .i64 d, .string C]] w fun e w' => e = .returned (.bool (compX B C)) ∧ Below w.heap.size w w' := by
  go_enter Try.func21, Try.ntmps21
  go_wp2
  all_goals
    go_ret
    exact ⟨by unfold compX; simp_all, balloc (balloc (bref _) _) _⟩

set_option maxHeartbeats 4000000 in
theorem valid_r (c : Int) (B : ByteArray) (w : World) : Calls Try.prog 15 #[.agg #[.int .i64 c, .string B]] w fun e w' => e = .returned (.bool (validX c B)) ∧ Below w.heap.size w w' := by
  cases hval : validX c B
  all_goals
    have hv : validX c B = true ↔ ((1 ≤ c ∧ c ≤ 1000) ∨ c = 1000000) ∧ 1 ≤ B.size ∧ B.size ≤ 200 := by unfold validX; simp
    rw [hval] at hv
    have HL := Lib.hid hval
    clear hval
    by_cases h1 : 1 ≤ c <;> by_cases h2 : c ≤ 1000 <;> by_cases h3 : c = 1000000 <;> by_cases h5 : (1 : Int) ≤ (B.size : Int) <;> by_cases h6 : (B.size : Int) ≤ 200
  all_goals simp only [reduceCtorEq, false_iff, true_iff] at hv
  all_goals first | (exfalso; omega) | skip
  all_goals first | (have h4 : (c == 1000000) = true := by simpa using h3) | (have h4 : (c == 1000000) = false := by simpa using h3)
  all_goals
    clear h3 hv
    go_enter Try.func15, Try.ntmps15
    go_wp2
    go_ret
    exact ⟨rfl, balloc (bref _) _⟩

set_option maxHeartbeats 4000000 in
theorem cov_r (c : Int) (B : ByteArray) (d : Int) (C : ByteArray) (w : World) : Calls Try.prog 23 #[.agg #[.int .i64 c, .string B], .agg #[.int .i64 d, .string C]] w fun e w' => e = .returned (.bool (covX c B d C)) ∧ Below w.heap.size w w' := by
  have hn0 := Bs2.new (w) c B
  have hn1 := Bs2.new ((w).alloc (.cells #[.int .i64 c, .string B] 25)) d C
  rw [show ((w).alloc (.cells #[.int .i64 c, .string B] 25)).heap.size = w.heap.size + 1 by simp] at hn1
  have HU0_0 := Lib.hid (show Bs2 (w.heap.size) c B ((w.alloc (.cells #[.int .i64 c, .string B] 25)).alloc (.cells #[.int .i64 d, .string C] 25)) from (hn0).alloc _)
  have HU1_0 := Lib.hid (show Bs2 (w.heap.size + 1) d C ((w.alloc (.cells #[.int .i64 c, .string B] 25)).alloc (.cells #[.int .i64 d, .string C] 25)) from hn1)
  have HB_0 := Lib.hid (balloc (balloc (bref w) (.cells #[.int .i64 c, .string B] 25)) (.cells #[.int .i64 d, .string C] 25))
  clear hn0 hn1
  have HC0 := Lib.hid (fun W => zero_r c B W)
  obtain ⟨b0, hb0⟩ : ∃ b, zeroX c B = b := ⟨_, rfl⟩
  rw [hb0] at HC0
  have HC1 := Lib.hid (fun W => comp_r c B d C W)
  obtain ⟨b1, hb1⟩ : ∃ b, compX B C = b := ⟨_, rfl⟩
  rw [hb1] at HC1
  have HS : Hid (covX c B d C = (!b0 && (b1 && decide (d ≤ c)))) := Lib.hid (by unfold covX; rw [hb0, hb1])
  clear hb0 hb1
  rcases (show b0 = true ∨ b0 = false by cases b0 <;> simp) with hq0 | hq0
  · skip
    obtain rfl : b0 = true := hq0
    go_enter Try.func23, Try.ntmps23
    go_upto_region 1 with fail
    generalize (w.alloc (.cells #[.int .i64 c, .string B] 25)).alloc (.cells #[.int .i64 d, .string C] 25) = W_0 at *
    obtain ⟨u0_0, u0_1⟩ := HU0_0.out
    obtain ⟨u1_0, u1_1⟩ := HU1_0.out
    go_wp2_with fail
    refine (HC0.out _).mono ?_
    rintro e W_1 ⟨rfl, hbw⟩
    have HU0_1 := Lib.hid (HU0_0.out.below hbw)
    have HU1_1 := Lib.hid (HU1_0.out.below hbw)
    have HB_1 := Lib.hid (bstep HB_0.out hbw)
    clear hbw u0_0 u0_1 u1_0 u1_1
    obtain ⟨u0_0, u0_1⟩ := HU0_1.out
    obtain ⟨u1_0, u1_1⟩ := HU1_1.out
    go_wp2_with fail
    go_ret
    exact ⟨by rw [HS.out]; first | rfl | simp, HB_1.out⟩
  · skip
    rcases (show b1 = true ∨ b1 = false by cases b1 <;> simp) with hq1 | hq1
    · skip
      obtain rfl : b0 = false := hq0
      obtain rfl : b1 = true := hq1
      go_enter Try.func23, Try.ntmps23
      go_upto_region 1 with fail
      generalize (w.alloc (.cells #[.int .i64 c, .string B] 25)).alloc (.cells #[.int .i64 d, .string C] 25) = W_0 at *
      obtain ⟨u0_0, u0_1⟩ := HU0_0.out
      obtain ⟨u1_0, u1_1⟩ := HU1_0.out
      go_wp2_with fail
      refine (HC0.out _).mono ?_
      rintro e W_1 ⟨rfl, hbw⟩
      have HU0_1 := Lib.hid (HU0_0.out.below hbw)
      have HU1_1 := Lib.hid (HU1_0.out.below hbw)
      have HB_1 := Lib.hid (bstep HB_0.out hbw)
      clear hbw u0_0 u0_1 u1_0 u1_1
      obtain ⟨u0_0, u0_1⟩ := HU0_1.out
      obtain ⟨u1_0, u1_1⟩ := HU1_1.out
      go_wp2_with fail
      refine (HC1.out _).mono ?_
      rintro e W_2 ⟨rfl, hbw⟩
      have HU0_2 := Lib.hid (HU0_1.out.below hbw)
      have HU1_2 := Lib.hid (HU1_1.out.below hbw)
      have HB_2 := Lib.hid (bstep HB_1.out hbw)
      clear hbw u0_0 u0_1 u1_0 u1_1
      obtain ⟨u0_0, u0_1⟩ := HU0_2.out
      obtain ⟨u1_0, u1_1⟩ := HU1_2.out
      go_wp2_with fail
      go_ret
      exact ⟨by rw [HS.out]; first | rfl | simp, HB_2.out⟩
    · skip
      obtain rfl : b0 = false := hq0
      obtain rfl : b1 = false := hq1
      go_enter Try.func23, Try.ntmps23
      go_upto_region 1 with fail
      generalize (w.alloc (.cells #[.int .i64 c, .string B] 25)).alloc (.cells #[.int .i64 d, .string C] 25) = W_0 at *
      obtain ⟨u0_0, u0_1⟩ := HU0_0.out
      obtain ⟨u1_0, u1_1⟩ := HU1_0.out
      go_wp2_with fail
      refine (HC0.out _).mono ?_
      rintro e W_1 ⟨rfl, hbw⟩
      have HU0_1 := Lib.hid (HU0_0.out.below hbw)
      have HU1_1 := Lib.hid (HU1_0.out.below hbw)
      have HB_1 := Lib.hid (bstep HB_0.out hbw)
      clear hbw u0_0 u0_1 u1_0 u1_1
      obtain ⟨u0_0, u0_1⟩ := HU0_1.out
      obtain ⟨u1_0, u1_1⟩ := HU1_1.out
      go_wp2_with fail
      refine (HC1.out _).mono ?_
      rintro e W_2 ⟨rfl, hbw⟩
      have HU0_2 := Lib.hid (HU0_1.out.below hbw)
      have HU1_2 := Lib.hid (HU1_1.out.below hbw)
      have HB_2 := Lib.hid (bstep HB_1.out hbw)
      clear hbw u0_0 u0_1 u1_0 u1_1
      obtain ⟨u0_0, u0_1⟩ := HU0_2.out
      obtain ⟨u1_0, u1_1⟩ := HU1_2.out
      go_wp2_with fail
      go_ret
      exact ⟨by rw [HS.out]; first | rfl | simp, HB_2.out⟩

set_option maxHeartbeats 4000000 in
theorem ab_r (c : Int) (B : ByteArray) (d : Int) (C : ByteArray) (w : World) : Calls Try.prog 25 #[.agg #[.int .i64 c, .string B], .agg #[.int .i64 d, .string C]] w fun e w' => e = .returned (.bool (abX c B d C)) ∧ Below w.heap.size w w' := by
  have hn0 := Bs2.new (w) c B
  have hn1 := Bs2.new ((w).alloc (.cells #[.int .i64 c, .string B] 25)) d C
  rw [show ((w).alloc (.cells #[.int .i64 c, .string B] 25)).heap.size = w.heap.size + 1 by simp] at hn1
  have HU0_0 := Lib.hid (show Bs2 (w.heap.size) c B ((w.alloc (.cells #[.int .i64 c, .string B] 25)).alloc (.cells #[.int .i64 d, .string C] 25)) from (hn0).alloc _)
  have HU1_0 := Lib.hid (show Bs2 (w.heap.size + 1) d C ((w.alloc (.cells #[.int .i64 c, .string B] 25)).alloc (.cells #[.int .i64 d, .string C] 25)) from hn1)
  have HB_0 := Lib.hid (balloc (balloc (bref w) (.cells #[.int .i64 c, .string B] 25)) (.cells #[.int .i64 d, .string C] 25))
  clear hn0 hn1
  have HC0 := Lib.hid (fun W => zero_r c B W)
  obtain ⟨b0, hb0⟩ : ∃ b, zeroX c B = b := ⟨_, rfl⟩
  rw [hb0] at HC0
  have HC1 := Lib.hid (fun W => comp_r c B d C W)
  obtain ⟨b1, hb1⟩ : ∃ b, compX B C = b := ⟨_, rfl⟩
  rw [hb1] at HC1
  have HC2 := Lib.hid (fun W => less_r d C c B W)
  obtain ⟨b2, hb2⟩ : ∃ b, lessX d C c B = b := ⟨_, rfl⟩
  rw [hb2] at HC2
  have HS : Hid (abX c B d C = (!b0 && (!b1 && b2))) := Lib.hid (by unfold abX; rw [hb0, hb1, hb2])
  clear hb0 hb1 hb2
  rcases (show b0 = true ∨ b0 = false by cases b0 <;> simp) with hq0 | hq0
  · skip
    obtain rfl : b0 = true := hq0
    go_enter Try.func25, Try.ntmps25
    go_upto_region 1 with fail
    generalize (w.alloc (.cells #[.int .i64 c, .string B] 25)).alloc (.cells #[.int .i64 d, .string C] 25) = W_0 at *
    obtain ⟨u0_0, u0_1⟩ := HU0_0.out
    obtain ⟨u1_0, u1_1⟩ := HU1_0.out
    go_wp2_with fail
    refine (HC0.out _).mono ?_
    rintro e W_1 ⟨rfl, hbw⟩
    have HU0_1 := Lib.hid (HU0_0.out.below hbw)
    have HU1_1 := Lib.hid (HU1_0.out.below hbw)
    have HB_1 := Lib.hid (bstep HB_0.out hbw)
    clear hbw u0_0 u0_1 u1_0 u1_1
    obtain ⟨u0_0, u0_1⟩ := HU0_1.out
    obtain ⟨u1_0, u1_1⟩ := HU1_1.out
    go_wp2_with fail
    go_ret
    exact ⟨by rw [HS.out]; first | rfl | simp, HB_1.out⟩
  · skip
    rcases (show b1 = true ∨ b1 = false by cases b1 <;> simp) with hq1 | hq1
    · skip
      obtain rfl : b0 = false := hq0
      obtain rfl : b1 = true := hq1
      go_enter Try.func25, Try.ntmps25
      go_upto_region 1 with fail
      generalize (w.alloc (.cells #[.int .i64 c, .string B] 25)).alloc (.cells #[.int .i64 d, .string C] 25) = W_0 at *
      obtain ⟨u0_0, u0_1⟩ := HU0_0.out
      obtain ⟨u1_0, u1_1⟩ := HU1_0.out
      go_wp2_with fail
      refine (HC0.out _).mono ?_
      rintro e W_1 ⟨rfl, hbw⟩
      have HU0_1 := Lib.hid (HU0_0.out.below hbw)
      have HU1_1 := Lib.hid (HU1_0.out.below hbw)
      have HB_1 := Lib.hid (bstep HB_0.out hbw)
      clear hbw u0_0 u0_1 u1_0 u1_1
      obtain ⟨u0_0, u0_1⟩ := HU0_1.out
      obtain ⟨u1_0, u1_1⟩ := HU1_1.out
      go_wp2_with fail
      refine (HC1.out _).mono ?_
      rintro e W_2 ⟨rfl, hbw⟩
      have HU0_2 := Lib.hid (HU0_1.out.below hbw)
      have HU1_2 := Lib.hid (HU1_1.out.below hbw)
      have HB_2 := Lib.hid (bstep HB_1.out hbw)
      clear hbw u0_0 u0_1 u1_0 u1_1
      obtain ⟨u0_0, u0_1⟩ := HU0_2.out
      obtain ⟨u1_0, u1_1⟩ := HU1_2.out
      go_wp2_with fail
      go_ret
      exact ⟨by rw [HS.out]; first | rfl | simp, HB_2.out⟩
    · skip
      obtain rfl : b0 = false := hq0
      obtain rfl : b1 = false := hq1
      go_enter Try.func25, Try.ntmps25
      go_upto_region 1 with fail
      generalize (w.alloc (.cells #[.int .i64 c, .string B] 25)).alloc (.cells #[.int .i64 d, .string C] 25) = W_0 at *
      obtain ⟨u0_0, u0_1⟩ := HU0_0.out
      obtain ⟨u1_0, u1_1⟩ := HU1_0.out
      go_wp2_with fail
      refine (HC0.out _).mono ?_
      rintro e W_1 ⟨rfl, hbw⟩
      have HU0_1 := Lib.hid (HU0_0.out.below hbw)
      have HU1_1 := Lib.hid (HU1_0.out.below hbw)
      have HB_1 := Lib.hid (bstep HB_0.out hbw)
      clear hbw u0_0 u0_1 u1_0 u1_1
      obtain ⟨u0_0, u0_1⟩ := HU0_1.out
      obtain ⟨u1_0, u1_1⟩ := HU1_1.out
      go_wp2_with fail
      refine (HC1.out _).mono ?_
      rintro e W_2 ⟨rfl, hbw⟩
      have HU0_2 := Lib.hid (HU0_1.out.below hbw)
      have HU1_2 := Lib.hid (HU1_1.out.below hbw)
      have HB_2 := Lib.hid (bstep HB_1.out hbw)
      clear hbw u0_0 u0_1 u1_0 u1_1
      obtain ⟨u0_0, u0_1⟩ := HU0_2.out
      obtain ⟨u1_0, u1_1⟩ := HU1_2.out
      go_wp2_with fail
      refine (HC2.out _).mono ?_
      rintro e W_3 ⟨rfl, hbw⟩
      have HU0_3 := Lib.hid (HU0_2.out.below hbw)
      have HU1_3 := Lib.hid (HU1_2.out.below hbw)
      have HB_3 := Lib.hid (bstep HB_2.out hbw)
      clear hbw u0_0 u0_1 u1_0 u1_1
      obtain ⟨u0_0, u0_1⟩ := HU0_3.out
      obtain ⟨u1_0, u1_1⟩ := HU1_3.out
      go_wp2_with fail
      go_ret
      exact ⟨by rw [HS.out]; first | rfl | simp, HB_3.out⟩

set_option maxHeartbeats 4000000 in
theorem prep_r (c : Int) (B : ByteArray) (d : Int) (C : ByteArray) (f : Int) (D : ByteArray) (w : World) : Calls Try.prog 27 #[.agg #[.int .i64 c, .string B], .agg #[.int .i64 d, .string C], .agg #[.int .i64 f, .string D]] w fun e w' => e = .returned (.bool (prepX c B d C f D)) ∧ Below w.heap.size w w' := by
  have hn0 := Bs2.new (w) c B
  have hn1 := Bs2.new ((w).alloc (.cells #[.int .i64 c, .string B] 25)) d C
  rw [show ((w).alloc (.cells #[.int .i64 c, .string B] 25)).heap.size = w.heap.size + 1 by simp] at hn1
  have hn2 := Bs2.new (((w).alloc (.cells #[.int .i64 c, .string B] 25)).alloc (.cells #[.int .i64 d, .string C] 25)) f D
  rw [show (((w).alloc (.cells #[.int .i64 c, .string B] 25)).alloc (.cells #[.int .i64 d, .string C] 25)).heap.size = w.heap.size + 2 by simp] at hn2
  have HU0_0 := Lib.hid (show Bs2 (w.heap.size) c B (((w.alloc (.cells #[.int .i64 c, .string B] 25)).alloc (.cells #[.int .i64 d, .string C] 25)).alloc (.cells #[.int .i64 f, .string D] 25)) from ((hn0).alloc _).alloc _)
  have HU1_0 := Lib.hid (show Bs2 (w.heap.size + 1) d C (((w.alloc (.cells #[.int .i64 c, .string B] 25)).alloc (.cells #[.int .i64 d, .string C] 25)).alloc (.cells #[.int .i64 f, .string D] 25)) from (hn1).alloc _)
  have HU2_0 := Lib.hid (show Bs2 (w.heap.size + 2) f D (((w.alloc (.cells #[.int .i64 c, .string B] 25)).alloc (.cells #[.int .i64 d, .string C] 25)).alloc (.cells #[.int .i64 f, .string D] 25)) from hn2)
  have HB_0 := Lib.hid (balloc (balloc (balloc (bref w) (.cells #[.int .i64 c, .string B] 25)) (.cells #[.int .i64 d, .string C] 25)) (.cells #[.int .i64 f, .string D] 25))
  clear hn0 hn1 hn2
  have HC0 := Lib.hid (fun W => cov_r c B f D W)
  obtain ⟨b0, hb0⟩ : ∃ b, covX c B f D = b := ⟨_, rfl⟩
  rw [hb0] at HC0
  have HC1 := Lib.hid (fun W => cov_r d C f D W)
  obtain ⟨b1, hb1⟩ : ∃ b, covX d C f D = b := ⟨_, rfl⟩
  rw [hb1] at HC1
  have HC2 := Lib.hid (fun W => zero_r d C W)
  obtain ⟨b2, hb2⟩ : ∃ b, zeroX d C = b := ⟨_, rfl⟩
  rw [hb2] at HC2
  have HC3 := Lib.hid (fun W => less_r f D d C W)
  obtain ⟨b3, hb3⟩ : ∃ b, lessX f D d C = b := ⟨_, rfl⟩
  rw [hb3] at HC3
  have HS : Hid (prepX c B d C f D = (b0 || (b1 || (!b2 && b3)))) := Lib.hid (by unfold prepX; rw [hb0, hb1, hb2, hb3])
  clear hb0 hb1 hb2 hb3
  rcases (show b0 = true ∨ b0 = false by cases b0 <;> simp) with hq0 | hq0
  · skip
    obtain rfl : b0 = true := hq0
    go_enter Try.func27, Try.ntmps27
    go_upto_region 1 with fail
    generalize ((w.alloc (.cells #[.int .i64 c, .string B] 25)).alloc (.cells #[.int .i64 d, .string C] 25)).alloc (.cells #[.int .i64 f, .string D] 25) = W_0 at *
    obtain ⟨u0_0, u0_1⟩ := HU0_0.out
    obtain ⟨u1_0, u1_1⟩ := HU1_0.out
    obtain ⟨u2_0, u2_1⟩ := HU2_0.out
    go_wp2_with fail
    refine (HC0.out _).mono ?_
    rintro e W_1 ⟨rfl, hbw⟩
    have HU0_1 := Lib.hid (HU0_0.out.below hbw)
    have HU1_1 := Lib.hid (HU1_0.out.below hbw)
    have HU2_1 := Lib.hid (HU2_0.out.below hbw)
    have HB_1 := Lib.hid (bstep HB_0.out hbw)
    clear hbw u0_0 u0_1 u1_0 u1_1 u2_0 u2_1
    obtain ⟨u0_0, u0_1⟩ := HU0_1.out
    obtain ⟨u1_0, u1_1⟩ := HU1_1.out
    obtain ⟨u2_0, u2_1⟩ := HU2_1.out
    go_wp2_with fail
    go_ret
    exact ⟨by rw [HS.out]; first | rfl | simp, HB_1.out⟩
  · skip
    rcases (show b1 = true ∨ b1 = false by cases b1 <;> simp) with hq1 | hq1
    · skip
      obtain rfl : b0 = false := hq0
      obtain rfl : b1 = true := hq1
      go_enter Try.func27, Try.ntmps27
      go_upto_region 1 with fail
      generalize ((w.alloc (.cells #[.int .i64 c, .string B] 25)).alloc (.cells #[.int .i64 d, .string C] 25)).alloc (.cells #[.int .i64 f, .string D] 25) = W_0 at *
      obtain ⟨u0_0, u0_1⟩ := HU0_0.out
      obtain ⟨u1_0, u1_1⟩ := HU1_0.out
      obtain ⟨u2_0, u2_1⟩ := HU2_0.out
      go_wp2_with fail
      refine (HC0.out _).mono ?_
      rintro e W_1 ⟨rfl, hbw⟩
      have HU0_1 := Lib.hid (HU0_0.out.below hbw)
      have HU1_1 := Lib.hid (HU1_0.out.below hbw)
      have HU2_1 := Lib.hid (HU2_0.out.below hbw)
      have HB_1 := Lib.hid (bstep HB_0.out hbw)
      clear hbw u0_0 u0_1 u1_0 u1_1 u2_0 u2_1
      obtain ⟨u0_0, u0_1⟩ := HU0_1.out
      obtain ⟨u1_0, u1_1⟩ := HU1_1.out
      obtain ⟨u2_0, u2_1⟩ := HU2_1.out
      go_wp2_with fail
      refine (HC1.out _).mono ?_
      rintro e W_2 ⟨rfl, hbw⟩
      have HU0_2 := Lib.hid (HU0_1.out.below hbw)
      have HU1_2 := Lib.hid (HU1_1.out.below hbw)
      have HU2_2 := Lib.hid (HU2_1.out.below hbw)
      have HB_2 := Lib.hid (bstep HB_1.out hbw)
      clear hbw u0_0 u0_1 u1_0 u1_1 u2_0 u2_1
      obtain ⟨u0_0, u0_1⟩ := HU0_2.out
      obtain ⟨u1_0, u1_1⟩ := HU1_2.out
      obtain ⟨u2_0, u2_1⟩ := HU2_2.out
      go_wp2_with fail
      go_ret
      exact ⟨by rw [HS.out]; first | rfl | simp, HB_2.out⟩
    · skip
      rcases (show b2 = true ∨ b2 = false by cases b2 <;> simp) with hq2 | hq2
      · skip
        obtain rfl : b0 = false := hq0
        obtain rfl : b1 = false := hq1
        obtain rfl : b2 = true := hq2
        go_enter Try.func27, Try.ntmps27
        go_upto_region 1 with fail
        generalize ((w.alloc (.cells #[.int .i64 c, .string B] 25)).alloc (.cells #[.int .i64 d, .string C] 25)).alloc (.cells #[.int .i64 f, .string D] 25) = W_0 at *
        obtain ⟨u0_0, u0_1⟩ := HU0_0.out
        obtain ⟨u1_0, u1_1⟩ := HU1_0.out
        obtain ⟨u2_0, u2_1⟩ := HU2_0.out
        go_wp2_with fail
        refine (HC0.out _).mono ?_
        rintro e W_1 ⟨rfl, hbw⟩
        have HU0_1 := Lib.hid (HU0_0.out.below hbw)
        have HU1_1 := Lib.hid (HU1_0.out.below hbw)
        have HU2_1 := Lib.hid (HU2_0.out.below hbw)
        have HB_1 := Lib.hid (bstep HB_0.out hbw)
        clear hbw u0_0 u0_1 u1_0 u1_1 u2_0 u2_1
        obtain ⟨u0_0, u0_1⟩ := HU0_1.out
        obtain ⟨u1_0, u1_1⟩ := HU1_1.out
        obtain ⟨u2_0, u2_1⟩ := HU2_1.out
        go_wp2_with fail
        refine (HC1.out _).mono ?_
        rintro e W_2 ⟨rfl, hbw⟩
        have HU0_2 := Lib.hid (HU0_1.out.below hbw)
        have HU1_2 := Lib.hid (HU1_1.out.below hbw)
        have HU2_2 := Lib.hid (HU2_1.out.below hbw)
        have HB_2 := Lib.hid (bstep HB_1.out hbw)
        clear hbw u0_0 u0_1 u1_0 u1_1 u2_0 u2_1
        obtain ⟨u0_0, u0_1⟩ := HU0_2.out
        obtain ⟨u1_0, u1_1⟩ := HU1_2.out
        obtain ⟨u2_0, u2_1⟩ := HU2_2.out
        go_wp2_with fail
        refine (HC2.out _).mono ?_
        rintro e W_3 ⟨rfl, hbw⟩
        have HU0_3 := Lib.hid (HU0_2.out.below hbw)
        have HU1_3 := Lib.hid (HU1_2.out.below hbw)
        have HU2_3 := Lib.hid (HU2_2.out.below hbw)
        have HB_3 := Lib.hid (bstep HB_2.out hbw)
        clear hbw u0_0 u0_1 u1_0 u1_1 u2_0 u2_1
        obtain ⟨u0_0, u0_1⟩ := HU0_3.out
        obtain ⟨u1_0, u1_1⟩ := HU1_3.out
        obtain ⟨u2_0, u2_1⟩ := HU2_3.out
        go_wp2_with fail
        go_ret
        exact ⟨by rw [HS.out]; first | rfl | simp, HB_3.out⟩
      · skip
        obtain rfl : b0 = false := hq0
        obtain rfl : b1 = false := hq1
        obtain rfl : b2 = false := hq2
        go_enter Try.func27, Try.ntmps27
        go_upto_region 1 with fail
        generalize ((w.alloc (.cells #[.int .i64 c, .string B] 25)).alloc (.cells #[.int .i64 d, .string C] 25)).alloc (.cells #[.int .i64 f, .string D] 25) = W_0 at *
        obtain ⟨u0_0, u0_1⟩ := HU0_0.out
        obtain ⟨u1_0, u1_1⟩ := HU1_0.out
        obtain ⟨u2_0, u2_1⟩ := HU2_0.out
        go_wp2_with fail
        refine (HC0.out _).mono ?_
        rintro e W_1 ⟨rfl, hbw⟩
        have HU0_1 := Lib.hid (HU0_0.out.below hbw)
        have HU1_1 := Lib.hid (HU1_0.out.below hbw)
        have HU2_1 := Lib.hid (HU2_0.out.below hbw)
        have HB_1 := Lib.hid (bstep HB_0.out hbw)
        clear hbw u0_0 u0_1 u1_0 u1_1 u2_0 u2_1
        obtain ⟨u0_0, u0_1⟩ := HU0_1.out
        obtain ⟨u1_0, u1_1⟩ := HU1_1.out
        obtain ⟨u2_0, u2_1⟩ := HU2_1.out
        go_wp2_with fail
        refine (HC1.out _).mono ?_
        rintro e W_2 ⟨rfl, hbw⟩
        have HU0_2 := Lib.hid (HU0_1.out.below hbw)
        have HU1_2 := Lib.hid (HU1_1.out.below hbw)
        have HU2_2 := Lib.hid (HU2_1.out.below hbw)
        have HB_2 := Lib.hid (bstep HB_1.out hbw)
        clear hbw u0_0 u0_1 u1_0 u1_1 u2_0 u2_1
        obtain ⟨u0_0, u0_1⟩ := HU0_2.out
        obtain ⟨u1_0, u1_1⟩ := HU1_2.out
        obtain ⟨u2_0, u2_1⟩ := HU2_2.out
        go_wp2_with fail
        refine (HC2.out _).mono ?_
        rintro e W_3 ⟨rfl, hbw⟩
        have HU0_3 := Lib.hid (HU0_2.out.below hbw)
        have HU1_3 := Lib.hid (HU1_2.out.below hbw)
        have HU2_3 := Lib.hid (HU2_2.out.below hbw)
        have HB_3 := Lib.hid (bstep HB_2.out hbw)
        clear hbw u0_0 u0_1 u1_0 u1_1 u2_0 u2_1
        obtain ⟨u0_0, u0_1⟩ := HU0_3.out
        obtain ⟨u1_0, u1_1⟩ := HU1_3.out
        obtain ⟨u2_0, u2_1⟩ := HU2_3.out
        go_wp2_with fail
        refine (HC3.out _).mono ?_
        rintro e W_4 ⟨rfl, hbw⟩
        have HU0_4 := Lib.hid (HU0_3.out.below hbw)
        have HU1_4 := Lib.hid (HU1_3.out.below hbw)
        have HU2_4 := Lib.hid (HU2_3.out.below hbw)
        have HB_4 := Lib.hid (bstep HB_3.out hbw)
        clear hbw u0_0 u0_1 u1_0 u1_1 u2_0 u2_1
        obtain ⟨u0_0, u0_1⟩ := HU0_4.out
        obtain ⟨u1_0, u1_1⟩ := HU1_4.out
        obtain ⟨u2_0, u2_1⟩ := HU2_4.out
        go_wp2_with fail
        go_ret
        exact ⟨by rw [HS.out]; first | rfl | simp, HB_4.out⟩

end Go.Proofs.Ytnnajmoedihkjaa
