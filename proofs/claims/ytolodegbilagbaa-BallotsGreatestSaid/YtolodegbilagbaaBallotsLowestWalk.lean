/- The walk of BallotsLowest: the lowest counter is aborted by neither, and every lesser one from the beginning on is. -/
import Derived.Test.YtolodegbilagbaaBalMem
import Derived.Test.YtolodegbilagbaaLow
namespace Go.Proofs.Ytolodegbilagbaa
set_option linter.unusedVariables false
open Go.RowKit

theorem abB_iff {c x : Int} {i v : Nat} (hc : 1 ≤ c) : abB c i x v = true ↔ i ≠ v ∧ (x < c ∨ (x = c ∧ v < i)) := by
  unfold abB zeroB lessB
  simp
  omega
theorem abB_false {c x : Int} {i v : Nat} (hc : 1 ≤ c) : abB c i x v = false ↔ ¬ (i ≠ v ∧ (x < c ∨ (x = c ∧ v < i))) := by
  rw [← abB_iff hc]; simp
theorem validB_small {c : Int} {i : Nat} (h0 : 1 ≤ c) (h1 : c ≤ 1000) (hi : 1 ≤ i) : validB c i = true := by
  unfold validB; simp; omega
theorem stepB_small {c n : Int} {i v : Nat} (h0 : 1 ≤ c) (h1 : c ≤ 1000) (hi : 1 ≤ i) :
    stepB v c i n = if i = v then n else if n < c then (if v < i then c + 1 else c) else if n = c ∧ v < i then n + 1 else n := by
  unfold stepB
  rw [validB_small h0 h1 hi]
  by_cases he : i = v
  · simp [he]
  · simp only [he, decide_false, Bool.not_false, Bool.and_self, if_true, if_false]
    by_cases hn : n < c
    · rw [if_pos hn, show max n c = c by omega]
      by_cases hv : v < i
      · rw [if_pos hv, if_pos ((abB_iff h0).2 ⟨he, .inr ⟨rfl, hv⟩⟩)]
      · rw [if_neg hv, if_neg]
        rw [abB_iff h0]; omega
    · rw [if_neg hn, show max n c = n by omega]
      by_cases hv : n = c ∧ v < i
      · rw [if_pos hv, if_pos ((abB_iff h0).2 ⟨he, .inr hv⟩)]
      · rw [if_neg hv, if_neg]
        rw [abB_iff h0]; omega
/-- What the law asks of the lowest counter. -/
theorem low_math {v i j : Nat} {n c d : Int} (hn : 1 ≤ n) (hn1 : n ≤ 1000) (c0 : 1 ≤ c) (c1 : c ≤ 1000) (d0 : 1 ≤ d) (d1 : d ≤ 1000) (hi : 1 ≤ i) (hj : 1 ≤ j) :
    n ≤ lowB v n c i d j ∧ lowB v n c i d j ≤ 2000 ∧ abB c i (lowB v n c i d j) v = false ∧ abB d j (lowB v n c i d j) v = false ∧
    ∀ x, n ≤ x → x < lowB v n c i d j → abB c i x v = false → abB d j x v = true := by
  unfold lowB
  rw [stepB_small c0 c1 hi, stepB_small d0 d1 hj, abB_false c0, abB_false d0]
  refine ⟨?_, ?_, ?_, ?_, ?_⟩
  · repeat' split <;> omega
  · repeat' split <;> omega
  · repeat' split <;> omega
  · repeat' split <;> omega
  · intro x hx
    rw [abB_false c0, abB_iff d0]
    repeat' split <;> omega

set_option maxHeartbeats 4000000 in
theorem walkBallotsLowest (a0 : Option Addr) (len0 cap0 : Nat) (z0 : List Int) (a1 : Int) (w : World) (w0 : IsRow .i64 w a0 len0 cap0 z0) (w1 : (Lit.int .u8 a1).wf = true) :
    Calls Try.prog 11 #[.slice a0 len0 cap0, .int .u8 a1] w fun e w' => e = .returned (.bool true) ∧ Below w.heap.size w w' := by
  obtain ⟨y0, y1⟩ := bounds_u8 w1
  have HR := Lib.hid w0
  clear w0 w1
  go_enter Try.func11, Try.ntmps11
  go_wp2_with fail
  refine (New_run _ _ _ _ _ HR.out).mono ?_
  rintro e v0 ⟨rfl, hs0, hb0⟩
  have HS0 := Lib.hid hs0
  clear hs0
  go_wp2_with fail
  refine (Low_run _ _ HS0.out).mono ?_
  rintro e v1 ⟨c, i, hc0, hc1, hi0, hi1, rfl, hs1, hg1⟩
  have HB1 := Lib.hid (bgrown hb0 hg1 (Nat.le_refl _))
  have HS1 := Lib.hid hs1
  clear hs1 hg1 hb0
  go_wp2_with fail
  refine (Low_run _ _ HS1.out).mono ?_
  rintro e v2 ⟨d, j, hd0, hd1, hj0, hj1, rfl, hs2, hg2⟩
  have HB2 := Lib.hid (bgrown HB1.out hg2 (Nat.le_refl _))
  have HS2 := Lib.hid hs2
  clear hs2 hg2 HB1
  go_wp2_with fail
  refine (Value_run _ _ HS2.out).mono ?_
  rintro e v3 ⟨v, hv0, hv1, rfl, hs3, hg3⟩
  have HB3 := Lib.hid (bgrown HB2.out hg3 (Nat.le_refl _))
  clear hs3 hg3 HB2
  obtain ⟨m1, m2, m3, m4, m5⟩ := low_math (v := v) (i := i) (j := j) (n := 1 + a1 % 8) (c := c) (d := d) (by omega) (by omega) (by omega) (by omega) (by omega) (by omega) hi0 hj0
  have M5 := Lib.hid m5
  clear m5
  go_wp2_with fail
  have hP : BalAt ((v3.alloc (.cells #[.int .i64 c, .string (valOf i)] 52)).alloc (.cells #[.int .i64 d, .string (valOf j)] 52)) v3.heap.size c i := (BalAt.new _ _ _).alloc _
  have hQ : BalAt ((v3.alloc (.cells #[.int .i64 c, .string (valOf i)] 52)).alloc (.cells #[.int .i64 d, .string (valOf j)] 52)) (v3.heap.size + 1) d j := by
    have := BalAt.new (v3.alloc (.cells #[.int .i64 c, .string (valOf i)] 52)) d j
    simpa using this
  have HB4 := Lib.hid (balloc (balloc HB3.out (.cells #[.int .i64 c, .string (valOf i)] 52)) (.cells #[.int .i64 d, .string (valOf j)] 52))
  generalize (v3.alloc (.cells #[.int .i64 c, .string (valOf i)] 52)).alloc (.cells #[.int .i64 d, .string (valOf j)] 52) = W4 at *
  generalize v3.heap.size = g at *
  obtain ⟨pa, pb⟩ := hP.cs
  obtain ⟨qa, qb⟩ := hQ.cs
  have hP4 := Lib.hid hP
  have hQ4 := Lib.hid hQ
  clear hP hQ
  refine (lowest_run _ _ _ _ _ _ _ (by omega) (by omega) (by omega) (by omega) (by omega)).mono ?_
  rintro e W5 ⟨rfl, hb5⟩
  have HB5 := Lib.hid (bstep HB4.out hb5)
  have hP5 := Lib.hid (hP4.out.below hb5)
  have hQ5 := Lib.hid (hQ4.out.below hb5)
  obtain ⟨p5, p5'⟩ := hP5.out.cs
  obtain ⟨q5, q5'⟩ := hQ5.out.cs
  clear hb5
  go_wp2_with fail
  refine (raborts_run _ _ _ _ _ (by omega) (by omega)).mono ?_
  rintro e W6 ⟨rfl, hb6⟩
  have HB6 := Lib.hid (bstep HB5.out hb6)
  have hP6 := Lib.hid (hP5.out.below hb6)
  have hQ6 := Lib.hid (hQ5.out.below hb6)
  obtain ⟨p6, p6'⟩ := hP6.out.cs
  obtain ⟨q6, q6'⟩ := hQ6.out.cs
  clear hb6
  rw [m3]
  go_wp2_with fail
  refine (raborts_run _ _ _ _ _ (by omega) (by omega)).mono ?_
  rintro e W7 ⟨rfl, hb7⟩
  have HB7 := Lib.hid (bstep HB6.out hb7)
  have hP7 := Lib.hid (hP6.out.below hb7)
  have hQ7 := Lib.hid (hQ6.out.below hb7)
  obtain ⟨p7, p7'⟩ := hP7.out.cs
  obtain ⟨q7, q7'⟩ := hQ7.out.cs
  clear hb7
  rw [m4]
  go_wp2_with fail
  generalize lowB v (1 + a1 % 8) c i d j = K at *
  have hgP := hP7.out.lt
  have hgQ := hQ7.out.lt
  go_loopw [11] (fun u wr => ∃ x : Int, u = .int .i64 x ∧ 1 + a1 % 8 ≤ x ∧ x ≤ K ∧ Hid (BalAt wr g c i) ∧ Hid (BalAt wr (g + 1) d j) ∧ Hid (Below w.heap.size w wr)) (fun u _ => (K - intOf u).toNat)
  case atStart => exact ⟨1 + a1 % 8, rfl, by omega, by omega, hP7, hQ7, HB7⟩
  case round =>
    obtain ⟨x, rfl, hx0, hx1, hPr, hQr, hBr⟩ := hrel
    obtain ⟨r1, r2⟩ := hPr.out.cs
    obtain ⟨r3, r4⟩ := hQr.out.cs
    have hlP := hPr.out.lt
    have hlQ := hQr.out.lt
    by_cases hlt : x < K
    · have hm5 := M5.out x hx0 hlt
      have hX := BalAt.new wr x v
      cases hab : abB c i x v
      · have hab2 := hm5 hab
        clear hm5
        go_wp2_with fail
        refine (raborts_run _ _ _ _ _ (by omega) (by omega)).mono ?_
        rintro e W8 ⟨rfl, hb8⟩
        obtain ⟨hcc8, hcf8⟩ := bcell hb8
        have hz8 : wr.heap.size < W8.heap.size := by
          have := hb8.size
          simp at this
          omega
        have hz9 : g + 1 < wr.heap.size := by omega
        go_wp2_with fail
        refine (raborts_run _ _ _ _ _ (by omega) (by omega)).mono ?_
        rintro e W9 ⟨rfl, hb9⟩
        have E1 := Lib.hid (((hPr.out.alloc (.cells #[.int .i64 x, .string (valOf v)] 52)).below hb8).below hb9)
        have E2 := Lib.hid (((hQr.out.alloc (.cells #[.int .i64 x, .string (valOf v)] 52)).below hb8).below hb9)
        have E3 := Lib.hid (bstep (bstep (balloc hBr.out (.cells #[.int .i64 x, .string (valOf v)] 52)) hb8) hb9)
        clear hcc8 hcf8 hb8 hb9
        go_wp2_with fail
        go_roundw
        case rel => exact ⟨x + 1, by go_num, by omega, by omega, E1, E2, E3⟩
        case measure => simp [intOf]; omega
      · clear hm5
        go_wp2_with fail
        refine (raborts_run _ _ _ _ _ (by omega) (by omega)).mono ?_
        rintro e W8 ⟨rfl, hb8⟩
        have E1 := Lib.hid ((hPr.out.alloc (.cells #[.int .i64 x, .string (valOf v)] 52)).below hb8)
        have E2 := Lib.hid ((hQr.out.alloc (.cells #[.int .i64 x, .string (valOf v)] 52)).below hb8)
        have E3 := Lib.hid (bstep (balloc hBr.out (.cells #[.int .i64 x, .string (valOf v)] 52)) hb8)
        clear hb8
        go_wp2_with fail
        go_roundw
        case rel => exact ⟨x + 1, by go_num, by omega, by omega, E1, E2, E3⟩
        case measure => simp [intOf]; omega
    · go_wp2_with fail
      refine (sane23 _).mono ?_
      rintro e W8 ⟨rfl, hb8⟩
      go_wp2_with fail
      go_ret
      exact ⟨rfl, bstep hBr.out hb8⟩
end Go.Proofs.Ytolodegbilagbaa
