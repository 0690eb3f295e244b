/- The walk of BallotsMore: with greater counters of the same values ballots prepare at least as much, and a ballot that is prepared is not aborted by both. -/
import Derived.Test.YtolodegbilagbaaBallotsLowestWalk
import Derived.Deep.RegionHeld3
namespace Go.Proofs.Ytolodegbilagbaa
set_option linter.unusedVariables false
open Go.RowKit

/-- More of the same value: (c, i) to (e, i) with c at most e. -/
theorem more_math {c e d : Int} {i j : Nat} (hc : 1 ≤ c) (h : c ≤ e) :
    (prepB c i 0 0 d j = true → prepB e i 0 0 d j = true) ∧ (covB c i d j = true → abB e i d j = false) ∧ (abB c i d j = true → abB e i d j = true) := by
  have he : 1 ≤ e := by omega
  refine ⟨?_, ?_, ?_⟩
  · unfold prepB covB zeroB lessB
    simp
    omega
  · unfold covB zeroB
    rw [abB_false he]
    simp
    omega
  · rw [abB_iff hc, abB_iff he]
    omega

set_option maxHeartbeats 4000000 in
theorem walkBallotsMore (a0 : Option Addr) (len0 cap0 : Nat) (z0 : List Int) (w : World) (w0 : IsRow .i64 w a0 len0 cap0 z0) :
    Calls Try.prog 10 #[.slice a0 len0 cap0] w fun e w' => e = .returned (.bool true) ∧ Below w.heap.size w w' := by
  have HR := Lib.hid w0
  clear w0
  go_enter Try.func10, Try.ntmps10
  go_wp2_with fail
  refine (New_run _ _ _ _ _ HR.out).mono ?_
  rintro e v0 ⟨rfl, hs0, hb0⟩
  have HS0 := Lib.hid hs0
  clear hs0
  go_wp2_with fail
  refine (Low_run _ _ HS0.out).mono ?_
  rintro e v1 ⟨c, i, hc0, hc1, hi0, hi1, rfl, hs1, hg1⟩
  have HB1 := Lib.hid (bgrown hb0 hg1 (Nat.le_refl _))
  have HS1 := Lib.hid hs1
  clear hs1 hg1 hb0
  go_wp2_with fail
  refine (Low_run _ _ HS1.out).mono ?_
  rintro e v2 ⟨d, j, hd0, hd1, hj0, hj1, rfl, hs2, hg2⟩
  have HB2 := Lib.hid (bgrown HB1.out hg2 (Nat.le_refl _))
  have HS2 := Lib.hid hs2
  have hsl := hs2.lt
  clear hs2 hg2 HB1
  go_wp2_with fail
  have hP : BalAt (((v2.alloc (.cells #[.int .i64 c, .string (valOf i)] 52)).alloc (.cells #[.int .i64 d, .string (valOf j)] 52)).alloc (.cells #[.int .i64 c, .string (valOf i)] 52)) v2.heap.size c i := ((BalAt.new _ _ _).alloc _).alloc _
  have hR : BalAt (((v2.alloc (.cells #[.int .i64 c, .string (valOf i)] 52)).alloc (.cells #[.int .i64 d, .string (valOf j)] 52)).alloc (.cells #[.int .i64 c, .string (valOf i)] 52)) (v2.heap.size + 1) d j := by
    have := (BalAt.new (v2.alloc (.cells #[.int .i64 c, .string (valOf i)] 52)) d j).alloc (.cells #[.int .i64 c, .string (valOf i)] 52)
    simpa using this
  have hQ : BalAt (((v2.alloc (.cells #[.int .i64 c, .string (valOf i)] 52)).alloc (.cells #[.int .i64 d, .string (valOf j)] 52)).alloc (.cells #[.int .i64 c, .string (valOf i)] 52)) (v2.heap.size + 1 + 1) c i := by
    have := BalAt.new ((v2.alloc (.cells #[.int .i64 c, .string (valOf i)] 52)).alloc (.cells #[.int .i64 d, .string (valOf j)] 52)) c i
    simpa using this
  have HB4 := Lib.hid (balloc (balloc (balloc HB2.out (.cells #[.int .i64 c, .string (valOf i)] 52)) (.cells #[.int .i64 d, .string (valOf j)] 52)) (.cells #[.int .i64 c, .string (valOf i)] 52))
  have HS4 := Lib.hid (((HS2.out.alloc (.cells #[.int .i64 c, .string (valOf i)] 52)).alloc (.cells #[.int .i64 d, .string (valOf j)] 52)).alloc (.cells #[.int .i64 c, .string (valOf i)] 52))
  have hgw : w.heap.size < v2.heap.size := hsl
  generalize ((v2.alloc (.cells #[.int .i64 c, .string (valOf i)] 52)).alloc (.cells #[.int .i64 d, .string (valOf j)] 52)).alloc (.cells #[.int .i64 c, .string (valOf i)] 52) = W4 at *
  generalize v2.heap.size = g at *
  have hP4 := Lib.hid hP
  have hQ4 := Lib.hid hQ
  have hR4 := Lib.hid hR
  have hlq := hQ.lt
  obtain ⟨lQ4, mQ4⟩ := hQ.cs
  have fQ := hQ.fr 0
  clear hP hQ hR
  go_region_with ((go_at_call 42; refine (N_run _ _ _ (by omega) (by omega) (by exact HS4.out)).mono ?_; rintro e W5 ⟨r, hr0, hr1, rfl, hs5, hg5⟩; have hQ5 := hQ4.out.grown (w' := W5) ⟨hg5.os, hg5.tape, hg5.output, hg5.size, hg5.block⟩ (by omega); have f5 := hQ5.fr 0; obtain ⟨lQ5, mQ5⟩ := hQ5.cs))
  all_goals
    have hw : IntKind.i64.wrap (c + r) = c + r := IntWalk.i64_in _ (by omega)
    rw [hw]
    clear hw
    have hgg : W4.grownBy W5 (some w.heap.size) := ⟨hg5.os, hg5.tape, hg5.output, hg5.size, hg5.block⟩
    have hQ6 := Lib.hid ((hQ4.out.grown hgg (by omega)).store1 (c + r))
    have hP6 := Lib.hid ((hP4.out.grown hgg (by omega)).far (p := ⟨g + 1 + 1, 0, none⟩) (by simp; omega) (.int .i64 (c + r)))
    have hR6 := Lib.hid ((hR4.out.grown hgg (by omega)).far (p := ⟨g + 1 + 1, 0, none⟩) (by simp) (.int .i64 (c + r)))
    have HB6 := Lib.hid (bset (bgrown HB4.out hgg (Nat.le_refl _)) (p := ⟨g + 1 + 1, 0, none⟩) (by simp; omega) (.int .i64 (c + r)))
    obtain ⟨z1, z2, z3⟩ := more_math (c := c) (e := c + r) (d := d) (i := i) (j := j) hc0 (by omega)
    clear hgg hg5 hs5 hQ5 f5 lQ5 mQ5 lQ4 mQ4 fQ
    generalize W5.setCell ⟨g + 1 + 1, 0, none⟩ (.int .i64 (c + r)) = W6 at *
    obtain ⟨cc, hcc⟩ : ∃ cc, c + r = cc := ⟨_, rfl⟩
    rw [hcc] at hQ6 z1 z2 z3
    try rw [hcc]
    have hcc1 : c ≤ cc := by omega
    have hcc2 : cc ≤ 9 := by omega
    have HCC := Lib.hid hcc
    clear hcc
    obtain ⟨lP6, mP6⟩ := hP6.out.cs
    obtain ⟨lQ6, mQ6⟩ := hQ6.out.cs
    obtain ⟨lR6, mR6⟩ := hR6.out.cs
    cases x1 : prepB c i 0 0 d j
    · go_wp2_with fail
      refine (prepares_run c 0 d i 0 j _ (by omega) (by omega) (by omega)).mono ?_
      rintro e V7 ⟨rfl, hb7⟩
      have HB7 := Lib.hid (bstep HB6.out hb7)
      have hP7 := Lib.hid (hP6.out.below hb7)
      obtain ⟨lP7, mP7⟩ := hP7.out.cs
      have hQ7 := Lib.hid (hQ6.out.below hb7)
      obtain ⟨lQ7, mQ7⟩ := hQ7.out.cs
      have hR7 := Lib.hid (hR6.out.below hb7)
      obtain ⟨lR7, mR7⟩ := hR7.out.cs
      clear hb7
      rw [x1]
      go_wp2_with fail
      cases x2 : covB c i d j
      · refine (covers_run _ _ _ _ _ (by omega) (by omega)).mono ?_
        rintro e V8 ⟨rfl, hb8⟩
        have HB8 := Lib.hid (bstep HB7.out hb8)
        have hP8 := Lib.hid (hP7.out.below hb8)
        obtain ⟨lP8, mP8⟩ := hP8.out.cs
        have hQ8 := Lib.hid (hQ7.out.below hb8)
        obtain ⟨lQ8, mQ8⟩ := hQ8.out.cs
        have hR8 := Lib.hid (hR7.out.below hb8)
        obtain ⟨lR8, mR8⟩ := hR8.out.cs
        clear hb8
        rw [x2]
        go_wp2_with fail
        cases x3 : abB c i d j
        · refine (aborts_run _ _ _ _ _ (by omega) (by omega)).mono ?_
          rintro e V9 ⟨rfl, hb9⟩
          have HB9 := Lib.hid (bstep HB8.out hb9)
          have hP9 := Lib.hid (hP8.out.below hb9)
          obtain ⟨lP9, mP9⟩ := hP9.out.cs
          have hQ9 := Lib.hid (hQ8.out.below hb9)
          obtain ⟨lQ9, mQ9⟩ := hQ9.out.cs
          have hR9 := Lib.hid (hR8.out.below hb9)
          obtain ⟨lR9, mR9⟩ := hR9.out.cs
          clear hb9
          rw [x3]
          go_wp2_with fail
          refine (sane23 _).mono ?_
          rintro e Z ⟨rfl, hbz⟩
          go_wp2_with fail
          go_ret
          exact ⟨rfl, bstep HB9.out hbz⟩
        · have y3 := z3 x3
          refine (aborts_run _ _ _ _ _ (by omega) (by omega)).mono ?_
          rintro e V9 ⟨rfl, hb9⟩
          have HB9 := Lib.hid (bstep HB8.out hb9)
          have hP9 := Lib.hid (hP8.out.below hb9)
          obtain ⟨lP9, mP9⟩ := hP9.out.cs
          have hQ9 := Lib.hid (hQ8.out.below hb9)
          obtain ⟨lQ9, mQ9⟩ := hQ9.out.cs
          have hR9 := Lib.hid (hR8.out.below hb9)
          obtain ⟨lR9, mR9⟩ := hR9.out.cs
          clear hb9
          rw [x3]
          go_wp2_with fail
          refine (aborts_run _ _ _ _ _ (by omega) (by omega)).mono ?_
          rintro e V10 ⟨rfl, hb10⟩
          have HB10 := Lib.hid (bstep HB9.out hb10)
          have hP10 := Lib.hid (hP9.out.below hb10)
          obtain ⟨lP10, mP10⟩ := hP10.out.cs
          have hQ10 := Lib.hid (hQ9.out.below hb10)
          obtain ⟨lQ10, mQ10⟩ := hQ10.out.cs
          have hR10 := Lib.hid (hR9.out.below hb10)
          obtain ⟨lR10, mR10⟩ := hR10.out.cs
          clear hb10
          rw [y3]
          go_wp2_with fail
          refine (sane23 _).mono ?_
          rintro e Z ⟨rfl, hbz⟩
          go_wp2_with fail
          go_ret
          exact ⟨rfl, bstep HB10.out hbz⟩
      · have y2 := z2 x2
        refine (covers_run _ _ _ _ _ (by omega) (by omega)).mono ?_
        rintro e V8 ⟨rfl, hb8⟩
        have HB8 := Lib.hid (bstep HB7.out hb8)
        have hP8 := Lib.hid (hP7.out.below hb8)
        obtain ⟨lP8, mP8⟩ := hP8.out.cs
        have hQ8 := Lib.hid (hQ7.out.below hb8)
        obtain ⟨lQ8, mQ8⟩ := hQ8.out.cs
        have hR8 := Lib.hid (hR7.out.below hb8)
        obtain ⟨lR8, mR8⟩ := hR8.out.cs
        clear hb8
        rw [x2]
        go_wp2_with fail
        refine (aborts_run _ _ _ _ _ (by omega) (by omega)).mono ?_
        rintro e V9 ⟨rfl, hb9⟩
        have HB9 := Lib.hid (bstep HB8.out hb9)
        have hP9 := Lib.hid (hP8.out.below hb9)
        obtain ⟨lP9, mP9⟩ := hP9.out.cs
        have hQ9 := Lib.hid (hQ8.out.below hb9)
        obtain ⟨lQ9, mQ9⟩ := hQ9.out.cs
        have hR9 := Lib.hid (hR8.out.below hb9)
        obtain ⟨lR9, mR9⟩ := hR9.out.cs
        clear hb9
        rw [y2]
        go_wp2_with fail
        cases x3 : abB c i d j
        · refine (aborts_run _ _ _ _ _ (by omega) (by omega)).mono ?_
          rintro e V10 ⟨rfl, hb10⟩
          have HB10 := Lib.hid (bstep HB9.out hb10)
          have hP10 := Lib.hid (hP9.out.below hb10)
          obtain ⟨lP10, mP10⟩ := hP10.out.cs
          have hQ10 := Lib.hid (hQ9.out.below hb10)
          obtain ⟨lQ10, mQ10⟩ := hQ10.out.cs
          have hR10 := Lib.hid (hR9.out.below hb10)
          obtain ⟨lR10, mR10⟩ := hR10.out.cs
          clear hb10
          rw [x3]
          go_wp2_with fail
          refine (sane23 _).mono ?_
          rintro e Z ⟨rfl, hbz⟩
          go_wp2_with fail
          go_ret
          exact ⟨rfl, bstep HB10.out hbz⟩
        · have y3 := z3 x3
          refine (aborts_run _ _ _ _ _ (by omega) (by omega)).mono ?_
          rintro e V10 ⟨rfl, hb10⟩
          have HB10 := Lib.hid (bstep HB9.out hb10)
          have hP10 := Lib.hid (hP9.out.below hb10)
          obtain ⟨lP10, mP10⟩ := hP10.out.cs
          have hQ10 := Lib.hid (hQ9.out.below hb10)
          obtain ⟨lQ10, mQ10⟩ := hQ10.out.cs
          have hR10 := Lib.hid (hR9.out.below hb10)
          obtain ⟨lR10, mR10⟩ := hR10.out.cs
          clear hb10
          rw [x3]
          go_wp2_with fail
          refine (aborts_run _ _ _ _ _ (by omega) (by omega)).mono ?_
          rintro e V11 ⟨rfl, hb11⟩
          have HB11 := Lib.hid (bstep HB10.out hb11)
          have hP11 := Lib.hid (hP10.out.below hb11)
          obtain ⟨lP11, mP11⟩ := hP11.out.cs
          have hQ11 := Lib.hid (hQ10.out.below hb11)
          obtain ⟨lQ11, mQ11⟩ := hQ11.out.cs
          have hR11 := Lib.hid (hR10.out.below hb11)
          obtain ⟨lR11, mR11⟩ := hR11.out.cs
          clear hb11
          rw [y3]
          go_wp2_with fail
          refine (sane23 _).mono ?_
          rintro e Z ⟨rfl, hbz⟩
          go_wp2_with fail
          go_ret
          exact ⟨rfl, bstep HB11.out hbz⟩
    · have y1 := z1 x1
      go_wp2_with fail
      refine (prepares_run c 0 d i 0 j _ (by omega) (by omega) (by omega)).mono ?_
      rintro e V7 ⟨rfl, hb7⟩
      have HB7 := Lib.hid (bstep HB6.out hb7)
      have hP7 := Lib.hid (hP6.out.below hb7)
      obtain ⟨lP7, mP7⟩ := hP7.out.cs
      have hQ7 := Lib.hid (hQ6.out.below hb7)
      obtain ⟨lQ7, mQ7⟩ := hQ7.out.cs
      have hR7 := Lib.hid (hR6.out.below hb7)
      obtain ⟨lR7, mR7⟩ := hR7.out.cs
      clear hb7
      rw [x1]
      go_wp2_with fail
      refine (prepares_run cc 0 d i 0 j _ (by omega) (by omega) (by omega)).mono ?_
      rintro e V8 ⟨rfl, hb8⟩
      have HB8 := Lib.hid (bstep HB7.out hb8)
      have hP8 := Lib.hid (hP7.out.below hb8)
      obtain ⟨lP8, mP8⟩ := hP8.out.cs
      have hQ8 := Lib.hid (hQ7.out.below hb8)
      obtain ⟨lQ8, mQ8⟩ := hQ8.out.cs
      have hR8 := Lib.hid (hR7.out.below hb8)
      obtain ⟨lR8, mR8⟩ := hR8.out.cs
      clear hb8
      rw [y1]
      go_wp2_with fail
      cases x2 : covB c i d j
      · refine (covers_run _ _ _ _ _ (by omega) (by omega)).mono ?_
        rintro e V9 ⟨rfl, hb9⟩
        have HB9 := Lib.hid (bstep HB8.out hb9)
        have hP9 := Lib.hid (hP8.out.below hb9)
        obtain ⟨lP9, mP9⟩ := hP9.out.cs
        have hQ9 := Lib.hid (hQ8.out.below hb9)
        obtain ⟨lQ9, mQ9⟩ := hQ9.out.cs
        have hR9 := Lib.hid (hR8.out.below hb9)
        obtain ⟨lR9, mR9⟩ := hR9.out.cs
        clear hb9
        rw [x2]
        go_wp2_with fail
        cases x3 : abB c i d j
        · refine (aborts_run _ _ _ _ _ (by omega) (by omega)).mono ?_
          rintro e V10 ⟨rfl, hb10⟩
          have HB10 := Lib.hid (bstep HB9.out hb10)
          have hP10 := Lib.hid (hP9.out.below hb10)
          obtain ⟨lP10, mP10⟩ := hP10.out.cs
          have hQ10 := Lib.hid (hQ9.out.below hb10)
          obtain ⟨lQ10, mQ10⟩ := hQ10.out.cs
          have hR10 := Lib.hid (hR9.out.below hb10)
          obtain ⟨lR10, mR10⟩ := hR10.out.cs
          clear hb10
          rw [x3]
          go_wp2_with fail
          refine (sane23 _).mono ?_
          rintro e Z ⟨rfl, hbz⟩
          go_wp2_with fail
          go_ret
          exact ⟨rfl, bstep HB10.out hbz⟩
        · have y3 := z3 x3
          refine (aborts_run _ _ _ _ _ (by omega) (by omega)).mono ?_
          rintro e V10 ⟨rfl, hb10⟩
          have HB10 := Lib.hid (bstep HB9.out hb10)
          have hP10 := Lib.hid (hP9.out.below hb10)
          obtain ⟨lP10, mP10⟩ := hP10.out.cs
          have hQ10 := Lib.hid (hQ9.out.below hb10)
          obtain ⟨lQ10, mQ10⟩ := hQ10.out.cs
          have hR10 := Lib.hid (hR9.out.below hb10)
          obtain ⟨lR10, mR10⟩ := hR10.out.cs
          clear hb10
          rw [x3]
          go_wp2_with fail
          refine (aborts_run _ _ _ _ _ (by omega) (by omega)).mono ?_
          rintro e V11 ⟨rfl, hb11⟩
          have HB11 := Lib.hid (bstep HB10.out hb11)
          have hP11 := Lib.hid (hP10.out.below hb11)
          obtain ⟨lP11, mP11⟩ := hP11.out.cs
          have hQ11 := Lib.hid (hQ10.out.below hb11)
          obtain ⟨lQ11, mQ11⟩ := hQ11.out.cs
          have hR11 := Lib.hid (hR10.out.below hb11)
          obtain ⟨lR11, mR11⟩ := hR11.out.cs
          clear hb11
          rw [y3]
          go_wp2_with fail
          refine (sane23 _).mono ?_
          rintro e Z ⟨rfl, hbz⟩
          go_wp2_with fail
          go_ret
          exact ⟨rfl, bstep HB11.out hbz⟩
      · have y2 := z2 x2
        refine (covers_run _ _ _ _ _ (by omega) (by omega)).mono ?_
        rintro e V9 ⟨rfl, hb9⟩
        have HB9 := Lib.hid (bstep HB8.out hb9)
        have hP9 := Lib.hid (hP8.out.below hb9)
        obtain ⟨lP9, mP9⟩ := hP9.out.cs
        have hQ9 := Lib.hid (hQ8.out.below hb9)
        obtain ⟨lQ9, mQ9⟩ := hQ9.out.cs
        have hR9 := Lib.hid (hR8.out.below hb9)
        obtain ⟨lR9, mR9⟩ := hR9.out.cs
        clear hb9
        rw [x2]
        go_wp2_with fail
        refine (aborts_run _ _ _ _ _ (by omega) (by omega)).mono ?_
        rintro e V10 ⟨rfl, hb10⟩
        have HB10 := Lib.hid (bstep HB9.out hb10)
        have hP10 := Lib.hid (hP9.out.below hb10)
        obtain ⟨lP10, mP10⟩ := hP10.out.cs
        have hQ10 := Lib.hid (hQ9.out.below hb10)
        obtain ⟨lQ10, mQ10⟩ := hQ10.out.cs
        have hR10 := Lib.hid (hR9.out.below hb10)
        obtain ⟨lR10, mR10⟩ := hR10.out.cs
        clear hb10
        rw [y2]
        go_wp2_with fail
        cases x3 : abB c i d j
        · refine (aborts_run _ _ _ _ _ (by omega) (by omega)).mono ?_
          rintro e V11 ⟨rfl, hb11⟩
          have HB11 := Lib.hid (bstep HB10.out hb11)
          have hP11 := Lib.hid (hP10.out.below hb11)
          obtain ⟨lP11, mP11⟩ := hP11.out.cs
          have hQ11 := Lib.hid (hQ10.out.below hb11)
          obtain ⟨lQ11, mQ11⟩ := hQ11.out.cs
          have hR11 := Lib.hid (hR10.out.below hb11)
          obtain ⟨lR11, mR11⟩ := hR11.out.cs
          clear hb11
          rw [x3]
          go_wp2_with fail
          refine (sane23 _).mono ?_
          rintro e Z ⟨rfl, hbz⟩
          go_wp2_with fail
          go_ret
          exact ⟨rfl, bstep HB11.out hbz⟩
        · have y3 := z3 x3
          refine (aborts_run _ _ _ _ _ (by omega) (by omega)).mono ?_
          rintro e V11 ⟨rfl, hb11⟩
          have HB11 := Lib.hid (bstep HB10.out hb11)
          have hP11 := Lib.hid (hP10.out.below hb11)
          obtain ⟨lP11, mP11⟩ := hP11.out.cs
          have hQ11 := Lib.hid (hQ10.out.below hb11)
          obtain ⟨lQ11, mQ11⟩ := hQ11.out.cs
          have hR11 := Lib.hid (hR10.out.below hb11)
          obtain ⟨lR11, mR11⟩ := hR11.out.cs
          clear hb11
          rw [x3]
          go_wp2_with fail
          refine (aborts_run _ _ _ _ _ (by omega) (by omega)).mono ?_
          rintro e V12 ⟨rfl, hb12⟩
          have HB12 := Lib.hid (bstep HB11.out hb12)
          have hP12 := Lib.hid (hP11.out.below hb12)
          obtain ⟨lP12, mP12⟩ := hP12.out.cs
          have hQ12 := Lib.hid (hQ11.out.below hb12)
          obtain ⟨lQ12, mQ12⟩ := hQ12.out.cs
          have hR12 := Lib.hid (hR11.out.below hb12)
          obtain ⟨lR12, mR12⟩ := hR12.out.cs
          clear hb12
          rw [y3]
          go_wp2_with fail
          refine (sane23 _).mono ?_
          rintro e Z ⟨rfl, hbz⟩
          go_wp2_with fail
          go_ret
          exact ⟨rfl, bstep HB12.out hbz⟩
end Go.Proofs.Ytolodegbilagbaa
