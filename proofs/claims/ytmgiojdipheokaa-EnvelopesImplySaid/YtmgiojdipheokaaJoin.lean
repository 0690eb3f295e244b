/- The contract of prepare.Join over the source's ballots. -/
import Derived.Test.YtmgiojdipheokaaBalMem
import Derived.Deep.DeepCutAuto
namespace Go.Proofs.Ytmgiojdipheokaa
set_option linter.unusedVariables false
set_option linter.unusedSimpArgs false
open Go.RowKit

/-- Joining a ballot: what is prepared, and the prime. -/
def joinB (c : Int) (i : Nat) (d : Int) (j : Nat) (f : Int) (k : Nat) : (Int × Nat) × (Int × Nat) :=
  if zeroB f k then ((c, i), (d, j)) else if zeroB c i then ((f, k), (d, j)) else
  if lessB c i f k then (if decide (i = k) then (if decide (j = k) then ((f, k), (0, 0)) else ((f, k), (d, j))) else ((f, k), (c, i)))
  else if lessB f k c i && (!decide (k = i) && (zeroB d j || lessB d j f k)) then ((c, i), (f, k)) else ((c, i), (d, j))
def balV (b : Int × Nat) : Value := .agg #[.int .i64 b.1, .string (valOf b.2)]

/-- The five blocks of the joining. -/
structure J5 (w : World) (g : Nat) (c : Int) (i : Nat) (d : Int) (j : Nat) (f : Int) (k : Nat) (W : World) : Prop where
  p : BalAt W g c i
  q : BalAt W (g + 1) d j
  b : BalAt W (g + 1 + 1) f k
  r : BalAt W (g + 1 + 1 + 1) 0 0
  t : BalAt W (g + 1 + 1 + 1 + 1) 0 0
  bel : Below g w W
theorem J5.bel' {w W W' : World} {g : Nat} {c d f : Int} {i j k : Nat} (h : J5 w g c i d j f k W) (hb : Below W.heap.size W W') : J5 w g c i d j f k W' :=
  ⟨h.p.below hb, h.q.below hb, h.b.below hb, h.r.below hb, h.t.below hb, h.bel.trans (hb.mono (Nat.le_of_lt h.p.lt))⟩
theorem J5.cs {w W : World} {g : Nat} {c d f : Int} {i j k : Nat} (h : J5 w g c i d j f k W) :
    (W.cell? ⟨g, 0, none⟩ = some (.int .i64 c) ∧ W.cell? ⟨g, 1, none⟩ = some (.string (valOf i))) ∧ (W.cell? ⟨g + 1, 0, none⟩ = some (.int .i64 d) ∧ W.cell? ⟨g + 1, 1, none⟩ = some (.string (valOf j))) ∧ (W.cell? ⟨g + 1 + 1, 0, none⟩ = some (.int .i64 f) ∧ W.cell? ⟨g + 1 + 1, 1, none⟩ = some (.string (valOf k))) :=
  ⟨h.p.cs, h.q.cs, h.b.cs⟩
theorem J5.fs {w W : World} {g : Nat} {c d f : Int} {i j k : Nat} (h : J5 w g c i d j f k W) :
    W.cell? ⟨g + 1 + 1 + 1, 0, none⟩ = some (.int .i64 0) ∧ W.cell? ⟨g + 1 + 1 + 1, 1, none⟩ = some (.string (valOf 0)) ∧ W.cell? ⟨g + 1 + 1 + 1 + 1, 0, none⟩ = some (.int .i64 0) ∧ W.cell? ⟨g + 1 + 1 + 1 + 1, 1, none⟩ = some (.string (valOf 0)) ∧
    W.frozen? ⟨g + 1 + 1 + 1, 0, none⟩ = false ∧ W.frozen? ⟨g + 1 + 1 + 1, 1, none⟩ = false ∧ W.frozen? ⟨g + 1 + 1 + 1 + 1, 0, none⟩ = false ∧ W.frozen? ⟨g + 1 + 1 + 1 + 1, 1, none⟩ = false ∧ g + 1 + 1 + 1 + 1 < W.heap.size :=
  ⟨h.r.cs.1, h.r.cs.2, h.t.cs.1, h.t.cs.2, h.r.fr 0, h.r.fr 1, h.t.fr 0, h.t.fr 1, h.t.lt⟩

theorem J5.start (w : World) (c : Int) (i : Nat) (d : Int) (j : Nat) (f : Int) (k : Nat) : J5 w w.heap.size c i d j f k (((((w.alloc (.cells #[.int .i64 c, .string (valOf i)] 26)).alloc (.cells #[.int .i64 d, .string (valOf j)] 26)).alloc (.cells #[.int .i64 f, .string (valOf k)] 26)).alloc (.cells #[.int .i64 0, .string ⟨#[]⟩] 26)).alloc (.cells #[.int .i64 0, .string ⟨#[]⟩] 26)) := by
  refine ⟨((((BalAt.new w c i).alloc _).alloc _).alloc _).alloc _, ?_, ?_, ?_, ?_, balloc (balloc (balloc (balloc (balloc (bref _) _) _) _) _) _⟩
  · have := (((BalAt.new (w.alloc (.cells #[.int .i64 c, .string (valOf i)] 26)) d j).alloc (.cells #[.int .i64 f, .string (valOf k)] 26)).alloc (.cells #[.int .i64 0, .string ⟨#[]⟩] 26)).alloc (.cells #[.int .i64 0, .string ⟨#[]⟩] 26)
    simpa using this
  · have := ((BalAt.new ((w.alloc (.cells #[.int .i64 c, .string (valOf i)] 26)).alloc (.cells #[.int .i64 d, .string (valOf j)] 26)) f k).alloc (.cells #[.int .i64 0, .string ⟨#[]⟩] 26)).alloc (.cells #[.int .i64 0, .string ⟨#[]⟩] 26)
    simpa using this
  · have := (BalAt.new (((w.alloc (.cells #[.int .i64 c, .string (valOf i)] 26)).alloc (.cells #[.int .i64 d, .string (valOf j)] 26)).alloc (.cells #[.int .i64 f, .string (valOf k)] 26)) 0 0).alloc (.cells #[.int .i64 0, .string ⟨#[]⟩] 26)
    simpa [valOf] using this
  · have := BalAt.new ((((w.alloc (.cells #[.int .i64 c, .string (valOf i)] 26)).alloc (.cells #[.int .i64 d, .string (valOf j)] 26)).alloc (.cells #[.int .i64 f, .string (valOf k)] 26)).alloc (.cells #[.int .i64 0, .string ⟨#[]⟩] 26)) 0 0
    simpa [valOf] using this
/-- Behind the stores of both results. -/
theorem J5.fin {w W : World} {g : Nat} {c d f : Int} {i j k : Nat} (h : J5 w g c i d j f k W) (x0 x1 y0 y1 : Value) : Below g w ((((W.setCell ⟨g + 1 + 1 + 1, 0, none⟩ x0).setCell ⟨g + 1 + 1 + 1, 1, none⟩ x1).setCell ⟨g + 1 + 1 + 1 + 1, 0, none⟩ y0).setCell ⟨g + 1 + 1 + 1 + 1, 1, none⟩ y1) := (((h.bel.setCell (by simp; omega) x0).setCell (by simp; omega) x1).setCell (by simp; omega) y0).setCell (by simp; omega) y1

set_option maxHeartbeats 4000000 in
theorem join_run (c : Int) (i : Nat) (d : Int) (j : Nat) (f : Int) (k : Nat) (w : World) (hi : i ≤ 4) (hj : j ≤ 4) (hk : k ≤ 4) :
    Calls Try.prog 18 #[.agg #[.int .i64 c, .string (valOf i)], .agg #[.int .i64 d, .string (valOf j)], .agg #[.int .i64 f, .string (valOf k)]] w fun e w' => e = .returned (.tuple #[balV (joinB c i d j f k).1, balV (joinB c i d j f k).2]) ∧ Below w.heap.size w w' := by
  obtain ⟨R, hR⟩ : ∃ R, joinB c i d j f k = R := ⟨_, rfl⟩
  rw [hR]
  have HR := Lib.hid hR
  have J0 := Lib.hid (J5.start w c i d j f k)
  clear hR
  go_enter Try.func18, Try.ntmps18
  go_wp2_with fail
  generalize (((((w.alloc (.cells #[.int .i64 c, .string (valOf i)] 26)).alloc (.cells #[.int .i64 d, .string (valOf j)] 26)).alloc (.cells #[.int .i64 f, .string (valOf k)] 26)).alloc (.cells #[.int .i64 0, .string ⟨#[]⟩] 26)).alloc (.cells #[.int .i64 0, .string ⟨#[]⟩] 26)) = W0 at *
  generalize hG : w.heap.size = g at *
  have HG := Lib.hid hG
  clear hG
  obtain ⟨⟨p0, p1⟩, ⟨q0, q1⟩, ⟨b0, b1⟩⟩ := J0.out.cs
  go_wp2_with fail
  refine (zero_run _ _ _ hk).mono ?_
  rintro e W1 ⟨rfl, hb1⟩
  have J1 := Lib.hid (J0.out.bel' hb1)
  clear p0 p1 q0 q1 b0 b1
  obtain ⟨⟨p0, p1⟩, ⟨q0, q1⟩, ⟨b0, b1⟩⟩ := J1.out.cs
  clear hb1 J0
  cases z1 : zeroB f k
  · --false
    go_wp2_with fail
    refine (zero_run _ _ _ hi).mono ?_
    rintro e W2 ⟨rfl, hb2⟩
    have J2 := Lib.hid (J1.out.bel' hb2)
    clear p0 p1 q0 q1 b0 b1
    obtain ⟨⟨p0, p1⟩, ⟨q0, q1⟩, ⟨b0, b1⟩⟩ := J2.out.cs
    clear hb2 J1
    cases z2 : zeroB c i
    · --false
      go_wp2_with fail
      refine (less_run _ _ _ _ _ hi hk).mono ?_
      rintro e W3 ⟨rfl, hb3⟩
      have J3 := Lib.hid (J2.out.bel' hb3)
      clear p0 p1 q0 q1 b0 b1
      obtain ⟨⟨p0, p1⟩, ⟨q0, q1⟩, ⟨b0, b1⟩⟩ := J3.out.cs
      clear hb3 J2
      cases z3 : lessB c i f k
      · --false: fourth case
        go_wp2_with fail
        refine (less_run _ _ _ _ _ hk hi).mono ?_
        rintro e W4 ⟨rfl, hb4⟩
        have J4 := Lib.hid (J3.out.bel' hb4)
        clear p0 p1 q0 q1 b0 b1
        obtain ⟨⟨p0, p1⟩, ⟨q0, q1⟩, ⟨b0, b1⟩⟩ := J4.out.cs
        clear hb4 J3
        cases z4 : lessB f k c i
        · --false
          obtain ⟨r0, r1, t0, t1, rf0, rf1, tf0, tf1, hlt⟩ := J4.out.fs
          have HE := Lib.hid (J4.out.fin (.int .i64 c) (.string (valOf i)) (.int .i64 d) (.string (valOf j)))
          obtain rfl : R = ((c, i), (d, j)) := by rw [← HR.out]; unfold joinB; simp only [z1, z2, z3, z4, Bool.false_eq_true, if_false, if_true, Bool.not_true, Bool.not_false, Bool.and_true, Bool.true_and, Bool.and_false, Bool.false_and, Bool.or_false, Bool.or_true, Bool.false_or, Bool.true_or]
          clear HR
          go_wp2_with fail
          go_region
          all_goals
            go_wp2_with fail
            refine bodyPost_ret (v := .tuple #[.agg #[.int .i64 c, .string (valOf i)], .agg #[.int .i64 d, .string (valOf j)]]) ?_ rfl ⟨rfl, ?_⟩
            · simp [results, Try.results18, go_sem, r0, r1, t0, t1]; try rfl
            · rw [HG.out]; first | exact HE.out | exact HE.out.drew
        · --true
          go_wp2_with fail
          refine (compat_run _ _ _ _ _ hk hi).mono ?_
          rintro e W5 ⟨rfl, hb5⟩
          have J5 := Lib.hid (J4.out.bel' hb5)
          clear p0 p1 q0 q1 b0 b1
          obtain ⟨⟨p0, p1⟩, ⟨q0, q1⟩, ⟨b0, b1⟩⟩ := J5.out.cs
          clear hb5 J4
          cases z5 : decide (k = i)
          · --not the same
            go_wp2_with fail
            refine (zero_run _ _ _ hj).mono ?_
            rintro e W6 ⟨rfl, hb6⟩
            have J6 := Lib.hid (J5.out.bel' hb6)
            clear p0 p1 q0 q1 b0 b1
            obtain ⟨⟨p0, p1⟩, ⟨q0, q1⟩, ⟨b0, b1⟩⟩ := J6.out.cs
            clear hb6 J5
            cases z6 : zeroB d j
            · --false
              go_wp2_with fail
              refine (less_run _ _ _ _ _ hj hk).mono ?_
              rintro e W7 ⟨rfl, hb7⟩
              have J7 := Lib.hid (J6.out.bel' hb7)
              clear p0 p1 q0 q1 b0 b1
              obtain ⟨⟨p0, p1⟩, ⟨q0, q1⟩, ⟨b0, b1⟩⟩ := J7.out.cs
              clear hb7 J6
              cases z7 : lessB d j f k
              ·
                obtain ⟨r0, r1, t0, t1, rf0, rf1, tf0, tf1, hlt⟩ := J7.out.fs
                have HE := Lib.hid (J7.out.fin (.int .i64 c) (.string (valOf i)) (.int .i64 d) (.string (valOf j)))
                obtain rfl : R = ((c, i), (d, j)) := by rw [← HR.out]; unfold joinB; simp only [z1, z2, z3, z4, z5, z6, z7, Bool.false_eq_true, if_false, if_true, Bool.not_true, Bool.not_false, Bool.and_true, Bool.true_and, Bool.and_false, Bool.false_and, Bool.or_false, Bool.or_true, Bool.false_or, Bool.true_or]
                clear HR
                go_wp2_with fail
                go_region
                all_goals
                  go_wp2_with fail
                  refine bodyPost_ret (v := .tuple #[.agg #[.int .i64 c, .string (valOf i)], .agg #[.int .i64 d, .string (valOf j)]]) ?_ rfl ⟨rfl, ?_⟩
                  · simp [results, Try.results18, go_sem, r0, r1, t0, t1]; try rfl
                  · rw [HG.out]; first | exact HE.out | exact HE.out.drew
              ·
                obtain ⟨r0, r1, t0, t1, rf0, rf1, tf0, tf1, hlt⟩ := J7.out.fs
                have HE := Lib.hid (J7.out.fin (.int .i64 c) (.string (valOf i)) (.int .i64 f) (.string (valOf k)))
                obtain rfl : R = ((c, i), (f, k)) := by rw [← HR.out]; unfold joinB; simp only [z1, z2, z3, z4, z5, z6, z7, Bool.false_eq_true, if_false, if_true, Bool.not_true, Bool.not_false, Bool.and_true, Bool.true_and, Bool.and_false, Bool.false_and, Bool.or_false, Bool.or_true, Bool.false_or, Bool.true_or]
                clear HR
                go_wp2_with fail
                go_region
                all_goals
                  go_wp2_with fail
                  refine bodyPost_ret (v := .tuple #[.agg #[.int .i64 c, .string (valOf i)], .agg #[.int .i64 f, .string (valOf k)]]) ?_ rfl ⟨rfl, ?_⟩
                  · simp [results, Try.results18, go_sem, r0, r1, t0, t1]; try rfl
                  · rw [HG.out]; first | exact HE.out | exact HE.out.drew
            · --true
              obtain ⟨r0, r1, t0, t1, rf0, rf1, tf0, tf1, hlt⟩ := J6.out.fs
              have HE := Lib.hid (J6.out.fin (.int .i64 c) (.string (valOf i)) (.int .i64 f) (.string (valOf k)))
              obtain rfl : R = ((c, i), (f, k)) := by rw [← HR.out]; unfold joinB; simp only [z1, z2, z3, z4, z5, z6, Bool.false_eq_true, if_false, if_true, Bool.not_true, Bool.not_false, Bool.and_true, Bool.true_and, Bool.and_false, Bool.false_and, Bool.or_false, Bool.or_true, Bool.false_or, Bool.true_or]
              clear HR
              go_wp2_with fail
              go_region
              all_goals
                go_wp2_with fail
                refine bodyPost_ret (v := .tuple #[.agg #[.int .i64 c, .string (valOf i)], .agg #[.int .i64 f, .string (valOf k)]]) ?_ rfl ⟨rfl, ?_⟩
                · simp [results, Try.results18, go_sem, r0, r1, t0, t1]; try rfl
                · rw [HG.out]; first | exact HE.out | exact HE.out.drew
          · --the same
            obtain ⟨r0, r1, t0, t1, rf0, rf1, tf0, tf1, hlt⟩ := J5.out.fs
            have HE := Lib.hid (J5.out.fin (.int .i64 c) (.string (valOf i)) (.int .i64 d) (.string (valOf j)))
            obtain rfl : R = ((c, i), (d, j)) := by rw [← HR.out]; unfold joinB; simp only [z1, z2, z3, z4, z5, Bool.false_eq_true, if_false, if_true, Bool.not_true, Bool.not_false, Bool.and_true, Bool.true_and, Bool.and_false, Bool.false_and, Bool.or_false, Bool.or_true, Bool.false_or, Bool.true_or]
            clear HR
            go_wp2_with fail
            go_region
            all_goals
              go_wp2_with fail
              refine bodyPost_ret (v := .tuple #[.agg #[.int .i64 c, .string (valOf i)], .agg #[.int .i64 d, .string (valOf j)]]) ?_ rfl ⟨rfl, ?_⟩
              · simp [results, Try.results18, go_sem, r0, r1, t0, t1]; try rfl
              · rw [HG.out]; first | exact HE.out | exact HE.out.drew
      · --true: p less than b
        go_wp2_with fail
        refine (compat_run _ _ _ _ _ hi hk).mono ?_
        rintro e W8 ⟨rfl, hb8⟩
        have J8 := Lib.hid (J3.out.bel' hb8)
        clear p0 p1 q0 q1 b0 b1
        obtain ⟨⟨p0, p1⟩, ⟨q0, q1⟩, ⟨b0, b1⟩⟩ := J8.out.cs
        clear hb8 J3
        cases z4 : decide (i = k)
        · --other
          obtain ⟨r0, r1, t0, t1, rf0, rf1, tf0, tf1, hlt⟩ := J8.out.fs
          have HE := Lib.hid (J8.out.fin (.int .i64 f) (.string (valOf k)) (.int .i64 c) (.string (valOf i)))
          obtain rfl : R = ((f, k), (c, i)) := by rw [← HR.out]; unfold joinB; simp only [z1, z2, z3, z4, Bool.false_eq_true, if_false, if_true, Bool.not_true, Bool.not_false, Bool.and_true, Bool.true_and, Bool.and_false, Bool.false_and, Bool.or_false, Bool.or_true, Bool.false_or, Bool.true_or]
          clear HR
          go_wp2_with fail
          go_region
          all_goals
            go_wp2_with fail
            refine bodyPost_ret (v := .tuple #[.agg #[.int .i64 f, .string (valOf k)], .agg #[.int .i64 c, .string (valOf i)]]) ?_ rfl ⟨rfl, ?_⟩
            · simp [results, Try.results18, go_sem, r0, r1, t0, t1]; try rfl
            · rw [HG.out]; first | exact HE.out | exact HE.out.drew
        · --same
          go_wp2_with fail
          refine (compat_run _ _ _ _ _ hj hk).mono ?_
          rintro e W9 ⟨rfl, hb9⟩
          have J9 := Lib.hid (J8.out.bel' hb9)
          clear p0 p1 q0 q1 b0 b1
          obtain ⟨⟨p0, p1⟩, ⟨q0, q1⟩, ⟨b0, b1⟩⟩ := J9.out.cs
          clear hb9 J8
          cases z5 : decide (j = k)
          · --other
            obtain ⟨r0, r1, t0, t1, rf0, rf1, tf0, tf1, hlt⟩ := J9.out.fs
            have HE := Lib.hid (J9.out.fin (.int .i64 f) (.string (valOf k)) (.int .i64 d) (.string (valOf j)))
            obtain rfl : R = ((f, k), (d, j)) := by rw [← HR.out]; unfold joinB; simp only [z1, z2, z3, z4, z5, Bool.false_eq_true, if_false, if_true, Bool.not_true, Bool.not_false, Bool.and_true, Bool.true_and, Bool.and_false, Bool.false_and, Bool.or_false, Bool.or_true, Bool.false_or, Bool.true_or]
            clear HR
            go_wp2_with fail
            go_region
            all_goals
              go_wp2_with fail
              refine bodyPost_ret (v := .tuple #[.agg #[.int .i64 f, .string (valOf k)], .agg #[.int .i64 d, .string (valOf j)]]) ?_ rfl ⟨rfl, ?_⟩
              · simp [results, Try.results18, go_sem, r0, r1, t0, t1]; try rfl
              · rw [HG.out]; first | exact HE.out | exact HE.out.drew
          · --same
            obtain ⟨r0, r1, t0, t1, rf0, rf1, tf0, tf1, hlt⟩ := J9.out.fs
            have HE := Lib.hid (J9.out.fin (.int .i64 f) (.string (valOf k)) (.int .i64 0) (.string (valOf 0)))
            obtain rfl : R = ((f, k), (0, 0)) := by rw [← HR.out]; unfold joinB; simp only [z1, z2, z3, z4, z5, Bool.false_eq_true, if_false, if_true, Bool.not_true, Bool.not_false, Bool.and_true, Bool.true_and, Bool.and_false, Bool.false_and, Bool.or_false, Bool.or_true, Bool.false_or, Bool.true_or]
            clear HR
            go_wp2_with fail
            all_goals
              go_wp2_with fail
              refine bodyPost_ret (v := .tuple #[.agg #[.int .i64 f, .string (valOf k)], .agg #[.int .i64 0, .string (valOf 0)]]) ?_ rfl ⟨rfl, ?_⟩
              · simp [results, Try.results18, go_sem, r0, r1, t0, t1]; try rfl
              · rw [HG.out]; first | exact HE.out | exact HE.out.drew
    · --zero p
      obtain ⟨r0, r1, t0, t1, rf0, rf1, tf0, tf1, hlt⟩ := J2.out.fs
      have HE := Lib.hid (J2.out.fin (.int .i64 f) (.string (valOf k)) (.int .i64 d) (.string (valOf j)))
      obtain rfl : R = ((f, k), (d, j)) := by rw [← HR.out]; unfold joinB; simp only [z1, z2, Bool.false_eq_true, if_false, if_true, Bool.not_true, Bool.not_false, Bool.and_true, Bool.true_and, Bool.and_false, Bool.false_and, Bool.or_false, Bool.or_true, Bool.false_or, Bool.true_or]
      clear HR
      go_wp2_with fail
      go_region
      all_goals
        go_wp2_with fail
        refine bodyPost_ret (v := .tuple #[.agg #[.int .i64 f, .string (valOf k)], .agg #[.int .i64 d, .string (valOf j)]]) ?_ rfl ⟨rfl, ?_⟩
        · simp [results, Try.results18, go_sem, r0, r1, t0, t1]; try rfl
        · rw [HG.out]; first | exact HE.out | exact HE.out.drew
  · --zero b
    obtain ⟨r0, r1, t0, t1, rf0, rf1, tf0, tf1, hlt⟩ := J1.out.fs
    have HE := Lib.hid (J1.out.fin (.int .i64 c) (.string (valOf i)) (.int .i64 d) (.string (valOf j)))
    obtain rfl : R = ((c, i), (d, j)) := by rw [← HR.out]; unfold joinB; simp only [z1, Bool.false_eq_true, if_false, if_true, Bool.not_true, Bool.not_false, Bool.and_true, Bool.true_and, Bool.and_false, Bool.false_and, Bool.or_false, Bool.or_true, Bool.false_or, Bool.true_or]
    clear HR
    go_wp2_with fail
    go_region
    all_goals
      go_wp2_with fail
      refine bodyPost_ret (v := .tuple #[.agg #[.int .i64 c, .string (valOf i)], .agg #[.int .i64 d, .string (valOf j)]]) ?_ rfl ⟨rfl, ?_⟩
      · simp [results, Try.results18, go_sem, r0, r1, t0, t1]; try rfl
      · rw [HG.out]; first | exact HE.out | exact HE.out.drew
end Go.Proofs.Ytmgiojdipheokaa
