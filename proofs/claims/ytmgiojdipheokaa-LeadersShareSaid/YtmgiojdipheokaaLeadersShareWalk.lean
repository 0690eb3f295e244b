/- The walk of LeadersShare: two nodes whose trusts give a node the same weight agree on whether it is a neighbour of theirs, unless it is one of them. -/
import Derived.Test.YtmgiojdipheokaaLead3
import Derived.Test.YtmgiojdipheokaaTwo
import Derived.Deep.RegionHeld3
import Derived.Deep.DeepCutAuto
import Derived.Deep.CutRange
namespace Go.Proofs.Ytmgiojdipheokaa
set_option linter.unusedVariables false
open Go.RowKit

theorem frac_lt {h a b a' b' M : Int} (hb : 0 < b) (hb' : 0 < b') (e : a * b' = a' * b) (hlt : h * b < a * M) : h * b' < a' * M := by
  have h1 : h * b * b' < a * M * b' := Int.mul_lt_mul_of_pos_right hlt hb'
  have h2 : h * b * b' = (h * b') * b := Int.mul_right_comm _ _ _
  have h3 : a * M * b' = (a' * M) * b := by rw [Int.mul_right_comm, e, Int.mul_right_comm]
  rw [h2, h3] at h1
  exact Int.lt_of_mul_lt_mul_right h1 (Int.le_of_lt hb)
theorem nb_share {d : Nat} {T Y : Tree} {v w s r x a b a' b' : Int} (h1 : x ≠ v) (h2 : x ≠ w) (hx : weightT d T x = some (a, b)) (hy : weightT d Y x = some (a', b')) (hb : 0 < b) (hb' : 0 < b') (e : a * b' = a' * b) : nbB d Y w s r x = nbB d T v s r x := by
  unfold nbB
  rw [if_neg h1, if_neg h2, hx, hy]
  show decide (hashV 1 s r x * b' < a' * 4294967296) = decide (hashV 1 s r x * b < a * 4294967296)
  rw [decide_eq_decide]
  exact ⟨fun h => frac_lt hb' hb e.symm h, fun h => frac_lt hb hb' e h⟩
theorem nb_none {d : Nat} {T Y : Tree} {v w s r x : Int} (h1 : x ≠ v) (h2 : x ≠ w) (hx : weightT d T x = none) (hy : weightT d Y x = none) : nbB d Y w s r x = nbB d T v s r x := by
  unfold nbB
  rw [if_neg h1, if_neg h2, hx, hy]

set_option maxRecDepth 100000 in
set_option maxHeartbeats 4000000 in
theorem walkLeadersShare (a0 : Option Addr) (len0 cap0 : Nat) (z0 : List Int) (w : World) (w0 : IsRow .i64 w a0 len0 cap0 z0) :
    Calls Try.prog 14 #[.slice a0 len0 cap0] w fun e w' => e = .returned (.bool true) ∧ Below w.heap.size w w' := by
  have HR := Lib.hid w0
  clear w0
  go_enter Try.func14, Try.ntmps14
  go_wp2_with fail
  refine (TNew_run _ _ _ _ _ HR.out).mono ?_
  rintro e v0 ⟨rfl, hs0, hb0⟩
  have HS0 := Lib.hid hs0
  have HB0 := Lib.hid hb0
  have hsl := hs0.lt
  clear hs0 hb0
  go_wp2_with fail
  refine (mkTrust_run _ 6 (by omega) (by omega) 1 (by omega) _ HS0.out).mono ?_
  rintro e v2 ⟨x0, x1, x2, T, rfl, hT, hF, hs2, hg2⟩
  obtain ⟨t', A', n', ca, B', m', cb, rfl, rfl, rfl⟩ := hT.form
  have HT := Lib.hid (hT.imp (Q := fun b => w.heap.size < b) (fun k _ hk => by omega))
  have HS2 := Lib.hid hs2
  have HB2 := Lib.hid (bgrownT HB0.out hg2 (Nat.le_refl _))
  have HWX := Lib.hid hF.1
  have HZX := Lib.hid hF.2
  have hsl2 := hs2.lt
  clear hT hF hs2 hg2 HS0 HB0
  go_wp2_with fail
  refine (mkTrust_run _ 6 (by omega) (by omega) 1 (by omega) _ HS2.out).mono ?_
  rintro e v3 ⟨x0, x1, x2, Y, rfl, hT, hF, hs3, hg3⟩
  obtain ⟨u', Ay, ny, cy, By, my, cz, rfl, rfl, rfl⟩ := hT.form
  have hb3 := bgrownT HB2.out hg3 (Nat.le_refl _)
  have hX3 := HT.out.keep (fun q hq hP => hg3.block q hq (by simp; omega))
  have hl3 := hs3.lt
  have HMX : Hid (MadeAt w v3.heap.size 2 t' (.slice A' n' ca) (.slice B' m' cb) T ((v3.alloc (.cells #[.int .i64 t', .slice A' n' ca, .slice B' m' cb] 41)).alloc (.cells #[.int .i64 u', .slice Ay ny cy, .slice By my cz] 41))) :=
    Lib.hid ⟨(hs3.alloc _).alloc _, alloc_on (alloc_at rfl), hX3.below (balloc (balloc (bref _) _) _), hl3, balloc (balloc hb3 _) _⟩
  have HMY : Hid (MadeAt w (v3.heap.size + 1) 2 u' (.slice Ay ny cy) (.slice By my cz) Y ((v3.alloc (.cells #[.int .i64 t', .slice A' n' ca, .slice B' m' cb] 41)).alloc (.cells #[.int .i64 u', .slice Ay ny cy, .slice By my cz] 41))) :=
    Lib.hid ⟨(hs3.alloc _).alloc _, alloc_at (alloc_sz _ _), (hT.imp (fun k _ hk => by omega)).below (balloc (balloc (bref _) _) _), by omega, balloc (balloc hb3 _) _⟩
  have HWY := Lib.hid hF.1
  have HZY := Lib.hid hF.2
  clear hT hF hs3 hg3 hX3 HT HS2 HB2 hb3
  go_upto_region 3 with fail
  generalize ((v3.alloc (.cells #[.int .i64 t', .slice A' n' ca, .slice B' m' cb] 41)).alloc (.cells #[.int .i64 u', .slice Ay ny cy, .slice By my cz] 41)) = W1 at *
  generalize v3.heap.size + 1 = gy at *
  generalize v3.heap.size = g at *
  have HX1 := HMX
  have HY1 := HMY
  clear HMX HMY
  go_wp2_with fail
  refine (TN_run _ _ _ (by omega) (by omega) HX1.out.tape).mono ?_
  rintro e W2 ⟨vv, hv0, hv1, rfl, hs2, hg2⟩
  have HX2 := Lib.hid (HX1.out.grown hs2 hg2)
  have HY2 := Lib.hid (HY1.out.grown hs2 hg2)
  clear hs2 hg2 HX1 HY1
  go_wp2_with fail
  refine (TN_run _ _ _ (by omega) (by omega) HX2.out.tape).mono ?_
  rintro e W3 ⟨ww, hw0, hw1, rfl, hs2, hg2⟩
  have HX3 := Lib.hid (HX2.out.grown hs2 hg2)
  have HY3 := Lib.hid (HY2.out.grown hs2 hg2)
  clear hs2 hg2 HX2 HY2
  go_wp2_with fail
  refine (TN_run _ _ _ (by omega) (by omega) HX3.out.tape).mono ?_
  rintro e W4 ⟨uu, hu0, hu1, rfl, hs2, hg2⟩
  have HX4 := Lib.hid (HX3.out.grown hs2 hg2)
  have HY4 := Lib.hid (HY3.out.grown hs2 hg2)
  clear hs2 hg2 HX3 HY3
  go_wp2_with fail
  refine (TN_run _ _ _ (by omega) (by omega) HX4.out.tape).mono ?_
  rintro e W5 ⟨ss, hs0, hs1, rfl, hs2, hg2⟩
  have HX5 := Lib.hid (HX4.out.grown hs2 hg2)
  have HY5 := Lib.hid (HY4.out.grown hs2 hg2)
  clear hs2 hg2 HX4 HY4
  go_wp2_with fail
  refine (TRange_run _ _ _ _ (by omega) (by omega) (by omega) HX5.out.tape).mono ?_
  rintro e W6 ⟨rr, hr0, hr1, rfl, hs2, hg2⟩
  have HX6 := Lib.hid (HX5.out.grown hs2 hg2)
  have HY6 := Lib.hid (HY5.out.grown hs2 hg2)
  clear hs2 hg2 HX5 HY5
  have h610 : (6 : Int) ≤ 10 := by omega
  have h24 : 2 ≤ 4 := by omega
  have hv9 : vv < 10 := by omega
  have hw9 : ww < 10 := by omega
  have hu9 : uu < 10 := by omega
  have hs9 : ss ≤ 1000000 := by omega
  have hr9 : rr ≤ 1000 := by omega
  have HBX := Lib.hid (fun p => weightT_bound (x := uu) 2 T HWX.out p)
  have HBY := Lib.hid (fun p => weightT_bound (x := uu) 2 Y HWY.out p)
  obtain ⟨c0, c1, c2⟩ := HX6.out.out.cs
  go_wp2_with fail
  refine (pweight_run 6 h610 2 h24 _ T uu _ _ _ _ HX6.out.tat HWX.out HZX.out).mono ?_
  rintro e W7 ⟨rfl, hb7⟩
  have HX7 := Lib.hid (HX6.out.bel hb7)
  have HY7 := Lib.hid (HY6.out.bel hb7)
  clear hb7 c0 c1 c2 HX6 HY6
  obtain ⟨d0, d1, d2⟩ := HY7.out.out.cs
  cases hwx : weightT 2 T uu with
  | none =>
    simp only [fracV, Option.isSome_none]
    cases hwy : weightT 2 Y uu with
    | none =>
      go_upto_region 5 with fail
      have HX7' := Lib.hid (HX7.out.bel (balloc (bref W7) (.cells #[.int .i64 0, .int .i64 0] 72)))
      have HY7' := Lib.hid (HY7.out.bel (balloc (bref W7) (.cells #[.int .i64 0, .int .i64 0] 72)))
      have HF7' := Lib.hid (show FracAt (W7.alloc (.cells #[.int .i64 0, .int .i64 0] 72)) W7.heap.size 0 0 from alloc_at rfl)
      generalize W7.alloc (.cells #[.int .i64 0, .int .i64 0] 72) = W7' at *
      generalize W7.heap.size = f1 at *
      clear HX7 HY7 d0 d1 d2
      obtain ⟨d0, d1, d2⟩ := HY7'.out.out.cs
      go_wp2_with fail
      refine (pweight_run 6 h610 2 h24 _ Y uu _ _ _ _ HY7'.out.tat HWY.out HZY.out).mono ?_
      rintro e W8 ⟨rfl, hb8⟩
      rw [hwy]
      simp only [fracV, Option.isSome_none]
      go_upto_region 6 with fail
      have hb9 := balloc hb8 (.cells #[.int .i64 0, .int .i64 0] 72)
      have HX8 := Lib.hid (HX7'.out.bel hb9)
      have HY8 := Lib.hid (HY7'.out.bel hb9)
      have HF8 := HF7'.out.keep (hb9.block _ HF7'.out.lt)
      have HG8 : FracAt (W8.alloc (.cells #[.int .i64 0, .int .i64 0] 72)) W8.heap.size 0 0 := alloc_at rfl
      obtain ⟨p0, p1⟩ := HF8.cs
      obtain ⟨q0, q1⟩ := HG8.cs
      clear hb8 hb9 d0 d1 d2 HX7' HY7' HF7' HF8 HG8
      generalize W8.alloc (.cells #[.int .i64 0, .int .i64 0] 72) = W9 at *
      generalize W8.heap.size = f2 at *
      by_cases hv : uu = vv
      · subst hv
        go_wp2_with fail
        refine (awake21 _).mono ?_
        rintro e Z ⟨rfl, hbz⟩
        go_wp2_with fail
        go_ret
        exact ⟨rfl, bstep HX8.out.below hbz⟩
      · by_cases hv2 : uu = ww
        · subst hv2
          go_wp2_with fail
          refine (awake21 _).mono ?_
          rintro e Z ⟨rfl, hbz⟩
          go_wp2_with fail
          go_ret
          exact ⟨rfl, bstep HX8.out.below hbz⟩
        · have e1 : (uu == vv) = false := by simpa using hv
          have e2 : (uu == ww) = false := by simpa using hv2
          have hnb := nb_none (s := ss) (r := rr) hv hv2 hwx hwy
          clear hwx hwy
          have hS := Lib.hid (twoM HX8.out.drew HY8.out.drew)
          go_upto_region 8 with fail
          cases hbb : nbB 2 T vv ss rr uu
          all_goals
            rw [hbb] at hnb
            go_region_held3 (fun W => W.cell? ⟨g, 0, none⟩ = some (.int .i64 t') ∧ W.cell? ⟨g, 1, none⟩ = some (.slice A' n' ca) ∧ W.cell? ⟨g, 2, none⟩ = some (.slice B' m' cb) ∧ W.cell? ⟨gy, 0, none⟩ = some (.int .i64 u') ∧ W.cell? ⟨gy, 1, none⟩ = some (.slice Ay ny cy) ∧ W.cell? ⟨gy, 2, none⟩ = some (.slice By my cz) ∧ MadeAt w g 2 t' (.slice A' n' ca) (.slice B' m' cb) T W ∧ MadeAt w gy 2 u' (.slice Ay ny cy) (.slice By my cz) Y W) (first | exact hS.out | exact keepTwo (by assumption) hbK | go_keep)
              (first
                | (go_at_call_of 62 A'; refine (pneighbour_run 6 (by exact h610) 2 (by exact h24) _ T vv ss rr uu _ _ _ _ (by exact tatX (by assumption)) (by exact HWX.out) (by exact HZX.out) (by exact hv0) (by exact hv9) (by exact hs0) (by exact hs9) (by exact hr0) (by exact hr9) (by exact hu0) (by exact hu9)).mono ?_; rintro e WK ⟨rfl, hbK⟩; rw [hbb])
                | (go_at_call_of 62 Ay; refine (pneighbour_run 6 (by exact h610) 2 (by exact h24) _ Y ww ss rr uu _ _ _ _ (by exact tatY (by assumption)) (by exact HWY.out) (by exact HZY.out) (by exact hw0) (by exact hw9) (by exact hs0) (by exact hs9) (by exact hr0) (by exact hr9) (by exact hu0) (by exact hu9)).mono ?_; rintro e WK ⟨rfl, hbK⟩; rw [hnb])
                | (go_at_call 59; refine (awake21 _).mono ?_; rintro e WK ⟨rfl, hbK⟩))
            all_goals
              have hF : WK.cell? ⟨g, 0, none⟩ = some (.int .i64 t') ∧ WK.cell? ⟨g, 1, none⟩ = some (.slice A' n' ca) ∧ WK.cell? ⟨g, 2, none⟩ = some (.slice B' m' cb) ∧ WK.cell? ⟨gy, 0, none⟩ = some (.int .i64 u') ∧ WK.cell? ⟨gy, 1, none⟩ = some (.slice Ay ny cy) ∧ WK.cell? ⟨gy, 2, none⟩ = some (.slice By my cz) ∧ MadeAt w g 2 t' (.slice A' n' ca) (.slice B' m' cb) T WK ∧ MadeAt w gy 2 u' (.slice Ay ny cy) (.slice By my cz) Y WK := by assumption
              have hM4 := Lib.hid (madeX hF).1.below
              clear hF
              go_wp2_with fail
              go_ret
              exact ⟨rfl, hM4.out⟩
    | some q =>
      obtain ⟨ay, by'⟩ := q
      go_upto_region 5 with fail
      have HX7' := Lib.hid (HX7.out.bel (balloc (bref W7) (.cells #[.int .i64 0, .int .i64 0] 72)))
      have HY7' := Lib.hid (HY7.out.bel (balloc (bref W7) (.cells #[.int .i64 0, .int .i64 0] 72)))
      have HF7' := Lib.hid (show FracAt (W7.alloc (.cells #[.int .i64 0, .int .i64 0] 72)) W7.heap.size 0 0 from alloc_at rfl)
      generalize W7.alloc (.cells #[.int .i64 0, .int .i64 0] 72) = W7' at *
      generalize W7.heap.size = f1 at *
      clear HX7 HY7 d0 d1 d2
      obtain ⟨d0, d1, d2⟩ := HY7'.out.out.cs
      go_wp2_with fail
      refine (pweight_run 6 h610 2 h24 _ Y uu _ _ _ _ HY7'.out.tat HWY.out HZY.out).mono ?_
      rintro e W8 ⟨rfl, hb8⟩
      rw [hwy]
      simp only [fracV, Option.isSome_some]
      go_upto_region 6 with fail
      have hb9 := balloc hb8 (.cells #[.int .i64 ay, .int .i64 by'] 72)
      have HX8 := Lib.hid (HX7'.out.bel hb9)
      have HY8 := Lib.hid (HY7'.out.bel hb9)
      have HF8 := HF7'.out.keep (hb9.block _ HF7'.out.lt)
      have HG8 : FracAt (W8.alloc (.cells #[.int .i64 ay, .int .i64 by'] 72)) W8.heap.size ay by' := alloc_at rfl
      obtain ⟨p0, p1⟩ := HF8.cs
      obtain ⟨q0, q1⟩ := HG8.cs
      clear hb8 hb9 d0 d1 d2 HX7' HY7' HF7' HF8 HG8
      generalize W8.alloc (.cells #[.int .i64 ay, .int .i64 by'] 72) = W9 at *
      generalize W8.heap.size = f2 at *
      by_cases hv : uu = vv
      · subst hv
        go_wp2_with fail
        refine (awake21 _).mono ?_
        rintro e Z ⟨rfl, hbz⟩
        go_wp2_with fail
        go_ret
        exact ⟨rfl, bstep HX8.out.below hbz⟩
      · by_cases hv2 : uu = ww
        · subst hv2
          go_wp2_with fail
          refine (awake21 _).mono ?_
          rintro e Z ⟨rfl, hbz⟩
          go_wp2_with fail
          go_ret
          exact ⟨rfl, bstep HX8.out.below hbz⟩
        · clear hwx hwy
          go_wp2_with fail
          refine (awake21 _).mono ?_
          rintro e Z ⟨rfl, hbz⟩
          go_wp2_with fail
          go_ret
          exact ⟨rfl, bstep HX8.out.below hbz⟩
  | some p =>
    obtain ⟨ax, bx⟩ := p
    simp only [fracV, Option.isSome_some]
    cases hwy : weightT 2 Y uu with
    | none =>
      go_upto_region 5 with fail
      have HX7' := Lib.hid (HX7.out.bel (balloc (bref W7) (.cells #[.int .i64 ax, .int .i64 bx] 72)))
      have HY7' := Lib.hid (HY7.out.bel (balloc (bref W7) (.cells #[.int .i64 ax, .int .i64 bx] 72)))
      have HF7' := Lib.hid (show FracAt (W7.alloc (.cells #[.int .i64 ax, .int .i64 bx] 72)) W7.heap.size ax bx from alloc_at rfl)
      generalize W7.alloc (.cells #[.int .i64 ax, .int .i64 bx] 72) = W7' at *
      generalize W7.heap.size = f1 at *
      clear HX7 HY7 d0 d1 d2
      obtain ⟨d0, d1, d2⟩ := HY7'.out.out.cs
      go_wp2_with fail
      refine (pweight_run 6 h610 2 h24 _ Y uu _ _ _ _ HY7'.out.tat HWY.out HZY.out).mono ?_
      rintro e W8 ⟨rfl, hb8⟩
      rw [hwy]
      simp only [fracV, Option.isSome_none]
      go_upto_region 6 with fail
      have hb9 := balloc hb8 (.cells #[.int .i64 0, .int .i64 0] 72)
      have HX8 := Lib.hid (HX7'.out.bel hb9)
      have HY8 := Lib.hid (HY7'.out.bel hb9)
      have HF8 := HF7'.out.keep (hb9.block _ HF7'.out.lt)
      have HG8 : FracAt (W8.alloc (.cells #[.int .i64 0, .int .i64 0] 72)) W8.heap.size 0 0 := alloc_at rfl
      obtain ⟨p0, p1⟩ := HF8.cs
      obtain ⟨q0, q1⟩ := HG8.cs
      clear hb8 hb9 d0 d1 d2 HX7' HY7' HF7' HF8 HG8
      generalize W8.alloc (.cells #[.int .i64 0, .int .i64 0] 72) = W9 at *
      generalize W8.heap.size = f2 at *
      by_cases hv : uu = vv
      · subst hv
        go_wp2_with fail
        refine (awake21 _).mono ?_
        rintro e Z ⟨rfl, hbz⟩
        go_wp2_with fail
        go_ret
        exact ⟨rfl, bstep HX8.out.below hbz⟩
      · by_cases hv2 : uu = ww
        · subst hv2
          go_wp2_with fail
          refine (awake21 _).mono ?_
          rintro e Z ⟨rfl, hbz⟩
          go_wp2_with fail
          go_ret
          exact ⟨rfl, bstep HX8.out.below hbz⟩
        · clear hwx hwy
          go_wp2_with fail
          refine (awake21 _).mono ?_
          rintro e Z ⟨rfl, hbz⟩
          go_wp2_with fail
          go_ret
          exact ⟨rfl, bstep HX8.out.below hbz⟩
    | some q =>
      obtain ⟨ay, by'⟩ := q
      go_upto_region 5 with fail
      have HX7' := Lib.hid (HX7.out.bel (balloc (bref W7) (.cells #[.int .i64 ax, .int .i64 bx] 72)))
      have HY7' := Lib.hid (HY7.out.bel (balloc (bref W7) (.cells #[.int .i64 ax, .int .i64 bx] 72)))
      have HF7' := Lib.hid (show FracAt (W7.alloc (.cells #[.int .i64 ax, .int .i64 bx] 72)) W7.heap.size ax bx from alloc_at rfl)
      generalize W7.alloc (.cells #[.int .i64 ax, .int .i64 bx] 72) = W7' at *
      generalize W7.heap.size = f1 at *
      clear HX7 HY7 d0 d1 d2
      obtain ⟨d0, d1, d2⟩ := HY7'.out.out.cs
      go_wp2_with fail
      refine (pweight_run 6 h610 2 h24 _ Y uu _ _ _ _ HY7'.out.tat HWY.out HZY.out).mono ?_
      rintro e W8 ⟨rfl, hb8⟩
      rw [hwy]
      simp only [fracV, Option.isSome_some]
      go_upto_region 6 with fail
      have hb9 := balloc hb8 (.cells #[.int .i64 ay, .int .i64 by'] 72)
      have HX8 := Lib.hid (HX7'.out.bel hb9)
      have HY8 := Lib.hid (HY7'.out.bel hb9)
      have HF8 := HF7'.out.keep (hb9.block _ HF7'.out.lt)
      have HG8 : FracAt (W8.alloc (.cells #[.int .i64 ay, .int .i64 by'] 72)) W8.heap.size ay by' := alloc_at rfl
      obtain ⟨p0, p1⟩ := HF8.cs
      obtain ⟨q0, q1⟩ := HG8.cs
      clear hb8 hb9 d0 d1 d2 HX7' HY7' HF7' HF8 HG8
      generalize W8.alloc (.cells #[.int .i64 ay, .int .i64 by'] 72) = W9 at *
      generalize W8.heap.size = f2 at *
      by_cases hv : uu = vv
      · subst hv
        go_wp2_with fail
        refine (awake21 _).mono ?_
        rintro e Z ⟨rfl, hbz⟩
        go_wp2_with fail
        go_ret
        exact ⟨rfl, bstep HX8.out.below hbz⟩
      · by_cases hv2 : uu = ww
        · subst hv2
          go_wp2_with fail
          refine (awake21 _).mono ?_
          rintro e Z ⟨rfl, hbz⟩
          go_wp2_with fail
          go_ret
          exact ⟨rfl, bstep HX8.out.below hbz⟩
        · have e1 : (uu == vv) = false := by simpa using hv
          have e2 : (uu == ww) = false := by simpa using hv2
          obtain ⟨b1, b2, b3⟩ := HBX.out _ hwx
          obtain ⟨b4, b5, b6⟩ := HBY.out _ hwy
          simp only at b1 b2 b3 b4 b5 b6
          have m1 : 0 ≤ ax * by' := Int.mul_nonneg (by omega) (by omega)
          have m2 : ax * by' ≤ 64 * 64 := Int.mul_le_mul (by omega) (by omega) (by omega) (by omega)
          have m3 : 0 ≤ ay * bx := Int.mul_nonneg (by omega) (by omega)
          have m4 : ay * bx ≤ 64 * 64 := Int.mul_le_mul (by omega) (by omega) (by omega) (by omega)
          by_cases hp : ax * by' = ay * bx
          · have e3 : (ax * by' != ay * bx) = false := by simpa using hp
            have hnb := nb_share (s := ss) (r := rr) hv hv2 hwx hwy (by omega) (by omega) hp
            clear hwx hwy
            have hS := Lib.hid (twoM HX8.out.drew HY8.out.drew)
            go_upto_region 8 with fail
            cases hbb : nbB 2 T vv ss rr uu
            all_goals
              rw [hbb] at hnb
              go_region_held3 (fun W => W.cell? ⟨g, 0, none⟩ = some (.int .i64 t') ∧ W.cell? ⟨g, 1, none⟩ = some (.slice A' n' ca) ∧ W.cell? ⟨g, 2, none⟩ = some (.slice B' m' cb) ∧ W.cell? ⟨gy, 0, none⟩ = some (.int .i64 u') ∧ W.cell? ⟨gy, 1, none⟩ = some (.slice Ay ny cy) ∧ W.cell? ⟨gy, 2, none⟩ = some (.slice By my cz) ∧ MadeAt w g 2 t' (.slice A' n' ca) (.slice B' m' cb) T W ∧ MadeAt w gy 2 u' (.slice Ay ny cy) (.slice By my cz) Y W) (first | exact hS.out | exact keepTwo (by assumption) hbK | go_keep)
                (first
                  | (go_at_call_of 62 A'; refine (pneighbour_run 6 (by exact h610) 2 (by exact h24) _ T vv ss rr uu _ _ _ _ (by exact tatX (by assumption)) (by exact HWX.out) (by exact HZX.out) (by exact hv0) (by exact hv9) (by exact hs0) (by exact hs9) (by exact hr0) (by exact hr9) (by exact hu0) (by exact hu9)).mono ?_; rintro e WK ⟨rfl, hbK⟩; rw [hbb])
                  | (go_at_call_of 62 Ay; refine (pneighbour_run 6 (by exact h610) 2 (by exact h24) _ Y ww ss rr uu _ _ _ _ (by exact tatY (by assumption)) (by exact HWY.out) (by exact HZY.out) (by exact hw0) (by exact hw9) (by exact hs0) (by exact hs9) (by exact hr0) (by exact hr9) (by exact hu0) (by exact hu9)).mono ?_; rintro e WK ⟨rfl, hbK⟩; rw [hnb])
                  | (go_at_call 59; refine (awake21 _).mono ?_; rintro e WK ⟨rfl, hbK⟩))
              all_goals
                have hF : WK.cell? ⟨g, 0, none⟩ = some (.int .i64 t') ∧ WK.cell? ⟨g, 1, none⟩ = some (.slice A' n' ca) ∧ WK.cell? ⟨g, 2, none⟩ = some (.slice B' m' cb) ∧ WK.cell? ⟨gy, 0, none⟩ = some (.int .i64 u') ∧ WK.cell? ⟨gy, 1, none⟩ = some (.slice Ay ny cy) ∧ WK.cell? ⟨gy, 2, none⟩ = some (.slice By my cz) ∧ MadeAt w g 2 t' (.slice A' n' ca) (.slice B' m' cb) T WK ∧ MadeAt w gy 2 u' (.slice Ay ny cy) (.slice By my cz) Y WK := by assumption
                have hM4 := Lib.hid (madeX hF).1.below
                clear hF
                go_wp2_with fail
                go_ret
                exact ⟨rfl, hM4.out⟩
          · have e3 : (ax * by' != ay * bx) = true := by simpa using hp
            clear hwx hwy
            go_wp2_with fail
            refine (awake21 _).mono ?_
            rintro e Z ⟨rfl, hbz⟩
            go_wp2_with fail
            go_ret
            exact ⟨rfl, bstep HX8.out.below hbz⟩
end Go.Proofs.Ytmgiojdipheokaa
