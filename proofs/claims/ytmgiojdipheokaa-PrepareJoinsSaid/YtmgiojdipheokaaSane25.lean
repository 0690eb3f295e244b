/- The contract of trustquorumlaw25.sane: the chapter's example. -/
import Derived.Test.YtmgiojdipheokaaView0
import Derived.Test.YtmgiojdipheokaaJoin
namespace Go.Proofs.Ytmgiojdipheokaa
set_option linter.unusedVariables false
set_option linter.unusedSimpArgs false
open Go.RowKit

theorem join_lit : joinB 2 1 0 0 3 2 = ((3, 2), (2, 1)) := by decide
theorem join_sane (w : World) :
    Calls Try.prog 18 #[.agg #[.int .i64 2, .string ⟨#[97]⟩], .agg #[.int .i64 0, .string ⟨#[]⟩], .agg #[.int .i64 3, .string ⟨#[98]⟩]] w fun e w' => e = .returned (.tuple #[.agg #[.int .i64 3, .string ⟨#[98]⟩], .agg #[.int .i64 2, .string ⟨#[97]⟩]]) ∧ Below w.heap.size w w' := by
  have h := join_run 2 1 0 0 3 2 w (by omega) (by omega) (by omega)
  rw [join_lit] at h
  exact h

set_option maxRecDepth 100000 in
set_option maxHeartbeats 1000000 in
theorem sane25 (w : World) : Calls Try.prog 23 #[] w fun e w' => e = .returned (.bool true) ∧ Below w.heap.size w w' := by
  go_enter Try.func23, Try.ntmps23
  go_wp2_with fail
  refine (join_sane _).mono ?_
  rintro e w1 ⟨rfl, hb1⟩
  have HB1 := Lib.hid hb1
  clear hb1
  go_upto_region 2 with fail
  have hP : BalAt ((w1.alloc (.cells #[.int .i64 3, .string ⟨#[98]⟩] 26)).alloc (.cells #[.int .i64 2, .string ⟨#[97]⟩] 26)) w1.heap.size 3 2 := (BalAt.new w1 3 2).alloc _
  have hQ : BalAt ((w1.alloc (.cells #[.int .i64 3, .string ⟨#[98]⟩] 26)).alloc (.cells #[.int .i64 2, .string ⟨#[97]⟩] 26)) (w1.heap.size + 1) 2 1 := by
    have := BalAt.new (w1.alloc (.cells #[.int .i64 3, .string ⟨#[98]⟩] 26)) 2 1
    rw [World.size_alloc] at this
    exact this
  have HB2 := Lib.hid (balloc (balloc HB1.out (.cells #[.int .i64 3, .string ⟨#[98]⟩] 26)) (.cells #[.int .i64 2, .string ⟨#[97]⟩] 26))
  generalize (w1.alloc (.cells #[.int .i64 3, .string ⟨#[98]⟩] 26)).alloc (.cells #[.int .i64 2, .string ⟨#[97]⟩] 26) = W2 at *
  generalize w1.heap.size = g at *
  have HP := Lib.hid hP
  have HQ := Lib.hid hQ
  clear hP hQ HB1
  have hf := pflat_run 2 1 W2 (by omega)
  have HF := Lib.hid hf
  clear hf
  go_wp2_with fail
  refine HF.out.mono ?_
  rintro e W3 ⟨v1, rfl, hT, hb3⟩
  have HP3 := Lib.hid (HP.out.below hb3)
  have HQ3 := Lib.hid (HQ.out.below hb3)
  have HB3 := Lib.hid (bstep HB2.out hb3)
  have HT := Lib.hid hT
  clear hT hb3 HF HP HQ HB2
  go_wp2_with fail
  refine (view0_run _ _ _ _ _ _ _ HT.out).mono ?_
  rintro e W4 ⟨q, rfl, hq, hb4⟩
  have HP4 := Lib.hid ((HP3.out.below hb4).alloc (.cells #[.slice (some ⟨q, 0, none⟩) 10 10] 84))
  have HQ4 := Lib.hid ((HQ3.out.below hb4).alloc (.cells #[.slice (some ⟨q, 0, none⟩) 10 10] 84))
  have HB4 := Lib.hid (balloc (bstep HB3.out hb4) (.cells #[.slice (some ⟨q, 0, none⟩) 10 10] 84))
  have HC4 := Lib.hid (show (W4.alloc (.cells #[.slice (some ⟨q, 0, none⟩) 10 10] 84)).cell? ⟨W4.heap.size, 0, none⟩ = some (.slice (some ⟨q, 0, none⟩) 10 10) from row_new _ _ _ 0)
  have HQQ4 := Lib.hid (show (W4.alloc (.cells #[.slice (some ⟨q, 0, none⟩) 10 10] 84)).cell? ⟨q, 0, none⟩ = some (.bool true) from (World.cell?_alloc_lt _ _ _ (cell_lt hq)).trans hq)
  clear hb4 hq HP3 HQ3 HB3 HT
  go_upto_region 3 with fail
  generalize W4.alloc (.cells #[.slice (some ⟨q, 0, none⟩) 10 10] 84) = W5 at *
  generalize W4.heap.size = r at *
  obtain ⟨p0, p1⟩ := HP4.out.cs
  obtain ⟨q0, q1⟩ := HQ4.out.cs
  have c0 := HC4.out
  have c1 := HQQ4.out
  have e1 : valOf 2 = ⟨#[98]⟩ := rfl
  have e2 : valOf 1 = ⟨#[97]⟩ := rfl
  rw [e1] at p1
  rw [e2] at q1
  clear e1 e2
  go_wp2_with fail
  go_ret
  exact ⟨rfl, HB4.out⟩
end Go.Proofs.Ytmgiojdipheokaa
