/- The example of layer 10. -/
import Derived.Test.YtoaekbhbbejgmaaUni10
import Derived.Test.YtoaekbhbbejgmaaSame10
import Derived.Test.YtoaekbhbbejgmaaClos3
namespace Go.Proofs.Ytoaekbhbbejgmaa
set_option linter.unusedVariables false
set_option linter.unusedSimpArgs false
open Go.RowKit

theorem nodes_new (W : World) (ns : List Int) : NodesAt (fun b => W.heap.size ≤ b) (W.alloc (.cells (ns.map (Value.int .i64)).toArray 3)) (.slice (some ⟨W.heap.size, 0, none⟩) ns.length ns.length) ns :=
  ⟨some ⟨W.heap.size, 0, none⟩, ns.length, rfl, fun k hk => ⟨W.heap.size, 0, rfl, Nat.le_refl _, by
    rw [cell_of_row _ _ (0 + k) _ _ (0, 0) (heap_alloc_new _ _), Nat.zero_add, List.getElem?_toArray, List.getElem?_map, List.getD_eq_getElem?_getD, List.getElem?_eq_getElem hk]; rfl⟩⟩

set_option maxRecDepth 100000 in
set_option maxHeartbeats 4000000 in
theorem awake10 (w : World) : Calls Try.prog 15 #[] w fun e w' => e = .returned (.bool true) ∧ Below w.heap.size w w' := by
  have HOK := Lib.hid (uni_ok (n := 3) (k := 2) (by omega) (by omega) (by omega))
  have HLE := Lib.hid (show (uniM 3 2 3).length ≤ 10 by rw [uniM_len]; omega)
  have HMI := Lib.hid (fun P v w h => qmin_run P (uniM 3 2 3) v w HLE.out h HOK.out)
  have HCO := Lib.hid (fun P v w h => qcount_run P (uniM 3 2 3) v w HLE.out h HOK.out)
  have HPA := Lib.hid (fun P v w h => parts_run P (uniM 3 2 3) v w HLE.out h HOK.out)
  rw [allQ_uni 3 2 (by omega) (by omega)] at HMI HCO
  rw [parts_uni 3 2 (by omega) (by omega)] at HPA
  rw [uniQ32] at HCO
  have HL := Lib.hid (fun l h => least32 (l := l) h)
  clear HOK HLE
  go_enter Try.func15, Try.ntmps15
  go_wp2_with fail
  refine (same10_run 3 2 (by omega) (by omega) _).mono ?_
  rintro e w1 ⟨v1, rfl, hm1, hb1⟩
  have HB1 := Lib.hid hb1
  clear hb1
  go_wp2_with fail
  refine (HMI.out _ _ _ hm1.up).mono ?_
  rintro e w2 ⟨v2, l, rfl, ho2, hl2, hb2⟩
  obtain rfl := HL.out l hl2
  have HB2 := Lib.hid (bstep HB1.out hb2)
  have HN2 := Lib.hid (NodesAt.of_ownZ ho2)
  obtain ⟨A2, c2, hv2⟩ := own_slice ho2
  subst hv2
  clear ho2 hl2 hb2 hm1 HB1
  go_wp2_with fail
  refine (same10_run 3 2 (by omega) (by omega) _).mono ?_
  rintro e w3 ⟨v3, rfl, hm3, hb3⟩
  have HB3 := Lib.hid (bstep HB2.out hb3)
  have HN3 := Lib.hid (HN2.out.below hb3)
  clear hb3 HB2 HN2
  go_wp2_with fail
  refine (HCO.out _ _ _ hm3.up).mono ?_
  rintro e w4 ⟨rfl, hb4⟩
  have HB4 := Lib.hid (bstep HB3.out hb4)
  have HN4 := Lib.hid (HN3.out.below hb4)
  clear hb4 hm3 HB3 HN3
  go_wp2_with fail
  refine (same10_run 3 2 (by omega) (by omega) _).mono ?_
  rintro e w5 ⟨v5, rfl, hm5, hb5⟩
  have HB5 := Lib.hid (bstep HB4.out hb5)
  have HN5 := Lib.hid (HN4.out.below hb5)
  clear hb5 HB4 HN4
  go_wp2_with fail
  refine (HPA.out _ _ _ hm5.up).mono ?_
  rintro e w6 ⟨v6, rfl, ho6, hb6⟩
  have HB6 := Lib.hid (bstep HB5.out hb6)
  have HN6 := Lib.hid (HN5.out.below hb6)
  have HP6 := Lib.hid (NodesAt.of_ownZ ho6)
  obtain ⟨A6, c6, hv6⟩ := own_slice ho6
  subst hv6
  clear ho6 hb6 hm5 HB5 HN5
  go_wp2_with fail
  have hb7 := balloc (bref w6) (.cells #[.int .i64 3, .int .i64 5, .int .i64 6] 3)
  have HB7 := Lib.hid (bstep HB6.out hb7)
  have HP7 := Lib.hid (HP6.out.below hb7)
  refine (ints_run _ _ _ _ [3, 5, 6] _ (by simp) (HN6.out.below hb7) (nodes_new w6 [3, 5, 6])).mono ?_
  rintro e w8 ⟨rfl, hb8⟩
  have HB8 := Lib.hid (bstep HB7.out hb8)
  have HP8 := Lib.hid (HP7.out.below hb8)
  clear hb7 hb8 HB7 HP7 HB6 HN6 HP6
  go_wp2_with fail
  have hb9 := balloc (bref w8) (.cells #[.int .i64 7] 3)
  have HB9 := Lib.hid (bstep HB8.out hb9)
  refine (ints_run _ _ _ _ [7] _ (by simp) (HP8.out.below hb9) (nodes_new w8 [7])).mono ?_
  rintro e w9 ⟨rfl, hb10⟩
  have HB10 := Lib.hid (bstep HB9.out hb10)
  clear hb9 hb10
  go_wp2_with fail
  go_ret
  exact ⟨rfl, HB10.out⟩
end Go.Proofs.Ytoaekbhbbejgmaa
