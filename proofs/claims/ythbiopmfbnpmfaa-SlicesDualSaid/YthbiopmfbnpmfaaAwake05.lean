/- The example of layer 5. -/
import Derived.Test.YthbiopmfbnpmfaaSlMath
import Derived.Test.YthbiopmfbnpmfaaB2
namespace Go.Proofs.Ythbiopmfbnpmfaa
set_option linter.unusedVariables false
set_option linter.unusedSimpArgs false
open Go.RowKit

theorem ex_sli : lfold (sliP 2 exT) (ordN 10) = [3, 5, 6, 9, 10] := by decide +kernel

theorem ex_blo : lfold (bloP 2 exT) (ordN 10) = [3, 13, 14] := by decide +kernel

theorem ex_size : sizeT 2 exT ≤ 200 := by decide +kernel

set_option maxRecDepth 100000 in
set_option maxHeartbeats 4000000 in
theorem awake05 (w : World) : Calls Try.prog 12 #[] w fun e w' => e = .returned (.bool true) ∧ Below w.heap.size w w' := by
  go_enter Try.func12, Try.ntmps12
  go_upto_region 2 with fail
  obtain ⟨a0, a1, a2, a3⟩ := alloc4 w (.cells #[.int .i64 0, .int .i64 1] 3) (.cells #[.int .i64 2, .int .i64 3] 3) (.cells #[.int .i64 1, .slice (some ⟨w.heap.size + 1, 0, none⟩) 2 2, .slice none 0 0] 27) (.cells #[.int .i64 2, .slice (some ⟨w.heap.size, 0, none⟩) 2 2, .slice (some ⟨w.heap.size + 1 + 1, 0, none⟩) 1 1] 27)
  have HB1 := Lib.hid (balloc (balloc (balloc (balloc (bref w) (.cells #[.int .i64 0, .int .i64 1] 3)) (.cells #[.int .i64 2, .int .i64 3] 3)) (.cells #[.int .i64 1, .slice (some ⟨w.heap.size + 1, 0, none⟩) 2 2, .slice none 0 0] 27)) (.cells #[.int .i64 2, .slice (some ⟨w.heap.size, 0, none⟩) 2 2, .slice (some ⟨w.heap.size + 1 + 1, 0, none⟩) 1 1] 27))
  have HT := Lib.hid (exT_at a0 a1 a2)
  have HO := Lib.hid (show OutAt _ _ _ _ _ from a3)
  generalize (((w.alloc (.cells #[.int .i64 0, .int .i64 1] 3)).alloc (.cells #[.int .i64 2, .int .i64 3] 3)).alloc (.cells #[.int .i64 1, .slice (some ⟨w.heap.size + 1, 0, none⟩) 2 2, .slice none 0 0] 27)).alloc (.cells #[.int .i64 2, .slice (some ⟨w.heap.size, 0, none⟩) 2 2, .slice (some ⟨w.heap.size + 1 + 1, 0, none⟩) 1 1] 27) = W1 at *
  clear a0 a1 a2 a3
  obtain ⟨c0, c1, c2⟩ := HO.out.cs
  have hol := HO.out.lt
  go_wp2_with fail
  refine (slices_run 10 (by omega) 2 (by omega) _ exT _ _ _ _ HT.out exT_WF ex_size).mono ?_
  rintro e W2 ⟨⟨v2, rfl, hr2⟩, hb2⟩
  rw [ex_sli] at hr2
  have HN2 := Lib.hid (show NodesAt (fun _ => True) W2 v2 [3, 5, 6, 9, 10] from (NodesAt.of_ownZ (l := [3, 5, 6, 9, 10]) hr2).both (w' := W2) (fun _ _ _ => rfl) (fun _ _ _ => trivial))
  obtain ⟨A2, k2, rfl⟩ := own_slice hr2
  have HO2 := Lib.hid (HO.out.keep (hb2.block _ hol))
  have HT2 := Lib.hid (HT.out.below hb2)
  have HB2 := Lib.hid (bstep HB1.out hb2)
  clear hb2 hr2 c0 c1 c2
  obtain ⟨c0, c1, c2⟩ := HO2.out.cs
  go_wp2_with fail
  refine (blocking_run 10 (by omega) 2 (by omega) _ exT _ _ _ _ HT2.out exT_WF ex_size).mono ?_
  rintro e W3 ⟨⟨v3, rfl, hr3⟩, hb3⟩
  rw [ex_blo] at hr3
  have HN3 := Lib.hid (show NodesAt (fun _ => True) W3 v3 [3, 13, 14] from (NodesAt.of_ownZ (l := [3, 13, 14]) hr3).both (w' := W3) (fun _ _ _ => rfl) (fun _ _ _ => trivial))
  obtain ⟨A3, k3, rfl⟩ := own_slice hr3
  have HN23 := Lib.hid (HN2.out.below hb3)
  have HB3 := Lib.hid (bstep HB2.out hb3)
  clear hb3 hr3 c0 c1 c2
  have HL5 := Lib.hid (show ∀ W : World, NodesAt (fun _ => True) (W.alloc (.cells #[.int .i64 3, .int .i64 5, .int .i64 6, .int .i64 9, .int .i64 10] 3)) (.slice (some ⟨W.heap.size, 0, none⟩) 5 5) [3, 5, 6, 9, 10] from fun W =>
    ⟨some ⟨W.heap.size, 0, none⟩, 5, rfl, fun k hk => ⟨W.heap.size, 0, rfl, trivial, by
      match k, hk with
      | 0, _ => exact cell_of_row _ _ 0 _ _ (0, 0) (heap_alloc_new _ _)
      | 1, _ => exact cell_of_row _ _ 1 _ _ (0, 0) (heap_alloc_new _ _)
      | 2, _ => exact cell_of_row _ _ 2 _ _ (0, 0) (heap_alloc_new _ _)
      | 3, _ => exact cell_of_row _ _ 3 _ _ (0, 0) (heap_alloc_new _ _)
      | 4, _ => exact cell_of_row _ _ 4 _ _ (0, 0) (heap_alloc_new _ _)⟩⟩)
  have HL3 := Lib.hid (show ∀ W : World, NodesAt (fun _ => True) (W.alloc (.cells #[.int .i64 3, .int .i64 13, .int .i64 14] 3)) (.slice (some ⟨W.heap.size, 0, none⟩) 3 3) [3, 13, 14] from fun W =>
    ⟨some ⟨W.heap.size, 0, none⟩, 3, rfl, fun k hk => ⟨W.heap.size, 0, rfl, trivial, by
      match k, hk with
      | 0, _ => exact cell_of_row _ _ 0 _ _ (0, 0) (heap_alloc_new _ _)
      | 1, _ => exact cell_of_row _ _ 1 _ _ (0, 0) (heap_alloc_new _ _)
      | 2, _ => exact cell_of_row _ _ 2 _ _ (0, 0) (heap_alloc_new _ _)⟩⟩)
  go_wp2_with fail
  refine (ints_run _ _ _ _ [3, 5, 6, 9, 10] _ (by decide) (HN23.out.below (balloc (bref _) _)) (HL5.out _)).mono ?_
  rintro e W4 ⟨rfl, hb4⟩
  have HB4 := Lib.hid (bstep (balloc HB3.out (.cells #[.int .i64 3, .int .i64 5, .int .i64 6, .int .i64 9, .int .i64 10] 3)) hb4)
  have HN4 := Lib.hid ((HN3.out.below (balloc (bref W3) (.cells #[.int .i64 3, .int .i64 5, .int .i64 6, .int .i64 9, .int .i64 10] 3))).below hb4)
  clear hb4
  go_wp2_with fail
  refine (ints_run _ _ _ _ [3, 13, 14] _ (by decide) (HN4.out.below (balloc (bref _) _)) (HL3.out _)).mono ?_
  rintro e W5 ⟨rfl, hb5⟩
  have HB5 := Lib.hid (bstep (balloc HB4.out (.cells #[.int .i64 3, .int .i64 13, .int .i64 14] 3)) hb5)
  clear hb5
  go_wp2_with fail
  go_ret
  exact ⟨rfl, HB5.out⟩

end Go.Proofs.Ythbiopmfbnpmfaa
