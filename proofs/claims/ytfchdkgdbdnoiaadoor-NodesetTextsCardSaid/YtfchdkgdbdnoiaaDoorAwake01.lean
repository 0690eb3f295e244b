/- The example of layer 1. -/
import Derived.Test.YtfchdkgdbdnoiaaDoorMeet
import Derived.Test.YtfchdkgdbdnoiaaDoorText01
import Derived.Test.YtfchdkgdbdnoiaaDoorInts
namespace Go.Proofs.YtfchdkgdbdnoiaaDoor
set_option linter.unusedVariables false
set_option linter.unusedSimpArgs false
open Go.RowKit

theorem nodesNew (W : World) (ns : List Int) : NodesAt (fun b => W.heap.size ≤ b) (W.alloc (.cells (ns.map (Value.int .i64)).toArray 3)) (.slice (some ⟨W.heap.size, 0, none⟩) ns.length ns.length) ns :=
  ⟨some ⟨W.heap.size, 0, none⟩, ns.length, rfl, fun k hk => ⟨W.heap.size, 0, rfl, Nat.le_refl _, by
    rw [cell_of_row _ _ (0 + k) _ _ (0, 0) (heap_alloc_new _ _), Nat.zero_add, List.getElem?_toArray, List.getElem?_map, List.getD_eq_getElem?_getD, List.getElem?_eq_getElem hk]; rfl⟩⟩

theorem meetB_lt {n : Nat} (hn : n ≤ 10) {ls : List Nat} {t : Nat} (h : meetB n ls t = true) : t < 1024 := by
  unfold meetB at h
  rw [Bool.and_eq_true, decide_eq_true_iff] at h
  have h10 : 2 ^ n ≤ 2 ^ 10 := Nat.pow_le_pow_right (by omega) hn
  omega

theorem meet36 {m : List Nat} (h : IsLeast (meetB 3 [3, 6]) m) : m = [2, 5] := by
  refine asc_ext h.1 (show Asc [2, 5] by unfold Asc; decide +kernel) (fun t => ?_)
  rw [h.2.1 t]
  have all : ∀ t : Fin 8, (t.val ∈ [2, 5] ↔ (meetB 3 [3, 6] t.val = true ∧ ∀ y : Fin 8, meetB 3 [3, 6] y.val = true → subB y.val t.val = true → y.val = t.val)) := by decide +kernel
  constructor
  · rintro ⟨h1, h2, h3⟩
    have ht : t < 8 := by
      unfold meetB at h2
      rw [Bool.and_eq_true, decide_eq_true_iff] at h2
      exact h2.1
    exact (all ⟨t, ht⟩).2 ⟨h2, fun y hy hs => h3 y.val hy hs⟩
  · intro h1
    have ht : t < 8 := by
      simp at h1; omega
    obtain ⟨h2, h3⟩ := (all ⟨t, ht⟩).1 h1
    refine ⟨by omega, h2, fun y hy hs => ?_⟩
    have hy8 : y < 8 := by have := subB_le hs; omega
    exact h3 ⟨y, hy8⟩ hy hs

theorem next37 : nextR 6 37 = .returned (.tuple #[.int .i64 38, .bool true]) := by
  have h : nextN 6 37 = 38 := by decide +kernel
  unfold nextR
  rw [h]
  rfl

theorem text37 : textN 37 = [123, 48, 32, 50, 32, 53, 125] := by decide +kernel

set_option maxRecDepth 100000 in
set_option maxHeartbeats 4000000 in
theorem awake01 (w : World) : Calls Tryd.prog 8 #[] w fun e w' => e = .returned (.bool true) ∧ Below w.heap.size w w' := by
  have HNX := Lib.hid (fun W => pnext_run 37 6 (by omega) (by omega) W)
  rw [next37] at HNX
  have HTX := Lib.hid (fun W => ptext_run 37 W (by omega))
  rw [text37] at HTX
  have HM := Lib.hid (fun m h => meet36 (m := m) h)
  go_enter Tryd.func8, Tryd.ntmps8
  go_wp2_with fail
  refine (HNX.out _).mono ?_
  rintro e w1 ⟨rfl, rfl⟩
  go_wp2_with fail
  refine (pmeeting_run _ _ [3, 6] 3 (by omega) (by simp) (by simp) _ (nodesNew _ [3, 6])).mono ?_
  rintro e w2 ⟨v2, m, rfl, ho2, hm2, hb2⟩
  obtain rfl := HM.out m hm2
  have hb2' : Below w.heap.size w w2 := bstep (balloc (bref w) _) hb2
  have hN2 : NodesAt (fun b => (w.alloc (Obj.cells (List.map (Value.int IntKind.i64) [3, 6]).toArray 3)).heap.size ≤ b) w2 v2 [2, 5] := NodesAt.of_ownZ (l := [2, 5]) ho2
  clear hb2 hm2 ho2
  go_wp2_with fail
  refine (HTX.out _).mono ?_
  rintro e w3 ⟨rfl, hb3⟩
  have hb3' : Below w.heap.size w w3 := bstep hb2' hb3
  have hN3 := (hN2.below hb3).below (balloc (bref w3) (.cells (([2, 5] : List Int).map (Value.int .i64)).toArray 3))
  clear hN2
  go_wp2_with fail
  refine (ints_run _ _ _ _ [2, 5] _ (by simp) hN3 (nodesNew _ [2, 5])).mono ?_
  rintro e w4 ⟨rfl, hb4⟩
  have hb4' : Below w.heap.size w w4 := bstep (balloc hb3' _) hb4
  go_wp2_with fail
  go_ret
  exact ⟨rfl, hb4'⟩

end Go.Proofs.YtfchdkgdbdnoiaaDoor
