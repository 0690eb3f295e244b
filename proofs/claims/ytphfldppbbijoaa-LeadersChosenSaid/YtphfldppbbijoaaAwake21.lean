/- The example of layer 21; which nodes have a weight. -/
import Derived.Test.YtphfldppbbijoaaWeight2
import Derived.Test.YtphfldppbbijoaaUsesMath
namespace Go.Proofs.Ytphfldppbbijoaa
set_option linter.unusedVariables false
open Go.RowKit

theorem weightT_succ (d : Nat) (thr : Int) (ns : List Int) (is : List Tree) (x : Int) : weightT (d + 1) (.mk thr ns is) x = if x ∈ ns then some (thr, (ns.length : Int) + (is.length : Int)) else (is.findSome? (fun T => weightT d T x)).map fun p => (thr * p.1, ((ns.length : Int) + (is.length : Int)) * p.2) := rfl
theorem weight_uses {n : Int} (hn : n ≤ 10) (x : Int) : ∀ (d : Nat) (T : Tree), WF n d T → (weightT d T x).isSome = hasB ((usesT d T : Nat) : Int) x
  | 0, _, w => w.elim
  | d + 1, .mk thr ns is, w => by
    have hb := usesT_bit hn w
    have hr := w.inR hn
    have hlt := usesT_lt (d + 1) (.mk thr ns is)
    obtain ⟨_, _, _, _, _, _, hi⟩ := w
    have hset : setB ((usesT (d + 1) (.mk thr ns is) : Nat) : Int) = true := setB_iff.2 ⟨by omega, by omega⟩
    have ih : is.any (fun T => (weightT d T x).isSome) = is.any (fun T => hasB ((usesT d T : Nat) : Int) x) := by
      rw [Bool.eq_iff_iff, List.any_eq_true, List.any_eq_true]
      constructor
      · rintro ⟨T, hT, h1⟩; exact ⟨T, hT, by rw [← weight_uses hn x d T (hi T hT)]; exact h1⟩
      · rintro ⟨T, hT, h1⟩; exact ⟨T, hT, by rw [weight_uses hn x d T (hi T hT)]; exact h1⟩
    have hl : (weightT (d + 1) (.mk thr ns is) x).isSome = (decide (x ∈ ns) || is.any (fun T => (weightT d T x).isSome)) := by
      rw [weightT_succ]
      by_cases hx : x ∈ ns
      · rw [if_pos hx, decide_eq_true hx]; rfl
      · rw [if_neg hx, decide_eq_false hx, Option.isSome_map, List.isSome_findSome?, Bool.false_or]
    rw [hl, ih]
    unfold hasB
    by_cases hnode : nodeB x = true
    · obtain ⟨x0, x1⟩ := nodeB_iff.1 hnode
      obtain ⟨K, rfl⟩ := Int.eq_ofNat_of_zero_le x0
      rw [hset, hnode]
      simp only [Int.toNat_natCast, Bool.true_and]
      rw [hb]
      congr 1
      rw [Bool.eq_iff_iff, List.any_eq_true, List.any_eq_true]
      constructor
      · rintro ⟨T, hT, h1⟩
        exact ⟨T, hT, by simp only [Bool.and_eq_true] at h1; exact h1.2⟩
      · rintro ⟨T, hT, h1⟩
        have hs : setB ((usesT d T : Nat) : Int) = true := setB_iff.2 ⟨by omega, by have := usesT_lt d T; omega⟩
        exact ⟨T, hT, by rw [hs]; exact h1⟩
    · have hf : nodeB x = false := by simpa using hnode
      have hnx : x ∉ ns := fun h => by have := hr x h; exact hnode (nodeB_iff.2 this)
      rw [hf, decide_eq_false hnx]
      simp

theorem exT_w0 : weightT 2 exT 0 = some (2, 3) := rfl
theorem exT_w3 : weightT 2 exT 3 = some (2, 6) := rfl
theorem exT_w4 : weightT 2 exT 4 = none := rfl

set_option maxRecDepth 100000 in
set_option maxHeartbeats 4000000 in
theorem awake21 (w : World) : Calls Try.prog 15 #[] w fun e w' => e = .returned (.bool true) ∧ Below w.heap.size w w' := by
  go_enter Try.func15, Try.ntmps15
  go_upto_region 2 with fail
  obtain ⟨a0, a1, a2, a3⟩ := alloc4 w (.cells #[.int .i64 0, .int .i64 1] 3) (.cells #[.int .i64 2, .int .i64 3] 3) (.cells #[.int .i64 1, .slice (some ⟨w.heap.size + 1, 0, none⟩) 2 2, .slice none 0 0] 27) (.cells #[.int .i64 2, .slice (some ⟨w.heap.size, 0, none⟩) 2 2, .slice (some ⟨w.heap.size + 1 + 1, 0, none⟩) 1 1] 27)
  have HB1 := Lib.hid (balloc (balloc (balloc (balloc (bref w) (.cells #[.int .i64 0, .int .i64 1] 3)) (.cells #[.int .i64 2, .int .i64 3] 3)) (.cells #[.int .i64 1, .slice (some ⟨w.heap.size + 1, 0, none⟩) 2 2, .slice none 0 0] 27)) (.cells #[.int .i64 2, .slice (some ⟨w.heap.size, 0, none⟩) 2 2, .slice (some ⟨w.heap.size + 1 + 1, 0, none⟩) 1 1] 27))
  have HT := Lib.hid (exT_at a0 a1 a2)
  have HO := Lib.hid (show OutAt _ _ _ _ _ from a3)
  generalize (((w.alloc (.cells #[.int .i64 0, .int .i64 1] 3)).alloc (.cells #[.int .i64 2, .int .i64 3] 3)).alloc (.cells #[.int .i64 1, .slice (some ⟨w.heap.size + 1, 0, none⟩) 2 2, .slice none 0 0] 27)).alloc (.cells #[.int .i64 2, .slice (some ⟨w.heap.size, 0, none⟩) 2 2, .slice (some ⟨w.heap.size + 1 + 1, 0, none⟩) 1 1] 27) = W1 at *
  clear a0 a1 a2 a3
  obtain ⟨c0, c1, c2⟩ := HO.out.cs
  have HWF := Lib.hid exT_WF
  have HSZ := Lib.hid (show sizeT 2 exT ≤ 200 by decide)
  go_wp2_with fail
  refine (pweight_run 10 (by omega) 2 (by omega) _ exT 0 _ _ _ _ HT.out HWF.out HSZ.out).mono ?_
  rintro e W2 ⟨rfl, hb2⟩
  rw [exT_w0]
  simp only [fracV, Option.isSome_some]
  have HO2 := Lib.hid (HO.out.keep (hb2.block _ HO.out.lt))
  have HT2 := Lib.hid (HT.out.below hb2)
  have HB2 := Lib.hid (bstep HB1.out hb2)
  clear hb2 c0 c1 c2
  go_upto_region 3 with fail
  have HF1 := Lib.hid (show FracAt (W2.alloc (.cells #[.int .i64 2, .int .i64 3] 78)) W2.heap.size 2 3 from alloc_at rfl)
  have HO3 := Lib.hid (HO2.out.keep ((balloc (bref W2) (.cells #[.int .i64 2, .int .i64 3] 78)).block _ HO2.out.lt))
  have HT3 := Lib.hid (HT2.out.below (balloc (bref W2) (.cells #[.int .i64 2, .int .i64 3] 78)))
  have HB3 := Lib.hid (balloc HB2.out (.cells #[.int .i64 2, .int .i64 3] 78))
  generalize W2.alloc (.cells #[.int .i64 2, .int .i64 3] 78) = W3 at *
  generalize W2.heap.size = g1 at *
  clear HO2 HT2 HB2
  obtain ⟨c0, c1, c2⟩ := HO3.out.cs
  go_wp2_with fail
  refine (pweight_run 10 (by omega) 2 (by omega) _ exT 3 _ _ _ _ HT3.out HWF.out HSZ.out).mono ?_
  rintro e W4 ⟨rfl, hb4⟩
  rw [exT_w3]
  simp only [fracV, Option.isSome_some]
  have HF4 := Lib.hid (HF1.out.keep (hb4.block _ HF1.out.lt))
  have HO4 := Lib.hid (HO3.out.keep (hb4.block _ HO3.out.lt))
  have HT4 := Lib.hid (HT3.out.below hb4)
  have HB4 := Lib.hid (bstep HB3.out hb4)
  clear hb4 c0 c1 c2 HF1
  go_upto_region 4 with fail
  have HG5 := Lib.hid (show FracAt (W4.alloc (.cells #[.int .i64 2, .int .i64 6] 78)) W4.heap.size 2 6 from alloc_at rfl)
  have HF5 := Lib.hid (HF4.out.keep ((balloc (bref W4) (.cells #[.int .i64 2, .int .i64 6] 78)).block _ HF4.out.lt))
  have HO5 := Lib.hid (HO4.out.keep ((balloc (bref W4) (.cells #[.int .i64 2, .int .i64 6] 78)).block _ HO4.out.lt))
  have HT5 := Lib.hid (HT4.out.below (balloc (bref W4) (.cells #[.int .i64 2, .int .i64 6] 78)))
  have HB5 := Lib.hid (balloc HB4.out (.cells #[.int .i64 2, .int .i64 6] 78))
  generalize W4.alloc (.cells #[.int .i64 2, .int .i64 6] 78) = W5 at *
  generalize W4.heap.size = g2 at *
  clear HO4 HT4 HB4 HF4
  obtain ⟨c0, c1, c2⟩ := HO5.out.cs
  go_wp2_with fail
  refine (pweight_run 10 (by omega) 2 (by omega) _ exT 4 _ _ _ _ HT5.out HWF.out HSZ.out).mono ?_
  rintro e W6 ⟨rfl, hb6⟩
  rw [exT_w4]
  simp only [fracV, Option.isSome_none]
  have HG6 := Lib.hid (HG5.out.keep (hb6.block _ HG5.out.lt))
  have HF6 := Lib.hid (HF5.out.keep (hb6.block _ HF5.out.lt))
  have HB6 := Lib.hid (bstep HB5.out hb6)
  clear hb6 c0 c1 c2
  go_upto_region 5 with fail
  have HG7 := HG6.out.keep ((balloc (bref W6) (.cells #[.int .i64 0, .int .i64 0] 78)).block _ HG6.out.lt)
  have HF7 := HF6.out.keep ((balloc (bref W6) (.cells #[.int .i64 0, .int .i64 0] 78)).block _ HF6.out.lt)
  have HB7 := Lib.hid (balloc HB6.out (.cells #[.int .i64 0, .int .i64 0] 78))
  generalize W6.alloc (.cells #[.int .i64 0, .int .i64 0] 78) = W7 at *
  generalize W6.heap.size = g3 at *
  obtain ⟨c0, c1⟩ := HG7.cs
  obtain ⟨d0, d1⟩ := HF7.cs
  go_wp2_with fail
  go_ret
  exact ⟨rfl, HB7.out⟩
end Go.Proofs.Ytphfldppbbijoaa
