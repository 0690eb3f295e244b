/- The example of layer 37. -/
import Derived.Test.YtfmdnhhdjjndbaaT37n
import Derived.Test.YtfmdnhhdjjndbaaHeldF
namespace Go.Proofs.Ytfmdnhhdjjndbaa
set_option linter.unusedVariables false
set_option linter.unusedSimpArgs false
open Go.RowKit

section
variable {P : Program} {ops : Array Oper} {Q : Exit → Act → World → Prop} {md : Region.Mode} {S : World → Prop} {F : List Nat}
/-- Two operations may come up. -/
theorem two_f {i j : Nat} {oi oj : Oper} {fuel : Nat} {listed : Array Bool} {a : Act} {w : World} (hr : Region.ready md ops listed = [i, j]) (hoi : ops[i]? = some oi) (hoj : ops[j]? = some oj)
    (h1 : ∀ K' : Act → World → Prop, Shut (∀ a w', (F.contains i = true ∨ (S w → S w')) → wpAnyF P md ops Q S F fuel (listed.setIfInBounds i true) a w' → K' a w') → if Region.wanted oi (yielded ops a.tmps) = true then Oper.wp P oi a w K' Q else K' (a.put oi.dst undef) w)
    (h2 : ∀ K' : Act → World → Prop, Shut (∀ a w', (F.contains j = true ∨ (S w → S w')) → wpAnyF P md ops Q S F fuel (listed.setIfInBounds j true) a w' → K' a w') → if Region.wanted oj (yielded ops a.tmps) = true then Oper.wp P oj a w K' Q else K' (a.put oj.dst undef) w) :
    wpAnyF P md ops Q S F (fuel + 1) listed a w := by
  refine ⟨fun h0 => (by rw [hr] at h0; cases h0), fun k hk => ?_⟩
  rw [hr] at hk
  simp only [List.mem_cons, List.not_mem_nil, or_false] at hk
  rcases hk with rfl | rfl
  · exact wpOp_step hoi (fun K' hK => h1 K' (fun a w hS hW => hK a w ⟨hS, hW⟩))
  · exact wpOp_step hoj (fun K' hK => h2 K' (fun a w hS hW => hK a w ⟨hS, hW⟩))
end

theorem heap7 {q j : Nat} {W : World} (u0 u1 u2 u3 u4 u5 u6 : Value) (hj : j ≠ q) : ((((((((W.setCell ⟨q, 0, none⟩ u0).setCell ⟨q, 1, none⟩ u1).setCell ⟨q, 2, none⟩ u2).setCell ⟨q, 3, none⟩ u3).setCell ⟨q, 4, none⟩ u4).setCell ⟨q, 5, none⟩ u5).setCell ⟨q, 6, none⟩ u6)).heap[j]? = W.heap[j]? :=
  (Below.heap_setCell _ _ _ j hj).trans ((Below.heap_setCell _ _ _ j hj).trans ((Below.heap_setCell _ _ _ j hj).trans ((Below.heap_setCell _ _ _ j hj).trans ((Below.heap_setCell _ _ _ j hj).trans ((Below.heap_setCell _ _ _ j hj).trans (Below.heap_setCell _ _ _ j hj))))))
theorem led7 {q : Nat} {W : World} {P : Nat → Prop} {va vl vo : Value} {g : Led} (u0 u1 u2 u3 u4 u5 u6 : Value) (h : LedAt P W va vl vo g) (hq : ∀ b, P b → b ≠ q) : LedAt P ((((((((W.setCell ⟨q, 0, none⟩ u0).setCell ⟨q, 1, none⟩ u1).setCell ⟨q, 2, none⟩ u2).setCell ⟨q, 3, none⟩ u3).setCell ⟨q, 4, none⟩ u4).setCell ⟨q, 5, none⟩ u5).setCell ⟨q, 6, none⟩ u6)) va vl vo g :=
  h.both (by simp [World.setCell]) (fun j _ hp => heap7 u0 u1 u2 u3 u4 u5 u6 (hq j hp)) (fun _ _ h => h)
theorem bel7 {q : Nat} {w W : World} (u0 u1 u2 u3 u4 u5 u6 : Value) (h : Below w.heap.size w W) (hq : w.heap.size ≤ q) : Below w.heap.size w ((((((((W.setCell ⟨q, 0, none⟩ u0).setCell ⟨q, 1, none⟩ u1).setCell ⟨q, 2, none⟩ u2).setCell ⟨q, 3, none⟩ u3).setCell ⟨q, 4, none⟩ u4).setCell ⟨q, 5, none⟩ u5).setCell ⟨q, 6, none⟩ u6)) :=
  bset (bset (bset (bset (bset (bset (bset h hq u0) hq u1) hq u2) hq u3) hq u4) hq u5) hq u6

def g37 : Led := ⟨0, [⟨1, 0, 0⟩, ⟨2, 0, 0⟩], [⟨2, 1, 0, 4⟩], [], 0, 0, 0⟩
def x37 : Led := ⟨0, [⟨1, 0, 0⟩, ⟨2, 0, 0⟩], [⟨2, 1, 4, 4⟩], [], 0, 0, 0⟩
theorem accs12 : AccsOk [⟨1, 0, 0⟩, ⟨2, 0, 0⟩] := by
  refine ⟨by simp, fun k a ha => ?_, fun k a b ha hb => ?_⟩
  · match k, ha with
    | 0, ha => cases ha; exact ⟨by decide, by decide, by decide, by decide, by decide, by decide⟩
    | 1, ha => cases ha; exact ⟨by decide, by decide, by decide, by decide, by decide, by decide⟩
  · match k, ha, hb with
    | 0, ha, hb => cases ha; cases hb; decide
theorem lin21 (b : Int) (h0 : 0 ≤ b) (h1 : b ≤ 4) : LinesOk [⟨1, 0, 0⟩, ⟨2, 0, 0⟩] [⟨2, 1, b, 4⟩] := by
  refine ⟨by simp, fun k a ha => ?_, fun k a b ha hb => ?_⟩
  · match k, ha with
    | 0, ha => cases ha; exact ⟨by show hasA 2 [⟨1, 0, 0⟩, ⟨2, 0, 0⟩] = true; decide, by show 1 ≤ 1; omega, by show 1 ≤ 2; omega, by show (1 : Int) ≠ 2; omega, by show (0 : Int) ≤ 4; omega, by show (4 : Int) ≤ 1000000000000; omega, h0, h1⟩
  · match k, hb with
    | 0, hb => simp at hb
theorem g37_w : LedW g37 := ⟨accs12, lin21 0 (by omega) (by omega), by show ([] : List Off).length ≤ 40; simp⟩
theorem x37_w : LedW x37 := ⟨accs12, lin21 4 (by omega) (by omega), by show ([] : List Off).length ≤ 40; simp⟩
theorem e37a : chgE (giveE 5) (crE 5) g37 2 1 = 70 := by decide
theorem e37b : chgE (giveE 4) (crE 4) g37 2 1 = 0 := by decide
theorem g37a : chgG (giveE 5) (giveU 5) (crE 5) (crU 5) g37 2 1 = zeroG := by unfold chgG; rw [e37a]; rfl
theorem g37b : chgG (giveE 4) (giveU 4) (crE 4) (crU 4) g37 2 1 = x37 := by unfold chgG; rw [e37b]; rfl

theorem acc2 (w : World) : AccAt (fun b => b = w.heap.size) (w.alloc (.cells #[.int .i64 1, .int .i64 0, .int .i64 0, .int .i64 2, .int .i64 0, .int .i64 0] 34)) (.slice (some ⟨w.heap.size, 0, none⟩) 2 2) [⟨1, 0, 0⟩, ⟨2, 0, 0⟩] := by
  refine ⟨_, _, rfl, by simp, by unfold maxLen; omega, fun k a ha => ⟨w.heap.size, 0, rfl, rfl, by simp, fun j u hu => ?_⟩⟩
  rw [show 0 + k * 3 + j = k * 3 + j by omega, row_new w _ _ _]
  match k, ha with
  | 0, ha =>
    cases ha
    match j, hu with
    | 0, hu | 1, hu | 2, hu => cases hu; rfl
  | 1, ha =>
    cases ha
    match j, hu with
    | 0, hu | 1, hu | 2, hu => cases hu; rfl
theorem lin1 (w : World) : LinAt (fun b => b = w.heap.size) (w.alloc (.cells #[.int .i64 2, .string (codeOf 1), .int .i64 (issOf 1), .int .i64 0, .int .i64 4] 51)) (.slice (some ⟨w.heap.size, 0, none⟩) 1 1) [⟨2, 1, 0, 4⟩] := by
  refine ⟨_, _, rfl, by simp, by unfold maxLen; omega, fun k a ha => ⟨w.heap.size, 0, rfl, rfl, by simp, fun j u hu => ?_⟩⟩
  rw [show 0 + k * 5 + j = k * 5 + j by omega, row_new w _ _ _]
  match k, ha with
  | 0, ha =>
    cases ha
    match j, hu with
    | 0, hu | 1, hu | 2, hu | 3, hu | 4, hu => cases hu; rfl

set_option maxRecDepth 100000 in
set_option maxHeartbeats 8000000 in
theorem sane37 (w : World) : Calls Try.prog 25 #[] w fun e w' => e = .returned (.bool true) ∧ Below w.heap.size w w' := by
  have HA0 := Lib.hid (acc2 w)
  have HB0 := Lib.hid (balloc (bref w) (.cells #[.int .i64 1, .int .i64 0, .int .i64 0, .int .i64 2, .int .i64 0, .int .i64 0] 34))
  have HZ0 := Lib.hid (alloc_szS w (.cells #[.int .i64 1, .int .i64 0, .int .i64 0, .int .i64 2, .int .i64 0, .int .i64 0] 34))
  go_enter Try.func25, Try.ntmps25
  go_wp2_with fail
  refine (Usd_run _).mono ?_
  rintro e w1 ⟨rfl, hb1⟩
  have hab : w.heap.size < w1.heap.size := by
    have := hb1.size
    rw [HZ0.out] at this
    omega
  have hbb := balloc (balloc (bref w1) (.cells #[.int .i64 2, .string (codeOf 1), .int .i64 (issOf 1), .int .i64 0, .int .i64 4] 51)) (.cells #[.int .i64 0, .slice (some ⟨w.heap.size, 0, none⟩) 2 2, .slice (some ⟨w1.heap.size, 0, none⟩) 1 1, .slice none 0 0, .int .i64 0, .int .i64 0, .int .u64 0] 30)
  have HA2 := Lib.hid ((HA0.out.below hb1).below hbb)
  have HL2 := Lib.hid ((lin1 w1).below (balloc (bref _) (.cells #[.int .i64 0, .slice (some ⟨w.heap.size, 0, none⟩) 2 2, .slice (some ⟨w1.heap.size, 0, none⟩) 1 1, .slice none 0 0, .int .i64 0, .int .i64 0, .int .u64 0] 30)))
  have HB2 := Lib.hid (bstep (bstep HB0.out hb1) hbb)
  have hgg := heap_alloc_new (w1.alloc (.cells #[.int .i64 2, .string (codeOf 1), .int .i64 (issOf 1), .int .i64 0, .int .i64 4] 51)) (.cells #[.int .i64 0, .slice (some ⟨w.heap.size, 0, none⟩) 2 2, .slice (some ⟨w1.heap.size, 0, none⟩) 1 1, .slice none 0 0, .int .i64 0, .int .i64 0, .int .u64 0] 30)
  rw [alloc_szS] at hgg
  have HG2 := Lib.hid (show HasB (w1.heap.size + 1) (.cells #[.int .i64 0, .slice (some ⟨w.heap.size, 0, none⟩) 2 2, .slice (some ⟨w1.heap.size, 0, none⟩) 1 1, .slice none 0 0, .int .i64 0, .int .i64 0, .int .u64 0] 30 (0, 0)) _ from hgg)
  clear hb1 hbb hgg HA0 HB0 HZ0
  go_upto_region 2 with fail
  generalize (w1.alloc (.cells #[.int .i64 2, .string (codeOf 1), .int .i64 (issOf 1), .int .i64 0, .int .i64 4] 51)).alloc (.cells #[.int .i64 0, .slice (some ⟨w.heap.size, 0, none⟩) 2 2, .slice (some ⟨w1.heap.size, 0, none⟩) 1 1, .slice none 0 0, .int .i64 0, .int .i64 0, .int .u64 0] 30) = W2 at *
  have HE2 := Lib.hid (show LedAt (fun b => b < w1.heap.size + 1) W2 _ _ _ g37 from ⟨HA2.out.imp (fun b _ hp => by have h2 : b = w.heap.size := hp; omega), HL2.out.imp (fun b _ hp => by have h2 : b = w1.heap.size := hp; omega), RowAt.nil⟩)
  generalize w1.heap.size = lb at *
  clear HA2 HL2
  have HC := Lib.hid (show ∀ W, LedAt (fun b => b < lb + 1) W (.slice (some ⟨w.heap.size, 0, none⟩) 2 2) (.slice (some ⟨lb, 0, none⟩) 1 1) (.slice none 0 0) g37 → Calls Try.prog 30 #[.agg #[.int .i64 0, .slice (some ⟨w.heap.size, 0, none⟩) 2 2, .slice (some ⟨lb, 0, none⟩) 1 1, .slice none 0 0, .int .i64 0, .int .i64 0, .int .u64 0], .int .i64 2, .agg #[.string (codeOf 1), .int .i64 (issOf 1)], .int .i64 5] W fun e w' => ∃ va' vl' vo', e = .returned (.tuple #[.agg #[.int .i64 0, va', vl', vo', .int .i64 0, .int .i64 0, .int .u64 0], .int .i64 70]) ∧ LedAt (fun b => W.heap.size ≤ b) w' va' vl' vo' zeroG ∧ Below W.heap.size W w' from fun W hW => by
    have h1 := credit_run _ g37 2 5 1 _ _ _ W (by omega) (by omega) (by omega) g37_w (by decide) hW
    rw [e37a, g37a] at h1
    exact h1)
  go_cut [2, 3] (fun p e W => ∃ q A9 B9 C9, p = .pointer (some ⟨q, 0, none⟩) ∧ e = .int .i64 70 ∧ Hid (HasB q (.cells #[.int .i64 0, A9, B9, C9, .int .i64 0, .int .i64 0, .int .u64 0] 30 (0, 0)) W) ∧ Hid (LedAt (fun b => b ≠ q) W A9 B9 C9 zeroG) ∧ Hid (HasB (lb + 1) (.cells #[.int .i64 0, .slice (some ⟨w.heap.size, 0, none⟩) 2 2, .slice (some ⟨lb, 0, none⟩) 1 1, .slice none 0 0, .int .i64 0, .int .i64 0, .int .u64 0] 30 (0, 0)) W) ∧ Hid (LedAt (fun b => b < lb + 1) W (.slice (some ⟨w.heap.size, 0, none⟩) 2 2) (.slice (some ⟨lb, 0, none⟩) 1 1) (.slice none 0 0) g37) ∧ Hid (Below w.heap.size w W))
  case first =>
    refine region_f (fun W => Cs [(⟨lb + 1, 0, none⟩, .int .i64 0), (⟨lb + 1, 1, none⟩, .slice (some ⟨w.heap.size, 0, none⟩) 2 2), (⟨lb + 1, 2, none⟩, .slice (some ⟨lb, 0, none⟩) 1 1), (⟨lb + 1, 3, none⟩, .slice none 0 0), (⟨lb + 1, 4, none⟩, .int .i64 0), (⟨lb + 1, 5, none⟩, .int .i64 0), (⟨lb + 1, 6, none⟩, .int .u64 0)] W ∧ HasB (lb + 1) (.cells #[.int .i64 0, .slice (some ⟨w.heap.size, 0, none⟩) 2 2, .slice (some ⟨lb, 0, none⟩) 1 1, .slice none 0 0, .int .i64 0, .int .i64 0, .int .u64 0] 30 (0, 0)) W ∧ LedAt (fun b => b < lb + 1) W (.slice (some ⟨w.heap.size, 0, none⟩) 2 2) (.slice (some ⟨lb, 0, none⟩) 1 1) (.slice none 0 0) g37 ∧ Below w.heap.size w W) [7] (by kernel_rfl) ?_
    have hSK : Cs [(⟨lb + 1, 0, none⟩, .int .i64 0), (⟨lb + 1, 1, none⟩, .slice (some ⟨w.heap.size, 0, none⟩) 2 2), (⟨lb + 1, 2, none⟩, .slice (some ⟨lb, 0, none⟩) 1 1), (⟨lb + 1, 3, none⟩, .slice none 0 0), (⟨lb + 1, 4, none⟩, .int .i64 0), (⟨lb + 1, 5, none⟩, .int .i64 0), (⟨lb + 1, 6, none⟩, .int .u64 0)] W2.drew ∧ HasB (lb + 1) (.cells #[.int .i64 0, .slice (some ⟨w.heap.size, 0, none⟩) 2 2, .slice (some ⟨lb, 0, none⟩) 1 1, .slice none 0 0, .int .i64 0, .int .i64 0, .int .u64 0] 30 (0, 0)) W2.drew ∧ LedAt (fun b => b < lb + 1) (W2.drew) (.slice (some ⟨w.heap.size, 0, none⟩) 2 2) (.slice (some ⟨lb, 0, none⟩) 1 1) (.slice none 0 0) g37 ∧ Below w.heap.size w W2.drew := ⟨HG2.out.cs7.drew, HG2.out.below (bdrew (bref _)), HE2.out.below (bdrew (bref _)), bdrew HB2.out⟩
    clear HG2 HE2 HB2
    refine take_f (some 14) [2, 3, 4, 5, 7, 8] (i := 0) (v := ?_) rfl rfl (by kernel_rfl) (by kernel_rfl) (by kernel_rfl) (by kernel_rfl) (fun _ _ _ h => h) (Or.inl ⟨by rfl, ?_⟩) (by assumption) ?_
    rotate_left
    · intro w hSw; (dsimp only [Cs] at hSw); go_simp; (try with_reducible rfl)
    try simp only [Act.put, List.setIfInBounds_toArray, List.set_cons_zero, List.set_cons_succ]
    refine two_f (i := 1) (j := 6) (by kernel_rfl) rfl rfl (fun K hK => ?_) (fun K hK => ?_)
    · skip
      go_simp
      refine (Usd_run _).mono ?_
      rintro e wK ⟨rfl, hbK⟩
      go_wp2_with fail
      replace hSK := (show Cs [(⟨lb + 1, 0, none⟩, .int .i64 0), (⟨lb + 1, 1, none⟩, .slice (some ⟨w.heap.size, 0, none⟩) 2 2), (⟨lb + 1, 2, none⟩, .slice (some ⟨lb, 0, none⟩) 1 1), (⟨lb + 1, 3, none⟩, .slice none 0 0), (⟨lb + 1, 4, none⟩, .int .i64 0), (⟨lb + 1, 5, none⟩, .int .i64 0), (⟨lb + 1, 6, none⟩, .int .u64 0)] wK ∧ HasB (lb + 1) (.cells #[.int .i64 0, .slice (some ⟨w.heap.size, 0, none⟩) 2 2, .slice (some ⟨lb, 0, none⟩) 1 1, .slice none 0 0, .int .i64 0, .int .i64 0, .int .u64 0] 30 (0, 0)) wK ∧ LedAt (fun b => b < lb + 1) (wK) (.slice (some ⟨w.heap.size, 0, none⟩) 2 2) (.slice (some ⟨lb, 0, none⟩) 1 1) (.slice none 0 0) g37 ∧ Below w.heap.size w wK from ⟨Cs.below hSK.1 hbK, hSK.2.1.below hbK, hSK.2.2.1.below hbK, bstep hSK.2.2.2 hbK⟩)
      refine hK.out _ _ (Or.inr (fun _ => hSK)) ?_
      clear hK K hbK
      try simp only [Act.put, List.setIfInBounds_toArray, List.set_cons_zero, List.set_cons_succ]
      refine two_f (i := 2) (j := 6) (by kernel_rfl) rfl rfl (fun K hK => ?_) (fun K hK => ?_)
      · skip
        go_simp
        refine (HC.out _ hSK.2.2.1).mono ?_
        rintro e wK ⟨va9, vl9, vo9, rfl, hl9, hbK⟩
        obtain ⟨A9, c9, B9, d9, C9, e9, rfl, rfl, rfl, _⟩ := hl9.form
        go_wp2_with fail
        replace hSK := (show Cs [(⟨lb + 1, 0, none⟩, .int .i64 0), (⟨lb + 1, 1, none⟩, .slice (some ⟨w.heap.size, 0, none⟩) 2 2), (⟨lb + 1, 2, none⟩, .slice (some ⟨lb, 0, none⟩) 1 1), (⟨lb + 1, 3, none⟩, .slice none 0 0), (⟨lb + 1, 4, none⟩, .int .i64 0), (⟨lb + 1, 5, none⟩, .int .i64 0), (⟨lb + 1, 6, none⟩, .int .u64 0)] wK ∧ HasB (lb + 1) (.cells #[.int .i64 0, .slice (some ⟨w.heap.size, 0, none⟩) 2 2, .slice (some ⟨lb, 0, none⟩) 1 1, .slice none 0 0, .int .i64 0, .int .i64 0, .int .u64 0] 30 (0, 0)) wK ∧ LedAt (fun b => b < lb + 1) (wK) (.slice (some ⟨w.heap.size, 0, none⟩) 2 2) (.slice (some ⟨lb, 0, none⟩) 1 1) (.slice none 0 0) g37 ∧ Below w.heap.size w wK from ⟨Cs.below hSK.1 hbK, hSK.2.1.below hbK, hSK.2.2.1.below hbK, bstep hSK.2.2.2 hbK⟩)
        have HX := Lib.hid hl9
        refine hK.out _ _ (Or.inr (fun _ => hSK)) ?_
        clear hK K hbK hl9
        try simp only [Act.put, List.setIfInBounds_toArray, List.set_cons_zero, List.set_cons_succ]
        refine take_y (some 13) (i := 3) (v := ?_) rfl rfl (by kernel_rfl) (by kernel_rfl) (by kernel_rfl) (fun _ _ _ h => h) (Or.inl ⟨by rfl, ?_⟩) ?_
        rotate_left
        · intro w _; go_simp; (try with_reducible rfl)
        try simp only [Act.put, List.setIfInBounds_toArray, List.set_cons_zero, List.set_cons_succ]
        refine take_y (some 17) (i := 4) (v := ?_) rfl rfl (by kernel_rfl) (by kernel_rfl) (by kernel_rfl) (fun _ _ _ h => h) (Or.inl ⟨by rfl, ?_⟩) ?_
        rotate_left
        · intro w _; go_simp; (try with_reducible rfl)
        try simp only [Act.put, List.setIfInBounds_toArray, List.set_cons_zero, List.set_cons_succ]
        refine take_y (some 18) (i := 5) (v := ?_) rfl rfl (by kernel_rfl) (by kernel_rfl) (by kernel_rfl) (fun _ _ _ h => h) (Or.inl ⟨by rfl, ?_⟩) ?_
        rotate_left
        · intro w _; go_simp; (try with_reducible rfl)
        try simp only [Act.put, List.setIfInBounds_toArray, List.set_cons_zero, List.set_cons_succ]
        refine one_f (i := 6) (by kernel_rfl) rfl (fun K hK => ?_)
        go_simp
        have hgq : lb + 1 < wK.heap.size := hSK.2.1.lt
        have HX2 := Lib.hid ((HX.out.both (Q := fun b => b ≠ wK.heap.size) (Nat.le_refl _) (fun _ _ _ => rfl) (fun b hb _ => Nat.ne_of_lt hb)).alloc (.cells #[.int .i64 0, .slice none 0 0, .slice none 0 0, .slice none 0 0, .int .i64 0, .int .i64 0, .int .u64 0] 30))
        clear HX
        have HX := HX2
        clear HX2
        replace hSK := (show Cs [(⟨lb + 1, 0, none⟩, .int .i64 0), (⟨lb + 1, 1, none⟩, .slice (some ⟨w.heap.size, 0, none⟩) 2 2), (⟨lb + 1, 2, none⟩, .slice (some ⟨lb, 0, none⟩) 1 1), (⟨lb + 1, 3, none⟩, .slice none 0 0), (⟨lb + 1, 4, none⟩, .int .i64 0), (⟨lb + 1, 5, none⟩, .int .i64 0), (⟨lb + 1, 6, none⟩, .int .u64 0)] (wK.alloc (.cells #[.int .i64 0, .slice none 0 0, .slice none 0 0, .slice none 0 0, .int .i64 0, .int .i64 0, .int .u64 0] 30)) ∧ HasB (lb + 1) (.cells #[.int .i64 0, .slice (some ⟨w.heap.size, 0, none⟩) 2 2, .slice (some ⟨lb, 0, none⟩) 1 1, .slice none 0 0, .int .i64 0, .int .i64 0, .int .u64 0] 30 (0, 0)) (wK.alloc (.cells #[.int .i64 0, .slice none 0 0, .slice none 0 0, .slice none 0 0, .int .i64 0, .int .i64 0, .int .u64 0] 30)) ∧ LedAt (fun b => b < lb + 1) ((wK.alloc (.cells #[.int .i64 0, .slice none 0 0, .slice none 0 0, .slice none 0 0, .int .i64 0, .int .i64 0, .int .u64 0] 30))) (.slice (some ⟨w.heap.size, 0, none⟩) 2 2) (.slice (some ⟨lb, 0, none⟩) 1 1) (.slice none 0 0) g37 ∧ Below w.heap.size w (wK.alloc (.cells #[.int .i64 0, .slice none 0 0, .slice none 0 0, .slice none 0 0, .int .i64 0, .int .i64 0, .int .u64 0] 30)) from ⟨Cs.below hSK.1 (balloc (bref _) (.cells #[.int .i64 0, .slice none 0 0, .slice none 0 0, .slice none 0 0, .int .i64 0, .int .i64 0, .int .u64 0] 30)), hSK.2.1.below (balloc (bref _) (.cells #[.int .i64 0, .slice none 0 0, .slice none 0 0, .slice none 0 0, .int .i64 0, .int .i64 0, .int .u64 0] 30)), hSK.2.2.1.below (balloc (bref _) (.cells #[.int .i64 0, .slice none 0 0, .slice none 0 0, .slice none 0 0, .int .i64 0, .int .i64 0, .int .u64 0] 30)), bstep hSK.2.2.2 (balloc (bref _) (.cells #[.int .i64 0, .slice none 0 0, .slice none 0 0, .slice none 0 0, .int .i64 0, .int .i64 0, .int .u64 0] 30))⟩)
        have HQ := Lib.hid (show HasB wK.heap.size (.cells #[.int .i64 0, .slice none 0 0, .slice none 0 0, .slice none 0 0, .int .i64 0, .int .i64 0, .int .u64 0] 30 (0, 0)) (wK.alloc (.cells #[.int .i64 0, .slice none 0 0, .slice none 0 0, .slice none 0 0, .int .i64 0, .int .i64 0, .int .u64 0] 30)) from heap_alloc_new _ _)
        have hqs : wK.heap.size < (wK.alloc (.cells #[.int .i64 0, .slice none 0 0, .slice none 0 0, .slice none 0 0, .int .i64 0, .int .i64 0, .int .u64 0] 30)).heap.size := HQ.out.lt
        refine hK.out _ _ (Or.inr (fun _ => hSK)) ?_
        clear hK K
        try simp only [Act.put, List.setIfInBounds_toArray, List.set_cons_zero, List.set_cons_succ]
        obtain ⟨q, hqq⟩ : ∃ q, wK.heap.size = q := ⟨_, rfl⟩
        rw [hqq] at HQ hqs hgq ⊢ HX
        generalize (wK.alloc (.cells #[.int .i64 0, .slice none 0 0, .slice none 0 0, .slice none 0 0, .int .i64 0, .int .i64 0, .int .u64 0] 30)) = W9 at *
        clear hqq
        have HG9 := Lib.hid (show HasB q (.cells #[.int .i64 0, .slice A9 (zeroG).accs.length c9, .slice B9 (zeroG).lines.length d9, .slice C9 (zeroG).offers.length e9, .int .i64 0, .int .i64 0, .int .u64 0] 30 (0, 0)) ((((((((W9).setCell ⟨q, 0, none⟩ (.int .i64 0)).setCell ⟨q, 1, none⟩ (.slice A9 (zeroG).accs.length c9)).setCell ⟨q, 2, none⟩ (.slice B9 (zeroG).lines.length d9)).setCell ⟨q, 3, none⟩ (.slice C9 (zeroG).offers.length e9)).setCell ⟨q, 4, none⟩ (.int .i64 0)).setCell ⟨q, 5, none⟩ (.int .i64 0)).setCell ⟨q, 6, none⟩ (.int .u64 0)) from set7 HQ.out)
        have HX9 := Lib.hid (led7 (q := q) (.int .i64 0) (.slice A9 (zeroG).accs.length c9) (.slice B9 (zeroG).lines.length d9) (.slice C9 (zeroG).offers.length e9) (.int .i64 0) (.int .i64 0) (.int .u64 0) HX.out (fun b h => h))
        have HL9 := Lib.hid (led7 (q := q) (.int .i64 0) (.slice A9 (zeroG).accs.length c9) (.slice B9 (zeroG).lines.length d9) (.slice C9 (zeroG).offers.length e9) (.int .i64 0) (.int .i64 0) (.int .u64 0) hSK.2.2.1 (fun b h => Nat.ne_of_lt (Nat.lt_trans h hgq)))
        have HB9 := Lib.hid (bel7 (q := q) (.int .i64 0) (.slice A9 (zeroG).accs.length c9) (.slice B9 (zeroG).lines.length d9) (.slice C9 (zeroG).offers.length e9) (.int .i64 0) (.int .i64 0) (.int .u64 0) hSK.2.2.2 (by omega))
        have HK9 := Lib.hid (show HasB (lb + 1) (.cells #[.int .i64 0, .slice (some ⟨w.heap.size, 0, none⟩) 2 2, .slice (some ⟨lb, 0, none⟩) 1 1, .slice none 0 0, .int .i64 0, .int .i64 0, .int .u64 0] 30 (0, 0)) ((((((((W9).setCell ⟨q, 0, none⟩ (.int .i64 0)).setCell ⟨q, 1, none⟩ (.slice A9 (zeroG).accs.length c9)).setCell ⟨q, 2, none⟩ (.slice B9 (zeroG).lines.length d9)).setCell ⟨q, 3, none⟩ (.slice C9 (zeroG).offers.length e9)).setCell ⟨q, 4, none⟩ (.int .i64 0)).setCell ⟨q, 5, none⟩ (.int .i64 0)).setCell ⟨q, 6, none⟩ (.int .u64 0)) from (heap7 (.int .i64 0) (.slice A9 (zeroG).accs.length c9) (.slice B9 (zeroG).lines.length d9) (.slice C9 (zeroG).offers.length e9) (.int .i64 0) (.int .i64 0) (.int .u64 0) (by omega)).trans hSK.2.1)
        obtain ⟨z_0, z_1, z_2, z_3, z_4, z_5, z_6, _⟩ := HQ.out.cs7
        have zf0 := HQ.out.fr 0
        have zf1 := HQ.out.fr 1
        have zf2 := HQ.out.fr 2
        have zf3 := HQ.out.fr 3
        have zf4 := HQ.out.fr 4
        have zf5 := HQ.out.fr 5
        have zf6 := HQ.out.fr 6
        refine one_f (i := 7) (by kernel_rfl) rfl (fun K hK => ?_)
        go_simp
        refine hK.out _ _ (Or.inl (by kernel_rfl)) ?_
        clear hK K z_0 z_1 z_2 z_3 z_4 z_5 z_6 zf0 zf1 zf2 zf3 zf4 zf5 zf6
        try simp only [Act.put, List.setIfInBounds_toArray, List.set_cons_zero, List.set_cons_succ]
        refine take_y (some 3) (i := 8) (v := ?_) rfl rfl (by kernel_rfl) (by kernel_rfl) (by kernel_rfl) (fun _ _ _ h => h) (Or.inl ⟨by rfl, ?_⟩) ?_
        rotate_left
        · intro w _; go_simp; (try with_reducible rfl)
        try simp only [Act.put, List.setIfInBounds_toArray, List.set_cons_zero, List.set_cons_succ]
        refine done_f (by kernel_rfl) ?_ _
        clear hSK
        go_wp2_with fail
        go_meet
        exact ⟨_, _, _, _, rfl, rfl, HG9, HX9, HK9, HL9, HB9⟩
      · skip
        go_simp
        have hgq : lb + 1 < wK.heap.size := hSK.2.1.lt
        replace hSK := (show Cs [(⟨lb + 1, 0, none⟩, .int .i64 0), (⟨lb + 1, 1, none⟩, .slice (some ⟨w.heap.size, 0, none⟩) 2 2), (⟨lb + 1, 2, none⟩, .slice (some ⟨lb, 0, none⟩) 1 1), (⟨lb + 1, 3, none⟩, .slice none 0 0), (⟨lb + 1, 4, none⟩, .int .i64 0), (⟨lb + 1, 5, none⟩, .int .i64 0), (⟨lb + 1, 6, none⟩, .int .u64 0)] (wK.alloc (.cells #[.int .i64 0, .slice none 0 0, .slice none 0 0, .slice none 0 0, .int .i64 0, .int .i64 0, .int .u64 0] 30)) ∧ HasB (lb + 1) (.cells #[.int .i64 0, .slice (some ⟨w.heap.size, 0, none⟩) 2 2, .slice (some ⟨lb, 0, none⟩) 1 1, .slice none 0 0, .int .i64 0, .int .i64 0, .int .u64 0] 30 (0, 0)) (wK.alloc (.cells #[.int .i64 0, .slice none 0 0, .slice none 0 0, .slice none 0 0, .int .i64 0, .int .i64 0, .int .u64 0] 30)) ∧ LedAt (fun b => b < lb + 1) ((wK.alloc (.cells #[.int .i64 0, .slice none 0 0, .slice none 0 0, .slice none 0 0, .int .i64 0, .int .i64 0, .int .u64 0] 30))) (.slice (some ⟨w.heap.size, 0, none⟩) 2 2) (.slice (some ⟨lb, 0, none⟩) 1 1) (.slice none 0 0) g37 ∧ Below w.heap.size w (wK.alloc (.cells #[.int .i64 0, .slice none 0 0, .slice none 0 0, .slice none 0 0, .int .i64 0, .int .i64 0, .int .u64 0] 30)) from ⟨Cs.below hSK.1 (balloc (bref _) (.cells #[.int .i64 0, .slice none 0 0, .slice none 0 0, .slice none 0 0, .int .i64 0, .int .i64 0, .int .u64 0] 30)), hSK.2.1.below (balloc (bref _) (.cells #[.int .i64 0, .slice none 0 0, .slice none 0 0, .slice none 0 0, .int .i64 0, .int .i64 0, .int .u64 0] 30)), hSK.2.2.1.below (balloc (bref _) (.cells #[.int .i64 0, .slice none 0 0, .slice none 0 0, .slice none 0 0, .int .i64 0, .int .i64 0, .int .u64 0] 30)), bstep hSK.2.2.2 (balloc (bref _) (.cells #[.int .i64 0, .slice none 0 0, .slice none 0 0, .slice none 0 0, .int .i64 0, .int .i64 0, .int .u64 0] 30))⟩)
        have HQ := Lib.hid (show HasB wK.heap.size (.cells #[.int .i64 0, .slice none 0 0, .slice none 0 0, .slice none 0 0, .int .i64 0, .int .i64 0, .int .u64 0] 30 (0, 0)) (wK.alloc (.cells #[.int .i64 0, .slice none 0 0, .slice none 0 0, .slice none 0 0, .int .i64 0, .int .i64 0, .int .u64 0] 30)) from heap_alloc_new _ _)
        have hqs : wK.heap.size < (wK.alloc (.cells #[.int .i64 0, .slice none 0 0, .slice none 0 0, .slice none 0 0, .int .i64 0, .int .i64 0, .int .u64 0] 30)).heap.size := HQ.out.lt
        refine hK.out _ _ (Or.inr (fun _ => hSK)) ?_
        clear hK K
        try simp only [Act.put, List.setIfInBounds_toArray, List.set_cons_zero, List.set_cons_succ]
        obtain ⟨q, hqq⟩ : ∃ q, wK.heap.size = q := ⟨_, rfl⟩
        rw [hqq] at HQ hqs hgq ⊢
        generalize (wK.alloc (.cells #[.int .i64 0, .slice none 0 0, .slice none 0 0, .slice none 0 0, .int .i64 0, .int .i64 0, .int .u64 0] 30)) = W9 at *
        clear hqq
        refine one_f (i := 2) (by kernel_rfl) rfl (fun K hK => ?_)
        go_simp
        refine (HC.out _ hSK.2.2.1).mono ?_
        rintro e wK ⟨va9, vl9, vo9, rfl, hl9, hbK⟩
        obtain ⟨A9, c9, B9, d9, C9, e9, rfl, rfl, rfl, _⟩ := hl9.form
        go_wp2_with fail
        replace hSK := (show Cs [(⟨lb + 1, 0, none⟩, .int .i64 0), (⟨lb + 1, 1, none⟩, .slice (some ⟨w.heap.size, 0, none⟩) 2 2), (⟨lb + 1, 2, none⟩, .slice (some ⟨lb, 0, none⟩) 1 1), (⟨lb + 1, 3, none⟩, .slice none 0 0), (⟨lb + 1, 4, none⟩, .int .i64 0), (⟨lb + 1, 5, none⟩, .int .i64 0), (⟨lb + 1, 6, none⟩, .int .u64 0)] wK ∧ HasB (lb + 1) (.cells #[.int .i64 0, .slice (some ⟨w.heap.size, 0, none⟩) 2 2, .slice (some ⟨lb, 0, none⟩) 1 1, .slice none 0 0, .int .i64 0, .int .i64 0, .int .u64 0] 30 (0, 0)) wK ∧ LedAt (fun b => b < lb + 1) (wK) (.slice (some ⟨w.heap.size, 0, none⟩) 2 2) (.slice (some ⟨lb, 0, none⟩) 1 1) (.slice none 0 0) g37 ∧ Below w.heap.size w wK from ⟨Cs.below hSK.1 hbK, hSK.2.1.below hbK, hSK.2.2.1.below hbK, bstep hSK.2.2.2 hbK⟩)
        have HX := Lib.hid (hl9.both (Q := fun b => b ≠ q) (Nat.le_refl _) (fun _ _ _ => rfl) (fun b _ hp => Nat.ne_of_gt (Nat.lt_of_lt_of_le hqs hp)))
        have HQ2 := Lib.hid (HQ.out.below hbK)
        clear HQ
        have HQ := HQ2
        clear HQ2 hqs
        refine hK.out _ _ (Or.inr (fun _ => hSK)) ?_
        clear hK K hbK hl9
        try simp only [Act.put, List.setIfInBounds_toArray, List.set_cons_zero, List.set_cons_succ]
        refine take_y (some 13) (i := 3) (v := ?_) rfl rfl (by kernel_rfl) (by kernel_rfl) (by kernel_rfl) (fun _ _ _ h => h) (Or.inl ⟨by rfl, ?_⟩) ?_
        rotate_left
        · intro w _; go_simp; (try with_reducible rfl)
        try simp only [Act.put, List.setIfInBounds_toArray, List.set_cons_zero, List.set_cons_succ]
        refine take_y (some 17) (i := 4) (v := ?_) rfl rfl (by kernel_rfl) (by kernel_rfl) (by kernel_rfl) (fun _ _ _ h => h) (Or.inl ⟨by rfl, ?_⟩) ?_
        rotate_left
        · intro w _; go_simp; (try with_reducible rfl)
        try simp only [Act.put, List.setIfInBounds_toArray, List.set_cons_zero, List.set_cons_succ]
        refine take_y (some 18) (i := 5) (v := ?_) rfl rfl (by kernel_rfl) (by kernel_rfl) (by kernel_rfl) (fun _ _ _ h => h) (Or.inl ⟨by rfl, ?_⟩) ?_
        rotate_left
        · intro w _; go_simp; (try with_reducible rfl)
        try simp only [Act.put, List.setIfInBounds_toArray, List.set_cons_zero, List.set_cons_succ]
        have HG9 := Lib.hid (show HasB q (.cells #[.int .i64 0, .slice A9 (zeroG).accs.length c9, .slice B9 (zeroG).lines.length d9, .slice C9 (zeroG).offers.length e9, .int .i64 0, .int .i64 0, .int .u64 0] 30 (0, 0)) ((((((((wK).setCell ⟨q, 0, none⟩ (.int .i64 0)).setCell ⟨q, 1, none⟩ (.slice A9 (zeroG).accs.length c9)).setCell ⟨q, 2, none⟩ (.slice B9 (zeroG).lines.length d9)).setCell ⟨q, 3, none⟩ (.slice C9 (zeroG).offers.length e9)).setCell ⟨q, 4, none⟩ (.int .i64 0)).setCell ⟨q, 5, none⟩ (.int .i64 0)).setCell ⟨q, 6, none⟩ (.int .u64 0)) from set7 HQ.out)
        have HX9 := Lib.hid (led7 (q := q) (.int .i64 0) (.slice A9 (zeroG).accs.length c9) (.slice B9 (zeroG).lines.length d9) (.slice C9 (zeroG).offers.length e9) (.int .i64 0) (.int .i64 0) (.int .u64 0) HX.out (fun b h => h))
        have HL9 := Lib.hid (led7 (q := q) (.int .i64 0) (.slice A9 (zeroG).accs.length c9) (.slice B9 (zeroG).lines.length d9) (.slice C9 (zeroG).offers.length e9) (.int .i64 0) (.int .i64 0) (.int .u64 0) hSK.2.2.1 (fun b h => Nat.ne_of_lt (Nat.lt_trans h hgq)))
        have HB9 := Lib.hid (bel7 (q := q) (.int .i64 0) (.slice A9 (zeroG).accs.length c9) (.slice B9 (zeroG).lines.length d9) (.slice C9 (zeroG).offers.length e9) (.int .i64 0) (.int .i64 0) (.int .u64 0) hSK.2.2.2 (by omega))
        have HK9 := Lib.hid (show HasB (lb + 1) (.cells #[.int .i64 0, .slice (some ⟨w.heap.size, 0, none⟩) 2 2, .slice (some ⟨lb, 0, none⟩) 1 1, .slice none 0 0, .int .i64 0, .int .i64 0, .int .u64 0] 30 (0, 0)) ((((((((wK).setCell ⟨q, 0, none⟩ (.int .i64 0)).setCell ⟨q, 1, none⟩ (.slice A9 (zeroG).accs.length c9)).setCell ⟨q, 2, none⟩ (.slice B9 (zeroG).lines.length d9)).setCell ⟨q, 3, none⟩ (.slice C9 (zeroG).offers.length e9)).setCell ⟨q, 4, none⟩ (.int .i64 0)).setCell ⟨q, 5, none⟩ (.int .i64 0)).setCell ⟨q, 6, none⟩ (.int .u64 0)) from (heap7 (.int .i64 0) (.slice A9 (zeroG).accs.length c9) (.slice B9 (zeroG).lines.length d9) (.slice C9 (zeroG).offers.length e9) (.int .i64 0) (.int .i64 0) (.int .u64 0) (by omega)).trans hSK.2.1)
        obtain ⟨z_0, z_1, z_2, z_3, z_4, z_5, z_6, _⟩ := HQ.out.cs7
        have zf0 := HQ.out.fr 0
        have zf1 := HQ.out.fr 1
        have zf2 := HQ.out.fr 2
        have zf3 := HQ.out.fr 3
        have zf4 := HQ.out.fr 4
        have zf5 := HQ.out.fr 5
        have zf6 := HQ.out.fr 6
        refine one_f (i := 7) (by kernel_rfl) rfl (fun K hK => ?_)
        go_simp
        refine hK.out _ _ (Or.inl (by kernel_rfl)) ?_
        clear hK K z_0 z_1 z_2 z_3 z_4 z_5 z_6 zf0 zf1 zf2 zf3 zf4 zf5 zf6
        try simp only [Act.put, List.setIfInBounds_toArray, List.set_cons_zero, List.set_cons_succ]
        refine take_y (some 3) (i := 8) (v := ?_) rfl rfl (by kernel_rfl) (by kernel_rfl) (by kernel_rfl) (fun _ _ _ h => h) (Or.inl ⟨by rfl, ?_⟩) ?_
        rotate_left
        · intro w _; go_simp; (try with_reducible rfl)
        try simp only [Act.put, List.setIfInBounds_toArray, List.set_cons_zero, List.set_cons_succ]
        refine done_f (by kernel_rfl) ?_ _
        clear hSK
        go_wp2_with fail
        go_meet
        exact ⟨_, _, _, _, rfl, rfl, HG9, HX9, HK9, HL9, HB9⟩
    · skip
      go_simp
      have hgq : lb + 1 < W2.heap.size := hSK.2.1.lt
      replace hSK := (show Cs [(⟨lb + 1, 0, none⟩, .int .i64 0), (⟨lb + 1, 1, none⟩, .slice (some ⟨w.heap.size, 0, none⟩) 2 2), (⟨lb + 1, 2, none⟩, .slice (some ⟨lb, 0, none⟩) 1 1), (⟨lb + 1, 3, none⟩, .slice none 0 0), (⟨lb + 1, 4, none⟩, .int .i64 0), (⟨lb + 1, 5, none⟩, .int .i64 0), (⟨lb + 1, 6, none⟩, .int .u64 0)] (W2.alloc (.cells #[.int .i64 0, .slice none 0 0, .slice none 0 0, .slice none 0 0, .int .i64 0, .int .i64 0, .int .u64 0] 30)).drew ∧ HasB (lb + 1) (.cells #[.int .i64 0, .slice (some ⟨w.heap.size, 0, none⟩) 2 2, .slice (some ⟨lb, 0, none⟩) 1 1, .slice none 0 0, .int .i64 0, .int .i64 0, .int .u64 0] 30 (0, 0)) (W2.alloc (.cells #[.int .i64 0, .slice none 0 0, .slice none 0 0, .slice none 0 0, .int .i64 0, .int .i64 0, .int .u64 0] 30)).drew ∧ LedAt (fun b => b < lb + 1) ((W2.alloc (.cells #[.int .i64 0, .slice none 0 0, .slice none 0 0, .slice none 0 0, .int .i64 0, .int .i64 0, .int .u64 0] 30)).drew) (.slice (some ⟨w.heap.size, 0, none⟩) 2 2) (.slice (some ⟨lb, 0, none⟩) 1 1) (.slice none 0 0) g37 ∧ Below w.heap.size w (W2.alloc (.cells #[.int .i64 0, .slice none 0 0, .slice none 0 0, .slice none 0 0, .int .i64 0, .int .i64 0, .int .u64 0] 30)).drew from ⟨Cs.below hSK.1 (balloc (bref _) (.cells #[.int .i64 0, .slice none 0 0, .slice none 0 0, .slice none 0 0, .int .i64 0, .int .i64 0, .int .u64 0] 30)), hSK.2.1.below (balloc (bref _) (.cells #[.int .i64 0, .slice none 0 0, .slice none 0 0, .slice none 0 0, .int .i64 0, .int .i64 0, .int .u64 0] 30)), hSK.2.2.1.below (balloc (bref _) (.cells #[.int .i64 0, .slice none 0 0, .slice none 0 0, .slice none 0 0, .int .i64 0, .int .i64 0, .int .u64 0] 30)), bstep hSK.2.2.2 (balloc (bref _) (.cells #[.int .i64 0, .slice none 0 0, .slice none 0 0, .slice none 0 0, .int .i64 0, .int .i64 0, .int .u64 0] 30))⟩)
      have HQ := Lib.hid (show HasB W2.heap.size (.cells #[.int .i64 0, .slice none 0 0, .slice none 0 0, .slice none 0 0, .int .i64 0, .int .i64 0, .int .u64 0] 30 (0, 0)) (W2.alloc (.cells #[.int .i64 0, .slice none 0 0, .slice none 0 0, .slice none 0 0, .int .i64 0, .int .i64 0, .int .u64 0] 30)).drew from heap_alloc_new _ _)
      have hqs : W2.heap.size < (W2.alloc (.cells #[.int .i64 0, .slice none 0 0, .slice none 0 0, .slice none 0 0, .int .i64 0, .int .i64 0, .int .u64 0] 30)).drew.heap.size := HQ.out.lt
      refine hK.out _ _ (Or.inr (fun _ => hSK)) ?_
      clear hK K
      try simp only [Act.put, List.setIfInBounds_toArray, List.set_cons_zero, List.set_cons_succ]
      obtain ⟨q, hqq⟩ : ∃ q, W2.heap.size = q := ⟨_, rfl⟩
      rw [hqq] at HQ hqs hgq ⊢
      generalize (W2.alloc (.cells #[.int .i64 0, .slice none 0 0, .slice none 0 0, .slice none 0 0, .int .i64 0, .int .i64 0, .int .u64 0] 30)).drew = W9 at *
      clear hqq
      refine one_f (i := 1) (by kernel_rfl) rfl (fun K hK => ?_)
      go_simp
      refine (Usd_run _).mono ?_
      rintro e wK ⟨rfl, hbK⟩
      go_wp2_with fail
      replace hSK := (show Cs [(⟨lb + 1, 0, none⟩, .int .i64 0), (⟨lb + 1, 1, none⟩, .slice (some ⟨w.heap.size, 0, none⟩) 2 2), (⟨lb + 1, 2, none⟩, .slice (some ⟨lb, 0, none⟩) 1 1), (⟨lb + 1, 3, none⟩, .slice none 0 0), (⟨lb + 1, 4, none⟩, .int .i64 0), (⟨lb + 1, 5, none⟩, .int .i64 0), (⟨lb + 1, 6, none⟩, .int .u64 0)] wK ∧ HasB (lb + 1) (.cells #[.int .i64 0, .slice (some ⟨w.heap.size, 0, none⟩) 2 2, .slice (some ⟨lb, 0, none⟩) 1 1, .slice none 0 0, .int .i64 0, .int .i64 0, .int .u64 0] 30 (0, 0)) wK ∧ LedAt (fun b => b < lb + 1) (wK) (.slice (some ⟨w.heap.size, 0, none⟩) 2 2) (.slice (some ⟨lb, 0, none⟩) 1 1) (.slice none 0 0) g37 ∧ Below w.heap.size w wK from ⟨Cs.below hSK.1 hbK, hSK.2.1.below hbK, hSK.2.2.1.below hbK, bstep hSK.2.2.2 hbK⟩)
      have HQ2 := Lib.hid (HQ.out.below hbK)
      clear HQ
      have HQ := HQ2
      clear HQ2
      have hqs := Nat.lt_of_lt_of_le hqs hbK.size
      refine hK.out _ _ (Or.inr (fun _ => hSK)) ?_
      clear hK K hbK
      try simp only [Act.put, List.setIfInBounds_toArray, List.set_cons_zero, List.set_cons_succ]
      refine one_f (i := 2) (by kernel_rfl) rfl (fun K hK => ?_)
      go_simp
      refine (HC.out _ hSK.2.2.1).mono ?_
      rintro e wK ⟨va9, vl9, vo9, rfl, hl9, hbK⟩
      obtain ⟨A9, c9, B9, d9, C9, e9, rfl, rfl, rfl, _⟩ := hl9.form
      go_wp2_with fail
      replace hSK := (show Cs [(⟨lb + 1, 0, none⟩, .int .i64 0), (⟨lb + 1, 1, none⟩, .slice (some ⟨w.heap.size, 0, none⟩) 2 2), (⟨lb + 1, 2, none⟩, .slice (some ⟨lb, 0, none⟩) 1 1), (⟨lb + 1, 3, none⟩, .slice none 0 0), (⟨lb + 1, 4, none⟩, .int .i64 0), (⟨lb + 1, 5, none⟩, .int .i64 0), (⟨lb + 1, 6, none⟩, .int .u64 0)] wK ∧ HasB (lb + 1) (.cells #[.int .i64 0, .slice (some ⟨w.heap.size, 0, none⟩) 2 2, .slice (some ⟨lb, 0, none⟩) 1 1, .slice none 0 0, .int .i64 0, .int .i64 0, .int .u64 0] 30 (0, 0)) wK ∧ LedAt (fun b => b < lb + 1) (wK) (.slice (some ⟨w.heap.size, 0, none⟩) 2 2) (.slice (some ⟨lb, 0, none⟩) 1 1) (.slice none 0 0) g37 ∧ Below w.heap.size w wK from ⟨Cs.below hSK.1 hbK, hSK.2.1.below hbK, hSK.2.2.1.below hbK, bstep hSK.2.2.2 hbK⟩)
      have HX := Lib.hid (hl9.both (Q := fun b => b ≠ q) (Nat.le_refl _) (fun _ _ _ => rfl) (fun b _ hp => Nat.ne_of_gt (Nat.lt_of_lt_of_le hqs hp)))
      have HQ2 := Lib.hid (HQ.out.below hbK)
      clear HQ
      have HQ := HQ2
      clear HQ2 hqs
      refine hK.out _ _ (Or.inr (fun _ => hSK)) ?_
      clear hK K hbK hl9
      try simp only [Act.put, List.setIfInBounds_toArray, List.set_cons_zero, List.set_cons_succ]
      refine take_y (some 13) (i := 3) (v := ?_) rfl rfl (by kernel_rfl) (by kernel_rfl) (by kernel_rfl) (fun _ _ _ h => h) (Or.inl ⟨by rfl, ?_⟩) ?_
      rotate_left
      · intro w _; go_simp; (try with_reducible rfl)
      try simp only [Act.put, List.setIfInBounds_toArray, List.set_cons_zero, List.set_cons_succ]
      refine take_y (some 17) (i := 4) (v := ?_) rfl rfl (by kernel_rfl) (by kernel_rfl) (by kernel_rfl) (fun _ _ _ h => h) (Or.inl ⟨by rfl, ?_⟩) ?_
      rotate_left
      · intro w _; go_simp; (try with_reducible rfl)
      try simp only [Act.put, List.setIfInBounds_toArray, List.set_cons_zero, List.set_cons_succ]
      refine take_y (some 18) (i := 5) (v := ?_) rfl rfl (by kernel_rfl) (by kernel_rfl) (by kernel_rfl) (fun _ _ _ h => h) (Or.inl ⟨by rfl, ?_⟩) ?_
      rotate_left
      · intro w _; go_simp; (try with_reducible rfl)
      try simp only [Act.put, List.setIfInBounds_toArray, List.set_cons_zero, List.set_cons_succ]
      have HG9 := Lib.hid (show HasB q (.cells #[.int .i64 0, .slice A9 (zeroG).accs.length c9, .slice B9 (zeroG).lines.length d9, .slice C9 (zeroG).offers.length e9, .int .i64 0, .int .i64 0, .int .u64 0] 30 (0, 0)) ((((((((wK).setCell ⟨q, 0, none⟩ (.int .i64 0)).setCell ⟨q, 1, none⟩ (.slice A9 (zeroG).accs.length c9)).setCell ⟨q, 2, none⟩ (.slice B9 (zeroG).lines.length d9)).setCell ⟨q, 3, none⟩ (.slice C9 (zeroG).offers.length e9)).setCell ⟨q, 4, none⟩ (.int .i64 0)).setCell ⟨q, 5, none⟩ (.int .i64 0)).setCell ⟨q, 6, none⟩ (.int .u64 0)) from set7 HQ.out)
      have HX9 := Lib.hid (led7 (q := q) (.int .i64 0) (.slice A9 (zeroG).accs.length c9) (.slice B9 (zeroG).lines.length d9) (.slice C9 (zeroG).offers.length e9) (.int .i64 0) (.int .i64 0) (.int .u64 0) HX.out (fun b h => h))
      have HL9 := Lib.hid (led7 (q := q) (.int .i64 0) (.slice A9 (zeroG).accs.length c9) (.slice B9 (zeroG).lines.length d9) (.slice C9 (zeroG).offers.length e9) (.int .i64 0) (.int .i64 0) (.int .u64 0) hSK.2.2.1 (fun b h => Nat.ne_of_lt (Nat.lt_trans h hgq)))
      have HB9 := Lib.hid (bel7 (q := q) (.int .i64 0) (.slice A9 (zeroG).accs.length c9) (.slice B9 (zeroG).lines.length d9) (.slice C9 (zeroG).offers.length e9) (.int .i64 0) (.int .i64 0) (.int .u64 0) hSK.2.2.2 (by omega))
      have HK9 := Lib.hid (show HasB (lb + 1) (.cells #[.int .i64 0, .slice (some ⟨w.heap.size, 0, none⟩) 2 2, .slice (some ⟨lb, 0, none⟩) 1 1, .slice none 0 0, .int .i64 0, .int .i64 0, .int .u64 0] 30 (0, 0)) ((((((((wK).setCell ⟨q, 0, none⟩ (.int .i64 0)).setCell ⟨q, 1, none⟩ (.slice A9 (zeroG).accs.length c9)).setCell ⟨q, 2, none⟩ (.slice B9 (zeroG).lines.length d9)).setCell ⟨q, 3, none⟩ (.slice C9 (zeroG).offers.length e9)).setCell ⟨q, 4, none⟩ (.int .i64 0)).setCell ⟨q, 5, none⟩ (.int .i64 0)).setCell ⟨q, 6, none⟩ (.int .u64 0)) from (heap7 (.int .i64 0) (.slice A9 (zeroG).accs.length c9) (.slice B9 (zeroG).lines.length d9) (.slice C9 (zeroG).offers.length e9) (.int .i64 0) (.int .i64 0) (.int .u64 0) (by omega)).trans hSK.2.1)
      obtain ⟨z_0, z_1, z_2, z_3, z_4, z_5, z_6, _⟩ := HQ.out.cs7
      have zf0 := HQ.out.fr 0
      have zf1 := HQ.out.fr 1
      have zf2 := HQ.out.fr 2
      have zf3 := HQ.out.fr 3
      have zf4 := HQ.out.fr 4
      have zf5 := HQ.out.fr 5
      have zf6 := HQ.out.fr 6
      refine one_f (i := 7) (by kernel_rfl) rfl (fun K hK => ?_)
      go_simp
      refine hK.out _ _ (Or.inl (by kernel_rfl)) ?_
      clear hK K z_0 z_1 z_2 z_3 z_4 z_5 z_6 zf0 zf1 zf2 zf3 zf4 zf5 zf6
      try simp only [Act.put, List.setIfInBounds_toArray, List.set_cons_zero, List.set_cons_succ]
      refine take_y (some 3) (i := 8) (v := ?_) rfl rfl (by kernel_rfl) (by kernel_rfl) (by kernel_rfl) (fun _ _ _ h => h) (Or.inl ⟨by rfl, ?_⟩) ?_
      rotate_left
      · intro w _; go_simp; (try with_reducible rfl)
      try simp only [Act.put, List.setIfInBounds_toArray, List.set_cons_zero, List.set_cons_succ]
      refine done_f (by kernel_rfl) ?_ _
      clear hSK
      go_wp2_with fail
      go_meet
      exact ⟨_, _, _, _, rfl, rfl, HG9, HX9, HK9, HL9, HB9⟩
  case rest =>
    clear HG2 HE2 HB2 HC
    obtain ⟨q2, A2, B2, C2, rfl, rfl, _, _, HG2, HE2, HB2⟩ := hcut
    have HC := Lib.hid (show ∀ W, LedAt (fun b => b < lb + 1) W (.slice (some ⟨w.heap.size, 0, none⟩) 2 2) (.slice (some ⟨lb, 0, none⟩) 1 1) (.slice none 0 0) g37 → Calls Try.prog 30 #[.agg #[.int .i64 0, .slice (some ⟨w.heap.size, 0, none⟩) 2 2, .slice (some ⟨lb, 0, none⟩) 1 1, .slice none 0 0, .int .i64 0, .int .i64 0, .int .u64 0], .int .i64 2, .agg #[.string (codeOf 1), .int .i64 (issOf 1)], .int .i64 4] W fun e w' => ∃ va' vl' vo', e = .returned (.tuple #[.agg #[.int .i64 0, va', vl', vo', .int .i64 0, .int .i64 0, .int .u64 0], .int .i64 0]) ∧ LedAt (fun b => W.heap.size ≤ b) w' va' vl' vo' x37 ∧ Below W.heap.size W w' from fun W hW => by
      have h1 := credit_run _ g37 2 4 1 _ _ _ W (by omega) (by omega) (by omega) g37_w (by decide) hW
      rw [e37b, g37b] at h1
      exact h1)
    go_upto_region 3 with fail
    go_cut [4, 5] (fun p e W => ∃ q A9 B9 C9, p = .pointer (some ⟨q, 0, none⟩) ∧ e = .int .i64 0 ∧ Hid (HasB q (.cells #[.int .i64 0, A9, B9, C9, .int .i64 0, .int .i64 0, .int .u64 0] 30 (0, 0)) W) ∧ Hid (LedAt (fun b => b ≠ q) W A9 B9 C9 x37) ∧ Hid (HasB (lb + 1) (.cells #[.int .i64 0, .slice (some ⟨w.heap.size, 0, none⟩) 2 2, .slice (some ⟨lb, 0, none⟩) 1 1, .slice none 0 0, .int .i64 0, .int .i64 0, .int .u64 0] 30 (0, 0)) W) ∧ Hid (LedAt (fun b => b < lb + 1) W (.slice (some ⟨w.heap.size, 0, none⟩) 2 2) (.slice (some ⟨lb, 0, none⟩) 1 1) (.slice none 0 0) g37) ∧ Hid (Below w.heap.size w W))
    case first =>
      refine region_f (fun W => Cs [(⟨lb + 1, 0, none⟩, .int .i64 0), (⟨lb + 1, 1, none⟩, .slice (some ⟨w.heap.size, 0, none⟩) 2 2), (⟨lb + 1, 2, none⟩, .slice (some ⟨lb, 0, none⟩) 1 1), (⟨lb + 1, 3, none⟩, .slice none 0 0), (⟨lb + 1, 4, none⟩, .int .i64 0), (⟨lb + 1, 5, none⟩, .int .i64 0), (⟨lb + 1, 6, none⟩, .int .u64 0)] W ∧ HasB (lb + 1) (.cells #[.int .i64 0, .slice (some ⟨w.heap.size, 0, none⟩) 2 2, .slice (some ⟨lb, 0, none⟩) 1 1, .slice none 0 0, .int .i64 0, .int .i64 0, .int .u64 0] 30 (0, 0)) W ∧ LedAt (fun b => b < lb + 1) W (.slice (some ⟨w.heap.size, 0, none⟩) 2 2) (.slice (some ⟨lb, 0, none⟩) 1 1) (.slice none 0 0) g37 ∧ Below w.heap.size w W) [7] (by kernel_rfl) ?_
      have hSK : Cs [(⟨lb + 1, 0, none⟩, .int .i64 0), (⟨lb + 1, 1, none⟩, .slice (some ⟨w.heap.size, 0, none⟩) 2 2), (⟨lb + 1, 2, none⟩, .slice (some ⟨lb, 0, none⟩) 1 1), (⟨lb + 1, 3, none⟩, .slice none 0 0), (⟨lb + 1, 4, none⟩, .int .i64 0), (⟨lb + 1, 5, none⟩, .int .i64 0), (⟨lb + 1, 6, none⟩, .int .u64 0)] wc.drew ∧ HasB (lb + 1) (.cells #[.int .i64 0, .slice (some ⟨w.heap.size, 0, none⟩) 2 2, .slice (some ⟨lb, 0, none⟩) 1 1, .slice none 0 0, .int .i64 0, .int .i64 0, .int .u64 0] 30 (0, 0)) wc.drew ∧ LedAt (fun b => b < lb + 1) (wc.drew) (.slice (some ⟨w.heap.size, 0, none⟩) 2 2) (.slice (some ⟨lb, 0, none⟩) 1 1) (.slice none 0 0) g37 ∧ Below w.heap.size w wc.drew := ⟨HG2.out.cs7.drew, HG2.out.below (bdrew (bref _)), HE2.out.below (bdrew (bref _)), bdrew HB2.out⟩
      clear HG2 HE2 HB2
      refine take_f (some 20) [2, 3, 4, 5, 7, 8] (i := 0) (v := ?_) rfl rfl (by kernel_rfl) (by kernel_rfl) (by kernel_rfl) (by kernel_rfl) (fun _ _ _ h => h) (Or.inl ⟨by rfl, ?_⟩) (by assumption) ?_
      rotate_left
      · intro w hSw; (dsimp only [Cs] at hSw); go_simp; (try with_reducible rfl)
      try simp only [Act.put, List.setIfInBounds_toArray, List.set_cons_zero, List.set_cons_succ]
      refine two_f (i := 1) (j := 6) (by kernel_rfl) rfl rfl (fun K hK => ?_) (fun K hK => ?_)
      · skip
        go_simp
        refine (Usd_run _).mono ?_
        rintro e wK ⟨rfl, hbK⟩
        go_wp2_with fail
        replace hSK := (show Cs [(⟨lb + 1, 0, none⟩, .int .i64 0), (⟨lb + 1, 1, none⟩, .slice (some ⟨w.heap.size, 0, none⟩) 2 2), (⟨lb + 1, 2, none⟩, .slice (some ⟨lb, 0, none⟩) 1 1), (⟨lb + 1, 3, none⟩, .slice none 0 0), (⟨lb + 1, 4, none⟩, .int .i64 0), (⟨lb + 1, 5, none⟩, .int .i64 0), (⟨lb + 1, 6, none⟩, .int .u64 0)] wK ∧ HasB (lb + 1) (.cells #[.int .i64 0, .slice (some ⟨w.heap.size, 0, none⟩) 2 2, .slice (some ⟨lb, 0, none⟩) 1 1, .slice none 0 0, .int .i64 0, .int .i64 0, .int .u64 0] 30 (0, 0)) wK ∧ LedAt (fun b => b < lb + 1) (wK) (.slice (some ⟨w.heap.size, 0, none⟩) 2 2) (.slice (some ⟨lb, 0, none⟩) 1 1) (.slice none 0 0) g37 ∧ Below w.heap.size w wK from ⟨Cs.below hSK.1 hbK, hSK.2.1.below hbK, hSK.2.2.1.below hbK, bstep hSK.2.2.2 hbK⟩)
        refine hK.out _ _ (Or.inr (fun _ => hSK)) ?_
        clear hK K hbK
        try simp only [Act.put, List.setIfInBounds_toArray, List.set_cons_zero, List.set_cons_succ]
        refine two_f (i := 2) (j := 6) (by kernel_rfl) rfl rfl (fun K hK => ?_) (fun K hK => ?_)
        · skip
          go_simp
          refine (HC.out _ hSK.2.2.1).mono ?_
          rintro e wK ⟨va9, vl9, vo9, rfl, hl9, hbK⟩
          obtain ⟨A9, c9, B9, d9, C9, e9, rfl, rfl, rfl, _⟩ := hl9.form
          go_wp2_with fail
          replace hSK := (show Cs [(⟨lb + 1, 0, none⟩, .int .i64 0), (⟨lb + 1, 1, none⟩, .slice (some ⟨w.heap.size, 0, none⟩) 2 2), (⟨lb + 1, 2, none⟩, .slice (some ⟨lb, 0, none⟩) 1 1), (⟨lb + 1, 3, none⟩, .slice none 0 0), (⟨lb + 1, 4, none⟩, .int .i64 0), (⟨lb + 1, 5, none⟩, .int .i64 0), (⟨lb + 1, 6, none⟩, .int .u64 0)] wK ∧ HasB (lb + 1) (.cells #[.int .i64 0, .slice (some ⟨w.heap.size, 0, none⟩) 2 2, .slice (some ⟨lb, 0, none⟩) 1 1, .slice none 0 0, .int .i64 0, .int .i64 0, .int .u64 0] 30 (0, 0)) wK ∧ LedAt (fun b => b < lb + 1) (wK) (.slice (some ⟨w.heap.size, 0, none⟩) 2 2) (.slice (some ⟨lb, 0, none⟩) 1 1) (.slice none 0 0) g37 ∧ Below w.heap.size w wK from ⟨Cs.below hSK.1 hbK, hSK.2.1.below hbK, hSK.2.2.1.below hbK, bstep hSK.2.2.2 hbK⟩)
          have HX := Lib.hid hl9
          refine hK.out _ _ (Or.inr (fun _ => hSK)) ?_
          clear hK K hbK hl9
          try simp only [Act.put, List.setIfInBounds_toArray, List.set_cons_zero, List.set_cons_succ]
          refine take_y (some 19) (i := 3) (v := ?_) rfl rfl (by kernel_rfl) (by kernel_rfl) (by kernel_rfl) (fun _ _ _ h => h) (Or.inl ⟨by rfl, ?_⟩) ?_
          rotate_left
          · intro w _; go_simp; (try with_reducible rfl)
          try simp only [Act.put, List.setIfInBounds_toArray, List.set_cons_zero, List.set_cons_succ]
          refine take_y (some 23) (i := 4) (v := ?_) rfl rfl (by kernel_rfl) (by kernel_rfl) (by kernel_rfl) (fun _ _ _ h => h) (Or.inl ⟨by rfl, ?_⟩) ?_
          rotate_left
          · intro w _; go_simp; (try with_reducible rfl)
          try simp only [Act.put, List.setIfInBounds_toArray, List.set_cons_zero, List.set_cons_succ]
          refine take_y (some 24) (i := 5) (v := ?_) rfl rfl (by kernel_rfl) (by kernel_rfl) (by kernel_rfl) (fun _ _ _ h => h) (Or.inl ⟨by rfl, ?_⟩) ?_
          rotate_left
          · intro w _; go_simp; (try with_reducible rfl)
          try simp only [Act.put, List.setIfInBounds_toArray, List.set_cons_zero, List.set_cons_succ]
          refine one_f (i := 6) (by kernel_rfl) rfl (fun K hK => ?_)
          go_simp
          have hgq : lb + 1 < wK.heap.size := hSK.2.1.lt
          have HX2 := Lib.hid ((HX.out.both (Q := fun b => b ≠ wK.heap.size) (Nat.le_refl _) (fun _ _ _ => rfl) (fun b hb _ => Nat.ne_of_lt hb)).alloc (.cells #[.int .i64 0, .slice none 0 0, .slice none 0 0, .slice none 0 0, .int .i64 0, .int .i64 0, .int .u64 0] 30))
          clear HX
          have HX := HX2
          clear HX2
          replace hSK := (show Cs [(⟨lb + 1, 0, none⟩, .int .i64 0), (⟨lb + 1, 1, none⟩, .slice (some ⟨w.heap.size, 0, none⟩) 2 2), (⟨lb + 1, 2, none⟩, .slice (some ⟨lb, 0, none⟩) 1 1), (⟨lb + 1, 3, none⟩, .slice none 0 0), (⟨lb + 1, 4, none⟩, .int .i64 0), (⟨lb + 1, 5, none⟩, .int .i64 0), (⟨lb + 1, 6, none⟩, .int .u64 0)] (wK.alloc (.cells #[.int .i64 0, .slice none 0 0, .slice none 0 0, .slice none 0 0, .int .i64 0, .int .i64 0, .int .u64 0] 30)) ∧ HasB (lb + 1) (.cells #[.int .i64 0, .slice (some ⟨w.heap.size, 0, none⟩) 2 2, .slice (some ⟨lb, 0, none⟩) 1 1, .slice none 0 0, .int .i64 0, .int .i64 0, .int .u64 0] 30 (0, 0)) (wK.alloc (.cells #[.int .i64 0, .slice none 0 0, .slice none 0 0, .slice none 0 0, .int .i64 0, .int .i64 0, .int .u64 0] 30)) ∧ LedAt (fun b => b < lb + 1) ((wK.alloc (.cells #[.int .i64 0, .slice none 0 0, .slice none 0 0, .slice none 0 0, .int .i64 0, .int .i64 0, .int .u64 0] 30))) (.slice (some ⟨w.heap.size, 0, none⟩) 2 2) (.slice (some ⟨lb, 0, none⟩) 1 1) (.slice none 0 0) g37 ∧ Below w.heap.size w (wK.alloc (.cells #[.int .i64 0, .slice none 0 0, .slice none 0 0, .slice none 0 0, .int .i64 0, .int .i64 0, .int .u64 0] 30)) from ⟨Cs.below hSK.1 (balloc (bref _) (.cells #[.int .i64 0, .slice none 0 0, .slice none 0 0, .slice none 0 0, .int .i64 0, .int .i64 0, .int .u64 0] 30)), hSK.2.1.below (balloc (bref _) (.cells #[.int .i64 0, .slice none 0 0, .slice none 0 0, .slice none 0 0, .int .i64 0, .int .i64 0, .int .u64 0] 30)), hSK.2.2.1.below (balloc (bref _) (.cells #[.int .i64 0, .slice none 0 0, .slice none 0 0, .slice none 0 0, .int .i64 0, .int .i64 0, .int .u64 0] 30)), bstep hSK.2.2.2 (balloc (bref _) (.cells #[.int .i64 0, .slice none 0 0, .slice none 0 0, .slice none 0 0, .int .i64 0, .int .i64 0, .int .u64 0] 30))⟩)
          have HQ := Lib.hid (show HasB wK.heap.size (.cells #[.int .i64 0, .slice none 0 0, .slice none 0 0, .slice none 0 0, .int .i64 0, .int .i64 0, .int .u64 0] 30 (0, 0)) (wK.alloc (.cells #[.int .i64 0, .slice none 0 0, .slice none 0 0, .slice none 0 0, .int .i64 0, .int .i64 0, .int .u64 0] 30)) from heap_alloc_new _ _)
          have hqs : wK.heap.size < (wK.alloc (.cells #[.int .i64 0, .slice none 0 0, .slice none 0 0, .slice none 0 0, .int .i64 0, .int .i64 0, .int .u64 0] 30)).heap.size := HQ.out.lt
          refine hK.out _ _ (Or.inr (fun _ => hSK)) ?_
          clear hK K
          try simp only [Act.put, List.setIfInBounds_toArray, List.set_cons_zero, List.set_cons_succ]
          obtain ⟨q, hqq⟩ : ∃ q, wK.heap.size = q := ⟨_, rfl⟩
          rw [hqq] at HQ hqs hgq ⊢ HX
          generalize (wK.alloc (.cells #[.int .i64 0, .slice none 0 0, .slice none 0 0, .slice none 0 0, .int .i64 0, .int .i64 0, .int .u64 0] 30)) = W9 at *
          clear hqq
          have HG9 := Lib.hid (show HasB q (.cells #[.int .i64 0, .slice A9 (x37).accs.length c9, .slice B9 (x37).lines.length d9, .slice C9 (x37).offers.length e9, .int .i64 0, .int .i64 0, .int .u64 0] 30 (0, 0)) ((((((((W9).setCell ⟨q, 0, none⟩ (.int .i64 0)).setCell ⟨q, 1, none⟩ (.slice A9 (x37).accs.length c9)).setCell ⟨q, 2, none⟩ (.slice B9 (x37).lines.length d9)).setCell ⟨q, 3, none⟩ (.slice C9 (x37).offers.length e9)).setCell ⟨q, 4, none⟩ (.int .i64 0)).setCell ⟨q, 5, none⟩ (.int .i64 0)).setCell ⟨q, 6, none⟩ (.int .u64 0)) from set7 HQ.out)
          have HX9 := Lib.hid (led7 (q := q) (.int .i64 0) (.slice A9 (x37).accs.length c9) (.slice B9 (x37).lines.length d9) (.slice C9 (x37).offers.length e9) (.int .i64 0) (.int .i64 0) (.int .u64 0) HX.out (fun b h => h))
          have HL9 := Lib.hid (led7 (q := q) (.int .i64 0) (.slice A9 (x37).accs.length c9) (.slice B9 (x37).lines.length d9) (.slice C9 (x37).offers.length e9) (.int .i64 0) (.int .i64 0) (.int .u64 0) hSK.2.2.1 (fun b h => Nat.ne_of_lt (Nat.lt_trans h hgq)))
          have HB9 := Lib.hid (bel7 (q := q) (.int .i64 0) (.slice A9 (x37).accs.length c9) (.slice B9 (x37).lines.length d9) (.slice C9 (x37).offers.length e9) (.int .i64 0) (.int .i64 0) (.int .u64 0) hSK.2.2.2 (by omega))
          have HK9 := Lib.hid (show HasB (lb + 1) (.cells #[.int .i64 0, .slice (some ⟨w.heap.size, 0, none⟩) 2 2, .slice (some ⟨lb, 0, none⟩) 1 1, .slice none 0 0, .int .i64 0, .int .i64 0, .int .u64 0] 30 (0, 0)) ((((((((W9).setCell ⟨q, 0, none⟩ (.int .i64 0)).setCell ⟨q, 1, none⟩ (.slice A9 (x37).accs.length c9)).setCell ⟨q, 2, none⟩ (.slice B9 (x37).lines.length d9)).setCell ⟨q, 3, none⟩ (.slice C9 (x37).offers.length e9)).setCell ⟨q, 4, none⟩ (.int .i64 0)).setCell ⟨q, 5, none⟩ (.int .i64 0)).setCell ⟨q, 6, none⟩ (.int .u64 0)) from (heap7 (.int .i64 0) (.slice A9 (x37).accs.length c9) (.slice B9 (x37).lines.length d9) (.slice C9 (x37).offers.length e9) (.int .i64 0) (.int .i64 0) (.int .u64 0) (by omega)).trans hSK.2.1)
          obtain ⟨z_0, z_1, z_2, z_3, z_4, z_5, z_6, _⟩ := HQ.out.cs7
          have zf0 := HQ.out.fr 0
          have zf1 := HQ.out.fr 1
          have zf2 := HQ.out.fr 2
          have zf3 := HQ.out.fr 3
          have zf4 := HQ.out.fr 4
          have zf5 := HQ.out.fr 5
          have zf6 := HQ.out.fr 6
          refine one_f (i := 7) (by kernel_rfl) rfl (fun K hK => ?_)
          go_simp
          refine hK.out _ _ (Or.inl (by kernel_rfl)) ?_
          clear hK K z_0 z_1 z_2 z_3 z_4 z_5 z_6 zf0 zf1 zf2 zf3 zf4 zf5 zf6
          try simp only [Act.put, List.setIfInBounds_toArray, List.set_cons_zero, List.set_cons_succ]
          refine take_y (some 5) (i := 8) (v := ?_) rfl rfl (by kernel_rfl) (by kernel_rfl) (by kernel_rfl) (fun _ _ _ h => h) (Or.inl ⟨by rfl, ?_⟩) ?_
          rotate_left
          · intro w _; go_simp; (try with_reducible rfl)
          try simp only [Act.put, List.setIfInBounds_toArray, List.set_cons_zero, List.set_cons_succ]
          refine done_f (by kernel_rfl) ?_ _
          clear hSK
          go_wp2_with fail
          go_meet
          exact ⟨_, _, _, _, rfl, rfl, HG9, HX9, HK9, HL9, HB9⟩
        · skip
          go_simp
          have hgq : lb + 1 < wK.heap.size := hSK.2.1.lt
          replace hSK := (show Cs [(⟨lb + 1, 0, none⟩, .int .i64 0), (⟨lb + 1, 1, none⟩, .slice (some ⟨w.heap.size, 0, none⟩) 2 2), (⟨lb + 1, 2, none⟩, .slice (some ⟨lb, 0, none⟩) 1 1), (⟨lb + 1, 3, none⟩, .slice none 0 0), (⟨lb + 1, 4, none⟩, .int .i64 0), (⟨lb + 1, 5, none⟩, .int .i64 0), (⟨lb + 1, 6, none⟩, .int .u64 0)] (wK.alloc (.cells #[.int .i64 0, .slice none 0 0, .slice none 0 0, .slice none 0 0, .int .i64 0, .int .i64 0, .int .u64 0] 30)) ∧ HasB (lb + 1) (.cells #[.int .i64 0, .slice (some ⟨w.heap.size, 0, none⟩) 2 2, .slice (some ⟨lb, 0, none⟩) 1 1, .slice none 0 0, .int .i64 0, .int .i64 0, .int .u64 0] 30 (0, 0)) (wK.alloc (.cells #[.int .i64 0, .slice none 0 0, .slice none 0 0, .slice none 0 0, .int .i64 0, .int .i64 0, .int .u64 0] 30)) ∧ LedAt (fun b => b < lb + 1) ((wK.alloc (.cells #[.int .i64 0, .slice none 0 0, .slice none 0 0, .slice none 0 0, .int .i64 0, .int .i64 0, .int .u64 0] 30))) (.slice (some ⟨w.heap.size, 0, none⟩) 2 2) (.slice (some ⟨lb, 0, none⟩) 1 1) (.slice none 0 0) g37 ∧ Below w.heap.size w (wK.alloc (.cells #[.int .i64 0, .slice none 0 0, .slice none 0 0, .slice none 0 0, .int .i64 0, .int .i64 0, .int .u64 0] 30)) from ⟨Cs.below hSK.1 (balloc (bref _) (.cells #[.int .i64 0, .slice none 0 0, .slice none 0 0, .slice none 0 0, .int .i64 0, .int .i64 0, .int .u64 0] 30)), hSK.2.1.below (balloc (bref _) (.cells #[.int .i64 0, .slice none 0 0, .slice none 0 0, .slice none 0 0, .int .i64 0, .int .i64 0, .int .u64 0] 30)), hSK.2.2.1.below (balloc (bref _) (.cells #[.int .i64 0, .slice none 0 0, .slice none 0 0, .slice none 0 0, .int .i64 0, .int .i64 0, .int .u64 0] 30)), bstep hSK.2.2.2 (balloc (bref _) (.cells #[.int .i64 0, .slice none 0 0, .slice none 0 0, .slice none 0 0, .int .i64 0, .int .i64 0, .int .u64 0] 30))⟩)
          have HQ := Lib.hid (show HasB wK.heap.size (.cells #[.int .i64 0, .slice none 0 0, .slice none 0 0, .slice none 0 0, .int .i64 0, .int .i64 0, .int .u64 0] 30 (0, 0)) (wK.alloc (.cells #[.int .i64 0, .slice none 0 0, .slice none 0 0, .slice none 0 0, .int .i64 0, .int .i64 0, .int .u64 0] 30)) from heap_alloc_new _ _)
          have hqs : wK.heap.size < (wK.alloc (.cells #[.int .i64 0, .slice none 0 0, .slice none 0 0, .slice none 0 0, .int .i64 0, .int .i64 0, .int .u64 0] 30)).heap.size := HQ.out.lt
          refine hK.out _ _ (Or.inr (fun _ => hSK)) ?_
          clear hK K
          try simp only [Act.put, List.setIfInBounds_toArray, List.set_cons_zero, List.set_cons_succ]
          obtain ⟨q, hqq⟩ : ∃ q, wK.heap.size = q := ⟨_, rfl⟩
          rw [hqq] at HQ hqs hgq ⊢
          generalize (wK.alloc (.cells #[.int .i64 0, .slice none 0 0, .slice none 0 0, .slice none 0 0, .int .i64 0, .int .i64 0, .int .u64 0] 30)) = W9 at *
          clear hqq
          refine one_f (i := 2) (by kernel_rfl) rfl (fun K hK => ?_)
          go_simp
          refine (HC.out _ hSK.2.2.1).mono ?_
          rintro e wK ⟨va9, vl9, vo9, rfl, hl9, hbK⟩
          obtain ⟨A9, c9, B9, d9, C9, e9, rfl, rfl, rfl, _⟩ := hl9.form
          go_wp2_with fail
          replace hSK := (show Cs [(⟨lb + 1, 0, none⟩, .int .i64 0), (⟨lb + 1, 1, none⟩, .slice (some ⟨w.heap.size, 0, none⟩) 2 2), (⟨lb + 1, 2, none⟩, .slice (some ⟨lb, 0, none⟩) 1 1), (⟨lb + 1, 3, none⟩, .slice none 0 0), (⟨lb + 1, 4, none⟩, .int .i64 0), (⟨lb + 1, 5, none⟩, .int .i64 0), (⟨lb + 1, 6, none⟩, .int .u64 0)] wK ∧ HasB (lb + 1) (.cells #[.int .i64 0, .slice (some ⟨w.heap.size, 0, none⟩) 2 2, .slice (some ⟨lb, 0, none⟩) 1 1, .slice none 0 0, .int .i64 0, .int .i64 0, .int .u64 0] 30 (0, 0)) wK ∧ LedAt (fun b => b < lb + 1) (wK) (.slice (some ⟨w.heap.size, 0, none⟩) 2 2) (.slice (some ⟨lb, 0, none⟩) 1 1) (.slice none 0 0) g37 ∧ Below w.heap.size w wK from ⟨Cs.below hSK.1 hbK, hSK.2.1.below hbK, hSK.2.2.1.below hbK, bstep hSK.2.2.2 hbK⟩)
          have HX := Lib.hid (hl9.both (Q := fun b => b ≠ q) (Nat.le_refl _) (fun _ _ _ => rfl) (fun b _ hp => Nat.ne_of_gt (Nat.lt_of_lt_of_le hqs hp)))
          have HQ2 := Lib.hid (HQ.out.below hbK)
          clear HQ
          have HQ := HQ2
          clear HQ2 hqs
          refine hK.out _ _ (Or.inr (fun _ => hSK)) ?_
          clear hK K hbK hl9
          try simp only [Act.put, List.setIfInBounds_toArray, List.set_cons_zero, List.set_cons_succ]
          refine take_y (some 19) (i := 3) (v := ?_) rfl rfl (by kernel_rfl) (by kernel_rfl) (by kernel_rfl) (fun _ _ _ h => h) (Or.inl ⟨by rfl, ?_⟩) ?_
          rotate_left
          · intro w _; go_simp; (try with_reducible rfl)
          try simp only [Act.put, List.setIfInBounds_toArray, List.set_cons_zero, List.set_cons_succ]
          refine take_y (some 23) (i := 4) (v := ?_) rfl rfl (by kernel_rfl) (by kernel_rfl) (by kernel_rfl) (fun _ _ _ h => h) (Or.inl ⟨by rfl, ?_⟩) ?_
          rotate_left
          · intro w _; go_simp; (try with_reducible rfl)
          try simp only [Act.put, List.setIfInBounds_toArray, List.set_cons_zero, List.set_cons_succ]
          refine take_y (some 24) (i := 5) (v := ?_) rfl rfl (by kernel_rfl) (by kernel_rfl) (by kernel_rfl) (fun _ _ _ h => h) (Or.inl ⟨by rfl, ?_⟩) ?_
          rotate_left
          · intro w _; go_simp; (try with_reducible rfl)
          try simp only [Act.put, List.setIfInBounds_toArray, List.set_cons_zero, List.set_cons_succ]
          have HG9 := Lib.hid (show HasB q (.cells #[.int .i64 0, .slice A9 (x37).accs.length c9, .slice B9 (x37).lines.length d9, .slice C9 (x37).offers.length e9, .int .i64 0, .int .i64 0, .int .u64 0] 30 (0, 0)) ((((((((wK).setCell ⟨q, 0, none⟩ (.int .i64 0)).setCell ⟨q, 1, none⟩ (.slice A9 (x37).accs.length c9)).setCell ⟨q, 2, none⟩ (.slice B9 (x37).lines.length d9)).setCell ⟨q, 3, none⟩ (.slice C9 (x37).offers.length e9)).setCell ⟨q, 4, none⟩ (.int .i64 0)).setCell ⟨q, 5, none⟩ (.int .i64 0)).setCell ⟨q, 6, none⟩ (.int .u64 0)) from set7 HQ.out)
          have HX9 := Lib.hid (led7 (q := q) (.int .i64 0) (.slice A9 (x37).accs.length c9) (.slice B9 (x37).lines.length d9) (.slice C9 (x37).offers.length e9) (.int .i64 0) (.int .i64 0) (.int .u64 0) HX.out (fun b h => h))
          have HL9 := Lib.hid (led7 (q := q) (.int .i64 0) (.slice A9 (x37).accs.length c9) (.slice B9 (x37).lines.length d9) (.slice C9 (x37).offers.length e9) (.int .i64 0) (.int .i64 0) (.int .u64 0) hSK.2.2.1 (fun b h => Nat.ne_of_lt (Nat.lt_trans h hgq)))
          have HB9 := Lib.hid (bel7 (q := q) (.int .i64 0) (.slice A9 (x37).accs.length c9) (.slice B9 (x37).lines.length d9) (.slice C9 (x37).offers.length e9) (.int .i64 0) (.int .i64 0) (.int .u64 0) hSK.2.2.2 (by omega))
          have HK9 := Lib.hid (show HasB (lb + 1) (.cells #[.int .i64 0, .slice (some ⟨w.heap.size, 0, none⟩) 2 2, .slice (some ⟨lb, 0, none⟩) 1 1, .slice none 0 0, .int .i64 0, .int .i64 0, .int .u64 0] 30 (0, 0)) ((((((((wK).setCell ⟨q, 0, none⟩ (.int .i64 0)).setCell ⟨q, 1, none⟩ (.slice A9 (x37).accs.length c9)).setCell ⟨q, 2, none⟩ (.slice B9 (x37).lines.length d9)).setCell ⟨q, 3, none⟩ (.slice C9 (x37).offers.length e9)).setCell ⟨q, 4, none⟩ (.int .i64 0)).setCell ⟨q, 5, none⟩ (.int .i64 0)).setCell ⟨q, 6, none⟩ (.int .u64 0)) from (heap7 (.int .i64 0) (.slice A9 (x37).accs.length c9) (.slice B9 (x37).lines.length d9) (.slice C9 (x37).offers.length e9) (.int .i64 0) (.int .i64 0) (.int .u64 0) (by omega)).trans hSK.2.1)
          obtain ⟨z_0, z_1, z_2, z_3, z_4, z_5, z_6, _⟩ := HQ.out.cs7
          have zf0 := HQ.out.fr 0
          have zf1 := HQ.out.fr 1
          have zf2 := HQ.out.fr 2
          have zf3 := HQ.out.fr 3
          have zf4 := HQ.out.fr 4
          have zf5 := HQ.out.fr 5
          have zf6 := HQ.out.fr 6
          refine one_f (i := 7) (by kernel_rfl) rfl (fun K hK => ?_)
          go_simp
          refine hK.out _ _ (Or.inl (by kernel_rfl)) ?_
          clear hK K z_0 z_1 z_2 z_3 z_4 z_5 z_6 zf0 zf1 zf2 zf3 zf4 zf5 zf6
          try simp only [Act.put, List.setIfInBounds_toArray, List.set_cons_zero, List.set_cons_succ]
          refine take_y (some 5) (i := 8) (v := ?_) rfl rfl (by kernel_rfl) (by kernel_rfl) (by kernel_rfl) (fun _ _ _ h => h) (Or.inl ⟨by rfl, ?_⟩) ?_
          rotate_left
          · intro w _; go_simp; (try with_reducible rfl)
          try simp only [Act.put, List.setIfInBounds_toArray, List.set_cons_zero, List.set_cons_succ]
          refine done_f (by kernel_rfl) ?_ _
          clear hSK
          go_wp2_with fail
          go_meet
          exact ⟨_, _, _, _, rfl, rfl, HG9, HX9, HK9, HL9, HB9⟩
      · skip
        go_simp
        have hgq : lb + 1 < wc.heap.size := hSK.2.1.lt
        replace hSK := (show Cs [(⟨lb + 1, 0, none⟩, .int .i64 0), (⟨lb + 1, 1, none⟩, .slice (some ⟨w.heap.size, 0, none⟩) 2 2), (⟨lb + 1, 2, none⟩, .slice (some ⟨lb, 0, none⟩) 1 1), (⟨lb + 1, 3, none⟩, .slice none 0 0), (⟨lb + 1, 4, none⟩, .int .i64 0), (⟨lb + 1, 5, none⟩, .int .i64 0), (⟨lb + 1, 6, none⟩, .int .u64 0)] (wc.alloc (.cells #[.int .i64 0, .slice none 0 0, .slice none 0 0, .slice none 0 0, .int .i64 0, .int .i64 0, .int .u64 0] 30)).drew ∧ HasB (lb + 1) (.cells #[.int .i64 0, .slice (some ⟨w.heap.size, 0, none⟩) 2 2, .slice (some ⟨lb, 0, none⟩) 1 1, .slice none 0 0, .int .i64 0, .int .i64 0, .int .u64 0] 30 (0, 0)) (wc.alloc (.cells #[.int .i64 0, .slice none 0 0, .slice none 0 0, .slice none 0 0, .int .i64 0, .int .i64 0, .int .u64 0] 30)).drew ∧ LedAt (fun b => b < lb + 1) ((wc.alloc (.cells #[.int .i64 0, .slice none 0 0, .slice none 0 0, .slice none 0 0, .int .i64 0, .int .i64 0, .int .u64 0] 30)).drew) (.slice (some ⟨w.heap.size, 0, none⟩) 2 2) (.slice (some ⟨lb, 0, none⟩) 1 1) (.slice none 0 0) g37 ∧ Below w.heap.size w (wc.alloc (.cells #[.int .i64 0, .slice none 0 0, .slice none 0 0, .slice none 0 0, .int .i64 0, .int .i64 0, .int .u64 0] 30)).drew from ⟨Cs.below hSK.1 (balloc (bref _) (.cells #[.int .i64 0, .slice none 0 0, .slice none 0 0, .slice none 0 0, .int .i64 0, .int .i64 0, .int .u64 0] 30)), hSK.2.1.below (balloc (bref _) (.cells #[.int .i64 0, .slice none 0 0, .slice none 0 0, .slice none 0 0, .int .i64 0, .int .i64 0, .int .u64 0] 30)), hSK.2.2.1.below (balloc (bref _) (.cells #[.int .i64 0, .slice none 0 0, .slice none 0 0, .slice none 0 0, .int .i64 0, .int .i64 0, .int .u64 0] 30)), bstep hSK.2.2.2 (balloc (bref _) (.cells #[.int .i64 0, .slice none 0 0, .slice none 0 0, .slice none 0 0, .int .i64 0, .int .i64 0, .int .u64 0] 30))⟩)
        have HQ := Lib.hid (show HasB wc.heap.size (.cells #[.int .i64 0, .slice none 0 0, .slice none 0 0, .slice none 0 0, .int .i64 0, .int .i64 0, .int .u64 0] 30 (0, 0)) (wc.alloc (.cells #[.int .i64 0, .slice none 0 0, .slice none 0 0, .slice none 0 0, .int .i64 0, .int .i64 0, .int .u64 0] 30)).drew from heap_alloc_new _ _)
        have hqs : wc.heap.size < (wc.alloc (.cells #[.int .i64 0, .slice none 0 0, .slice none 0 0, .slice none 0 0, .int .i64 0, .int .i64 0, .int .u64 0] 30)).drew.heap.size := HQ.out.lt
        refine hK.out _ _ (Or.inr (fun _ => hSK)) ?_
        clear hK K
        try simp only [Act.put, List.setIfInBounds_toArray, List.set_cons_zero, List.set_cons_succ]
        obtain ⟨q, hqq⟩ : ∃ q, wc.heap.size = q := ⟨_, rfl⟩
        rw [hqq] at HQ hqs hgq ⊢
        generalize (wc.alloc (.cells #[.int .i64 0, .slice none 0 0, .slice none 0 0, .slice none 0 0, .int .i64 0, .int .i64 0, .int .u64 0] 30)).drew = W9 at *
        clear hqq
        refine one_f (i := 1) (by kernel_rfl) rfl (fun K hK => ?_)
        go_simp
        refine (Usd_run _).mono ?_
        rintro e wK ⟨rfl, hbK⟩
        go_wp2_with fail
        replace hSK := (show Cs [(⟨lb + 1, 0, none⟩, .int .i64 0), (⟨lb + 1, 1, none⟩, .slice (some ⟨w.heap.size, 0, none⟩) 2 2), (⟨lb + 1, 2, none⟩, .slice (some ⟨lb, 0, none⟩) 1 1), (⟨lb + 1, 3, none⟩, .slice none 0 0), (⟨lb + 1, 4, none⟩, .int .i64 0), (⟨lb + 1, 5, none⟩, .int .i64 0), (⟨lb + 1, 6, none⟩, .int .u64 0)] wK ∧ HasB (lb + 1) (.cells #[.int .i64 0, .slice (some ⟨w.heap.size, 0, none⟩) 2 2, .slice (some ⟨lb, 0, none⟩) 1 1, .slice none 0 0, .int .i64 0, .int .i64 0, .int .u64 0] 30 (0, 0)) wK ∧ LedAt (fun b => b < lb + 1) (wK) (.slice (some ⟨w.heap.size, 0, none⟩) 2 2) (.slice (some ⟨lb, 0, none⟩) 1 1) (.slice none 0 0) g37 ∧ Below w.heap.size w wK from ⟨Cs.below hSK.1 hbK, hSK.2.1.below hbK, hSK.2.2.1.below hbK, bstep hSK.2.2.2 hbK⟩)
        have HQ2 := Lib.hid (HQ.out.below hbK)
        clear HQ
        have HQ := HQ2
        clear HQ2
        have hqs := Nat.lt_of_lt_of_le hqs hbK.size
        refine hK.out _ _ (Or.inr (fun _ => hSK)) ?_
        clear hK K hbK
        try simp only [Act.put, List.setIfInBounds_toArray, List.set_cons_zero, List.set_cons_succ]
        refine one_f (i := 2) (by kernel_rfl) rfl (fun K hK => ?_)
        go_simp
        refine (HC.out _ hSK.2.2.1).mono ?_
        rintro e wK ⟨va9, vl9, vo9, rfl, hl9, hbK⟩
        obtain ⟨A9, c9, B9, d9, C9, e9, rfl, rfl, rfl, _⟩ := hl9.form
        go_wp2_with fail
        replace hSK := (show Cs [(⟨lb + 1, 0, none⟩, .int .i64 0), (⟨lb + 1, 1, none⟩, .slice (some ⟨w.heap.size, 0, none⟩) 2 2), (⟨lb + 1, 2, none⟩, .slice (some ⟨lb, 0, none⟩) 1 1), (⟨lb + 1, 3, none⟩, .slice none 0 0), (⟨lb + 1, 4, none⟩, .int .i64 0), (⟨lb + 1, 5, none⟩, .int .i64 0), (⟨lb + 1, 6, none⟩, .int .u64 0)] wK ∧ HasB (lb + 1) (.cells #[.int .i64 0, .slice (some ⟨w.heap.size, 0, none⟩) 2 2, .slice (some ⟨lb, 0, none⟩) 1 1, .slice none 0 0, .int .i64 0, .int .i64 0, .int .u64 0] 30 (0, 0)) wK ∧ LedAt (fun b => b < lb + 1) (wK) (.slice (some ⟨w.heap.size, 0, none⟩) 2 2) (.slice (some ⟨lb, 0, none⟩) 1 1) (.slice none 0 0) g37 ∧ Below w.heap.size w wK from ⟨Cs.below hSK.1 hbK, hSK.2.1.below hbK, hSK.2.2.1.below hbK, bstep hSK.2.2.2 hbK⟩)
        have HX := Lib.hid (hl9.both (Q := fun b => b ≠ q) (Nat.le_refl _) (fun _ _ _ => rfl) (fun b _ hp => Nat.ne_of_gt (Nat.lt_of_lt_of_le hqs hp)))
        have HQ2 := Lib.hid (HQ.out.below hbK)
        clear HQ
        have HQ := HQ2
        clear HQ2 hqs
        refine hK.out _ _ (Or.inr (fun _ => hSK)) ?_
        clear hK K hbK hl9
        try simp only [Act.put, List.setIfInBounds_toArray, List.set_cons_zero, List.set_cons_succ]
        refine take_y (some 19) (i := 3) (v := ?_) rfl rfl (by kernel_rfl) (by kernel_rfl) (by kernel_rfl) (fun _ _ _ h => h) (Or.inl ⟨by rfl, ?_⟩) ?_
        rotate_left
        · intro w _; go_simp; (try with_reducible rfl)
        try simp only [Act.put, List.setIfInBounds_toArray, List.set_cons_zero, List.set_cons_succ]
        refine take_y (some 23) (i := 4) (v := ?_) rfl rfl (by kernel_rfl) (by kernel_rfl) (by kernel_rfl) (fun _ _ _ h => h) (Or.inl ⟨by rfl, ?_⟩) ?_
        rotate_left
        · intro w _; go_simp; (try with_reducible rfl)
        try simp only [Act.put, List.setIfInBounds_toArray, List.set_cons_zero, List.set_cons_succ]
        refine take_y (some 24) (i := 5) (v := ?_) rfl rfl (by kernel_rfl) (by kernel_rfl) (by kernel_rfl) (fun _ _ _ h => h) (Or.inl ⟨by rfl, ?_⟩) ?_
        rotate_left
        · intro w _; go_simp; (try with_reducible rfl)
        try simp only [Act.put, List.setIfInBounds_toArray, List.set_cons_zero, List.set_cons_succ]
        have HG9 := Lib.hid (show HasB q (.cells #[.int .i64 0, .slice A9 (x37).accs.length c9, .slice B9 (x37).lines.length d9, .slice C9 (x37).offers.length e9, .int .i64 0, .int .i64 0, .int .u64 0] 30 (0, 0)) ((((((((wK).setCell ⟨q, 0, none⟩ (.int .i64 0)).setCell ⟨q, 1, none⟩ (.slice A9 (x37).accs.length c9)).setCell ⟨q, 2, none⟩ (.slice B9 (x37).lines.length d9)).setCell ⟨q, 3, none⟩ (.slice C9 (x37).offers.length e9)).setCell ⟨q, 4, none⟩ (.int .i64 0)).setCell ⟨q, 5, none⟩ (.int .i64 0)).setCell ⟨q, 6, none⟩ (.int .u64 0)) from set7 HQ.out)
        have HX9 := Lib.hid (led7 (q := q) (.int .i64 0) (.slice A9 (x37).accs.length c9) (.slice B9 (x37).lines.length d9) (.slice C9 (x37).offers.length e9) (.int .i64 0) (.int .i64 0) (.int .u64 0) HX.out (fun b h => h))
        have HL9 := Lib.hid (led7 (q := q) (.int .i64 0) (.slice A9 (x37).accs.length c9) (.slice B9 (x37).lines.length d9) (.slice C9 (x37).offers.length e9) (.int .i64 0) (.int .i64 0) (.int .u64 0) hSK.2.2.1 (fun b h => Nat.ne_of_lt (Nat.lt_trans h hgq)))
        have HB9 := Lib.hid (bel7 (q := q) (.int .i64 0) (.slice A9 (x37).accs.length c9) (.slice B9 (x37).lines.length d9) (.slice C9 (x37).offers.length e9) (.int .i64 0) (.int .i64 0) (.int .u64 0) hSK.2.2.2 (by omega))
        have HK9 := Lib.hid (show HasB (lb + 1) (.cells #[.int .i64 0, .slice (some ⟨w.heap.size, 0, none⟩) 2 2, .slice (some ⟨lb, 0, none⟩) 1 1, .slice none 0 0, .int .i64 0, .int .i64 0, .int .u64 0] 30 (0, 0)) ((((((((wK).setCell ⟨q, 0, none⟩ (.int .i64 0)).setCell ⟨q, 1, none⟩ (.slice A9 (x37).accs.length c9)).setCell ⟨q, 2, none⟩ (.slice B9 (x37).lines.length d9)).setCell ⟨q, 3, none⟩ (.slice C9 (x37).offers.length e9)).setCell ⟨q, 4, none⟩ (.int .i64 0)).setCell ⟨q, 5, none⟩ (.int .i64 0)).setCell ⟨q, 6, none⟩ (.int .u64 0)) from (heap7 (.int .i64 0) (.slice A9 (x37).accs.length c9) (.slice B9 (x37).lines.length d9) (.slice C9 (x37).offers.length e9) (.int .i64 0) (.int .i64 0) (.int .u64 0) (by omega)).trans hSK.2.1)
        obtain ⟨z_0, z_1, z_2, z_3, z_4, z_5, z_6, _⟩ := HQ.out.cs7
        have zf0 := HQ.out.fr 0
        have zf1 := HQ.out.fr 1
        have zf2 := HQ.out.fr 2
        have zf3 := HQ.out.fr 3
        have zf4 := HQ.out.fr 4
        have zf5 := HQ.out.fr 5
        have zf6 := HQ.out.fr 6
        refine one_f (i := 7) (by kernel_rfl) rfl (fun K hK => ?_)
        go_simp
        refine hK.out _ _ (Or.inl (by kernel_rfl)) ?_
        clear hK K z_0 z_1 z_2 z_3 z_4 z_5 z_6 zf0 zf1 zf2 zf3 zf4 zf5 zf6
        try simp only [Act.put, List.setIfInBounds_toArray, List.set_cons_zero, List.set_cons_succ]
        refine take_y (some 5) (i := 8) (v := ?_) rfl rfl (by kernel_rfl) (by kernel_rfl) (by kernel_rfl) (fun _ _ _ h => h) (Or.inl ⟨by rfl, ?_⟩) ?_
        rotate_left
        · intro w _; go_simp; (try with_reducible rfl)
        try simp only [Act.put, List.setIfInBounds_toArray, List.set_cons_zero, List.set_cons_succ]
        refine done_f (by kernel_rfl) ?_ _
        clear hSK
        go_wp2_with fail
        go_meet
        exact ⟨_, _, _, _, rfl, rfl, HG9, HX9, HK9, HL9, HB9⟩
    case rest =>
      clear HG2 HE2 HB2 HC
      obtain ⟨q, A3, B3, C3, rfl, rfl, HQ3, HX3, HG3, HE3, HB3⟩ := hcut
      have HHE := Lib.hid (show ∀ W, LedAt (fun b => b ≠ q) W A3 B3 C3 x37 → Calls Try.prog 22 #[.agg #[.int .i64 0, A3, B3, C3, .int .i64 0, .int .i64 0, .int .u64 0], .int .i64 2, .agg #[.string (codeOf 1), .int .i64 (issOf 1)]] W fun e w' => e = .returned (.int .i64 4) ∧ Below W.heap.size W w' from fun W hW => by
        have h1 := theld_run _ x37 2 1 _ _ _ W (by omega) x37_w hW
        rw [show heldG x37 2 1 = 4 by decide] at h1
        exact h1)
      have HRO := Lib.hid (show ∀ W, LedAt (fun b => b < lb + 1) W (.slice (some ⟨w.heap.size, 0, none⟩) 2 2) (.slice (some ⟨lb, 0, none⟩) 1 1) (.slice none 0 0) g37 → Calls Try.prog 23 #[.agg #[.int .i64 0, .slice (some ⟨w.heap.size, 0, none⟩) 2 2, .slice (some ⟨lb, 0, none⟩) 1 1, .slice none 0 0, .int .i64 0, .int .i64 0, .int .u64 0], .int .i64 2, .agg #[.string (codeOf 1), .int .i64 (issOf 1)]] W fun e w' => e = .returned (.int .i64 4) ∧ Below W.heap.size W w' from fun W hW => by
        have h1 := troom_run _ g37 2 1 _ _ _ W (by omega) g37_w hW
        rw [show roomG g37 2 1 = 4 by decide] at h1
        exact h1)
      have HIS := Lib.hid (show ∀ W, LedAt (fun b => b ≠ q) W A3 B3 C3 x37 → Calls Try.prog 29 #[B3, .agg #[.string (codeOf 1), .int .i64 (issOf 1)]] W fun e w' => e = .returned (.int .i64 4) ∧ Below W.heap.size W w' from fun W hW => by
        have h1 := issued_run _ x37.lines 1 _ W (by omega) (fun k a ha => by
          have h9 := x37_w.lines.each k a ha
          exact ⟨h9.a2, h9.b0, by have h8 := h9.b1; have h7 := h9.m1; omega⟩) (by show 1 ≤ 60; omega) hW.l
        rw [show issT 1 x37.lines = 4 by decide] at h1
        exact h1)
      go_upto_region 4 with fail
      have hS : Cs [(⟨lb + 1, 0, none⟩, .int .i64 0), (⟨lb + 1, 1, none⟩, .slice (some ⟨w.heap.size, 0, none⟩) 2 2), (⟨lb + 1, 2, none⟩, .slice (some ⟨lb, 0, none⟩) 1 1), (⟨lb + 1, 3, none⟩, .slice none 0 0), (⟨lb + 1, 4, none⟩, .int .i64 0), (⟨lb + 1, 5, none⟩, .int .i64 0), (⟨lb + 1, 6, none⟩, .int .u64 0), (⟨q, 0, none⟩, .int .i64 0), (⟨q, 1, none⟩, A3), (⟨q, 2, none⟩, B3), (⟨q, 3, none⟩, C3), (⟨q, 4, none⟩, .int .i64 0), (⟨q, 5, none⟩, .int .i64 0), (⟨q, 6, none⟩, .int .u64 0)] (wc.drew) ∧ LedAt (fun b => b < lb + 1) (wc.drew) (.slice (some ⟨w.heap.size, 0, none⟩) 2 2) (.slice (some ⟨lb, 0, none⟩) 1 1) (.slice none 0 0) g37 ∧ LedAt (fun b => b ≠ q) (wc.drew) A3 B3 C3 x37 ∧ Below w.heap.size w (wc.drew) := ⟨Cs.app HG3.out.cs7.drew HQ3.out.cs7.drew, HE3.out.below (bdrew (bref _)), HX3.out.below (bdrew (bref _)), bdrew HB3.out⟩
      clear HG3 HQ3 HE3 HX3 HB3
      refine wp_region_held_drew (S := (fun W => Cs [(⟨lb + 1, 0, none⟩, .int .i64 0), (⟨lb + 1, 1, none⟩, .slice (some ⟨w.heap.size, 0, none⟩) 2 2), (⟨lb + 1, 2, none⟩, .slice (some ⟨lb, 0, none⟩) 1 1), (⟨lb + 1, 3, none⟩, .slice none 0 0), (⟨lb + 1, 4, none⟩, .int .i64 0), (⟨lb + 1, 5, none⟩, .int .i64 0), (⟨lb + 1, 6, none⟩, .int .u64 0), (⟨q, 0, none⟩, .int .i64 0), (⟨q, 1, none⟩, A3), (⟨q, 2, none⟩, B3), (⟨q, 3, none⟩, C3), (⟨q, 4, none⟩, .int .i64 0), (⟨q, 5, none⟩, .int .i64 0), (⟨q, 6, none⟩, .int .u64 0)] W ∧ LedAt (fun b => b < lb + 1) (W) (.slice (some ⟨w.heap.size, 0, none⟩) 2 2) (.slice (some ⟨lb, 0, none⟩) 1 1) (.slice none 0 0) g37 ∧ LedAt (fun b => b ≠ q) (W) A3 B3 C3 x37 ∧ Below w.heap.size w (W))) (by kernel_rfl) hS (fun hSK => ?_)
      clear hS
      refine take_d (some 25) (i := 0) (v := ?_) rfl rfl (by kernel_rfl) (by kernel_rfl) (by kernel_rfl) (fun _ _ _ h => h) (Or.inl ⟨by rfl, ?_⟩) (by assumption) ?_
      rotate_left
      · intro w hSw; (dsimp only [Cs] at hSw); go_simp; (try with_reducible rfl)
      try simp only [Act.put, List.setIfInBounds_toArray, List.set_cons_zero, List.set_cons_succ]
      refine take_d (some 26) (i := 1) (v := ?_) rfl rfl (by kernel_rfl) (by kernel_rfl) (by kernel_rfl) (fun _ _ _ h => h) (Or.inl ⟨by rfl, ?_⟩) (by assumption) ?_
      rotate_left
      · intro w hSw; (dsimp only [Cs] at hSw); go_simp; (try with_reducible rfl)
      try simp only [Act.put, List.setIfInBounds_toArray, List.set_cons_zero, List.set_cons_succ]
      refine take_d (some 27) (i := 2) (v := ?_) rfl rfl (by kernel_rfl) (by kernel_rfl) (by kernel_rfl) (fun _ _ _ h => h) (Or.inl ⟨by rfl, ?_⟩) (by assumption) ?_
      rotate_left
      · intro w hSw; (dsimp only [Cs] at hSw); go_simp; (try with_reducible rfl)
      try simp only [Act.put, List.setIfInBounds_toArray, List.set_cons_zero, List.set_cons_succ]
      refine take_d (some 28) (i := 3) (v := ?_) rfl rfl (by kernel_rfl) (by kernel_rfl) (by kernel_rfl) (fun _ _ _ h => h) (Or.inl ⟨by rfl, ?_⟩) (by assumption) ?_
      rotate_left
      · intro w hSw; (dsimp only [Cs] at hSw); go_simp; (try with_reducible rfl)
      try simp only [Act.put, List.setIfInBounds_toArray, List.set_cons_zero, List.set_cons_succ]
      refine take_d (some 29) (i := 4) (v := ?_) rfl rfl (by kernel_rfl) (by kernel_rfl) (by kernel_rfl) (fun _ _ _ h => h) (Or.inl ⟨by rfl, ?_⟩) (by assumption) ?_
      rotate_left
      · intro w hSw; (dsimp only [Cs] at hSw); go_simp; (try with_reducible rfl)
      try simp only [Act.put, List.setIfInBounds_toArray, List.set_cons_zero, List.set_cons_succ]
      refine take_d (some 30) (i := 5) (v := ?_) rfl rfl (by kernel_rfl) (by kernel_rfl) (by kernel_rfl) (fun _ _ _ h => h) (Or.inl ⟨by rfl, ?_⟩) (by assumption) ?_
      rotate_left
      · intro w hSw; (dsimp only [Cs] at hSw); go_simp; (try with_reducible rfl)
      try simp only [Act.put, List.setIfInBounds_toArray, List.set_cons_zero, List.set_cons_succ]
      refine take_d (some 31) (i := 6) (v := ?_) rfl rfl (by kernel_rfl) (by kernel_rfl) (by kernel_rfl) (fun _ _ _ h => h) (Or.inl ⟨by rfl, ?_⟩) (by assumption) ?_
      rotate_left
      · intro w hSw; (dsimp only [Cs] at hSw); go_simp; (try with_reducible rfl)
      try simp only [Act.put, List.setIfInBounds_toArray, List.set_cons_zero, List.set_cons_succ]
      refine take_d (some 32) (i := 7) (v := ?_) rfl rfl (by kernel_rfl) (by kernel_rfl) (by kernel_rfl) (fun _ _ _ h => h) (Or.inl ⟨by rfl, ?_⟩) (by assumption) ?_
      rotate_left
      · intro w hSw; (dsimp only [Cs] at hSw); go_simp; (try with_reducible rfl)
      try simp only [Act.put, List.setIfInBounds_toArray, List.set_cons_zero, List.set_cons_succ]
      refine wpAnyH_ready (rs := [8]) (by kernel_rfl) (by simp) ?_
      refine AllReadyH.cons rfl (fun K hK => ?_) AllReadyH.nil
      go_simp
      refine (Usd_run _).mono ?_
      rintro e wK ⟨rfl, hbK⟩
      go_wp2_with fail
      refine hK.out _ _ ?_ (fun hHeld => ?_)
      · exact ⟨Cs.below hSK.1 hbK, hSK.2.1.below hbK, hSK.2.2.1.below hbK, bstep hSK.2.2.2 hbK⟩
      clear hSK
      have hSK := hHeld
      clear hHeld
      clear hK K
      try simp only [Act.put, List.setIfInBounds_toArray, List.set_cons_zero, List.set_cons_succ]
      refine wpAnyH_ready (rs := [9]) (by kernel_rfl) (by simp) ?_
      refine AllReadyH.cons rfl (fun K hK => ?_) AllReadyH.nil
      go_simp
      refine (HHE.out _ hSK.2.2.1).mono ?_
      rintro e wK ⟨rfl, hbK⟩
      go_wp2_with fail
      refine hK.out _ _ ?_ (fun hHeld => ?_)
      · exact ⟨Cs.below hSK.1 hbK, hSK.2.1.below hbK, hSK.2.2.1.below hbK, bstep hSK.2.2.2 hbK⟩
      clear hSK
      have hSK := hHeld
      clear hHeld
      clear hK K
      try simp only [Act.put, List.setIfInBounds_toArray, List.set_cons_zero, List.set_cons_succ]
      refine take_d (some 35) (i := 10) (v := ?_) rfl rfl (by kernel_rfl) (by kernel_rfl) (by kernel_rfl) (fun _ _ _ h => h) (Or.inl ⟨by rfl, ?_⟩) (by assumption) ?_
      rotate_left
      · intro w hSw; (dsimp only [Cs] at hSw); go_simp; (try with_reducible rfl)
      try simp only [Act.put, List.setIfInBounds_toArray, List.set_cons_zero, List.set_cons_succ]
      refine take_d (some 36) (i := 11) (v := ?_) rfl rfl (by kernel_rfl) (by kernel_rfl) (by kernel_rfl) (fun _ _ _ h => h) (Or.inl ⟨by rfl, ?_⟩) (by assumption) ?_
      rotate_left
      · intro w hSw; (dsimp only [Cs] at hSw); go_simp; (try with_reducible rfl)
      try simp only [Act.put, List.setIfInBounds_toArray, List.set_cons_zero, List.set_cons_succ]
      refine take_d (some 37) (i := 12) (v := ?_) rfl rfl (by kernel_rfl) (by kernel_rfl) (by kernel_rfl) (fun _ _ _ h => h) (Or.inl ⟨by rfl, ?_⟩) (by assumption) ?_
      rotate_left
      · intro w hSw; (dsimp only [Cs] at hSw); go_simp; (try with_reducible rfl)
      try simp only [Act.put, List.setIfInBounds_toArray, List.set_cons_zero, List.set_cons_succ]
      refine take_d (some 38) (i := 13) (v := ?_) rfl rfl (by kernel_rfl) (by kernel_rfl) (by kernel_rfl) (fun _ _ _ h => h) (Or.inl ⟨by rfl, ?_⟩) (by assumption) ?_
      rotate_left
      · intro w hSw; (dsimp only [Cs] at hSw); go_simp; (try with_reducible rfl)
      try simp only [Act.put, List.setIfInBounds_toArray, List.set_cons_zero, List.set_cons_succ]
      refine wpAnyH_ready (rs := [14]) (by kernel_rfl) (by simp) ?_
      refine AllReadyH.cons rfl (fun K hK => ?_) AllReadyH.nil
      go_simp
      refine (Usd_run _).mono ?_
      rintro e wK ⟨rfl, hbK⟩
      go_wp2_with fail
      refine hK.out _ _ ?_ (fun hHeld => ?_)
      · exact ⟨Cs.below hSK.1 hbK, hSK.2.1.below hbK, hSK.2.2.1.below hbK, bstep hSK.2.2.2 hbK⟩
      clear hSK
      have hSK := hHeld
      clear hHeld
      clear hK K
      try simp only [Act.put, List.setIfInBounds_toArray, List.set_cons_zero, List.set_cons_succ]
      refine wpAnyH_ready (rs := [15]) (by kernel_rfl) (by simp) ?_
      refine AllReadyH.cons rfl (fun K hK => ?_) AllReadyH.nil
      go_simp
      refine (HRO.out _ hSK.2.1).mono ?_
      rintro e wK ⟨rfl, hbK⟩
      go_wp2_with fail
      refine hK.out _ _ ?_ (fun hHeld => ?_)
      · exact ⟨Cs.below hSK.1 hbK, hSK.2.1.below hbK, hSK.2.2.1.below hbK, bstep hSK.2.2.2 hbK⟩
      clear hSK
      have hSK := hHeld
      clear hHeld
      clear hK K
      try simp only [Act.put, List.setIfInBounds_toArray, List.set_cons_zero, List.set_cons_succ]
      refine take_d (some 41) (i := 16) (v := ?_) rfl rfl (by kernel_rfl) (by kernel_rfl) (by kernel_rfl) (fun _ _ _ h => h) (Or.inl ⟨by rfl, ?_⟩) (by assumption) ?_
      rotate_left
      · intro w hSw; (dsimp only [Cs] at hSw); go_simp; (try with_reducible rfl)
      try simp only [Act.put, List.setIfInBounds_toArray, List.set_cons_zero, List.set_cons_succ]
      refine take_d (some 42) (i := 17) (v := ?_) rfl rfl (by kernel_rfl) (by kernel_rfl) (by kernel_rfl) (fun _ _ _ h => h) (Or.inl ⟨by rfl, ?_⟩) (by assumption) ?_
      rotate_left
      · intro w hSw; (dsimp only [Cs] at hSw); go_simp; (try with_reducible rfl)
      try simp only [Act.put, List.setIfInBounds_toArray, List.set_cons_zero, List.set_cons_succ]
      refine take_d (some 43) (i := 18) (v := ?_) rfl rfl (by kernel_rfl) (by kernel_rfl) (by kernel_rfl) (fun _ _ _ h => h) (Or.inl ⟨by rfl, ?_⟩) (by assumption) ?_
      rotate_left
      · intro w hSw; (dsimp only [Cs] at hSw); go_simp; (try with_reducible rfl)
      try simp only [Act.put, List.setIfInBounds_toArray, List.set_cons_zero, List.set_cons_succ]
      refine take_d (some 44) (i := 19) (v := ?_) rfl rfl (by kernel_rfl) (by kernel_rfl) (by kernel_rfl) (fun _ _ _ h => h) (Or.inl ⟨by rfl, ?_⟩) (by assumption) ?_
      rotate_left
      · intro w hSw; (dsimp only [Cs] at hSw); go_simp; (try with_reducible rfl)
      try simp only [Act.put, List.setIfInBounds_toArray, List.set_cons_zero, List.set_cons_succ]
      refine take_d (some 45) (i := 20) (v := ?_) rfl rfl (by kernel_rfl) (by kernel_rfl) (by kernel_rfl) (fun _ _ _ h => h) (Or.inl ⟨by rfl, ?_⟩) (by assumption) ?_
      rotate_left
      · intro w hSw; (dsimp only [Cs] at hSw); go_simp; (try with_reducible rfl)
      try simp only [Act.put, List.setIfInBounds_toArray, List.set_cons_zero, List.set_cons_succ]
      refine wpAnyH_ready (rs := [21]) (by kernel_rfl) (by simp) ?_
      refine AllReadyH.cons rfl (fun K hK => ?_) AllReadyH.nil
      go_simp
      refine (Usd_run _).mono ?_
      rintro e wK ⟨rfl, hbK⟩
      go_wp2_with fail
      refine hK.out _ _ ?_ (fun hHeld => ?_)
      · exact ⟨Cs.below hSK.1 hbK, hSK.2.1.below hbK, hSK.2.2.1.below hbK, bstep hSK.2.2.2 hbK⟩
      clear hSK
      have hSK := hHeld
      clear hHeld
      clear hK K
      try simp only [Act.put, List.setIfInBounds_toArray, List.set_cons_zero, List.set_cons_succ]
      refine wpAnyH_ready (rs := [22]) (by kernel_rfl) (by simp) ?_
      refine AllReadyH.cons rfl (fun K hK => ?_) AllReadyH.nil
      go_simp
      refine (HIS.out _ hSK.2.2.1).mono ?_
      rintro e wK ⟨rfl, hbK⟩
      go_wp2_with fail
      refine hK.out _ _ ?_ (fun hHeld => ?_)
      · exact ⟨Cs.below hSK.1 hbK, hSK.2.1.below hbK, hSK.2.2.1.below hbK, bstep hSK.2.2.2 hbK⟩
      clear hSK
      have hSK := hHeld
      clear hHeld
      clear hK K
      try simp only [Act.put, List.setIfInBounds_toArray, List.set_cons_zero, List.set_cons_succ]
      refine take_d (some 48) (i := 23) (v := ?_) rfl rfl (by kernel_rfl) (by kernel_rfl) (by kernel_rfl) (fun _ _ _ h => h) (Or.inl ⟨by rfl, ?_⟩) (by assumption) ?_
      rotate_left
      · intro w hSw; (dsimp only [Cs] at hSw); go_simp; (try with_reducible rfl)
      try simp only [Act.put, List.setIfInBounds_toArray, List.set_cons_zero, List.set_cons_succ]
      refine take_d (some 49) (i := 24) (v := ?_) rfl rfl (by kernel_rfl) (by kernel_rfl) (by kernel_rfl) (fun _ _ _ h => h) (Or.inl ⟨by rfl, ?_⟩) (by assumption) ?_
      rotate_left
      · intro w hSw; (dsimp only [Cs] at hSw); go_simp; (try with_reducible rfl)
      try simp only [Act.put, List.setIfInBounds_toArray, List.set_cons_zero, List.set_cons_succ]
      refine take_d (some 0) (i := 25) (v := ?_) rfl rfl (by kernel_rfl) (by kernel_rfl) (by kernel_rfl) (fun _ _ _ h => h) (Or.inl ⟨by rfl, ?_⟩) (by assumption) ?_
      rotate_left
      · intro w hSw; (dsimp only [Cs] at hSw); go_simp; (try with_reducible rfl)
      try simp only [Act.put, List.setIfInBounds_toArray, List.set_cons_zero, List.set_cons_succ]
      refine wpAnyH_done (by kernel_rfl) ?_ _
      have HB9 := Lib.hid hSK.2.2.2
      clear hSK
      go_wp2_with fail
      go_ret
      exact ⟨rfl, HB9.out⟩

end Go.Proofs.Ytfmdnhhdjjndbaa
