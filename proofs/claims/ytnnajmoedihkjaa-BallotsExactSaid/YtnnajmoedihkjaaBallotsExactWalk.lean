/- The walk of BallotsExact. -/
import Derived.Test.YtnnajmoedihkjaaBx4
import Derived.Test.YtnnajmoedihkjaaLow
import Derived.Test.YtnnajmoedihkjaaLess35
import Derived.Test.YtnnajmoedihkjaaHeldF
namespace Go.Proofs.Ytnnajmoedihkjaa
set_option linter.unusedVariables false
set_option linter.unusedSimpArgs false
open Go.RowKit

theorem grown_cellB {W W' : World} {sb : Nat} (hg : W.grownBy W' (some sb)) {p : Addr} {v : Value} (h : W.cell? p = some v) (hp : p.block ≠ sb) : W'.cell? p = some v :=
  (World.cell?_of_block (hg.block _ (cell_lt h) (fun e => hp (Option.some.inj e)))).trans h
theorem IsRow.below {k : IntKind} {w w' : World} {a : Option Addr} {len cap : Nat} {zs : List Int} (h : IsRow k w a len cap zs) (hb : Below w.heap.size w w') : IsRow k w' a len cap zs := by
  rcases h with h | ⟨x, h1, h2, h3, h4, h5, h6⟩
  · exact .inl h
  · exact .inr ⟨x, h1, h2, h3, h4, fun i hi => (hb.cell (cell_lt (h5 i hi))).trans (h5 i hi), h6⟩
theorem shX_len {L : List (Int × ByteArray)} (h : shX L = true) : L.length ≤ 30 := by
  unfold shX at h
  rw [Bool.and_eq_true] at h
  exact of_decide_eq_true h.2
theorem encB_len (x : Int × ByteArray) : (encB x).length = 2 := rfl
theorem row_alloc' (w : World) (L : List (Int × ByteArray)) (xs : Array Value) (t : TypeId) (hx : xs.toList = flatS encB L) {n : Nat} (hn : L.length = n) (hm : n ≤ 1000) :
    RowAt 2 encB (fun b => b = w.heap.size) (w.alloc (.cells xs t)) (.slice (some ⟨w.heap.size, 0, none⟩) n n) L := by
  subst hn
  refine ⟨_, _, rfl, Nat.le_refl _, by unfold maxLen; omega, fun k x hk => ⟨w.heap.size, 0, rfl, rfl, by simp, fun j u hu => ?_⟩⟩
  rw [show 0 + k * 2 + j = k * 2 + j by omega, row_new w _ _ _]
  have := flatS_get encB_len L k x j u hk hu
  rw [← hx] at this
  simpa using this
theorem row_alloc (w : World) (L : List (Int × ByteArray)) (xs : Array Value) (t : TypeId) (hx : xs.toList = flatS encB L) {n : Nat} (hn : L.length = n) (hm : n ≤ 1000) :
    BRow (w.alloc (.cells xs t)) (.slice (some ⟨w.heap.size, 0, none⟩) n n) L := (row_alloc' w L xs t hx hn hm).imp (fun _ _ _ => trivial)
/-- The world of the loops: the source, the list. -/
structure BST (w : World) (sb lb : Nat) (L : List (Int × ByteArray)) (W : World) : Prop where
  src : SrcOk W sb
  row : RowAt 2 encB (fun b => sb < b) W (.slice (some ⟨lb, 0, none⟩) 7 7) L
  bel : Below w.heap.size w W
theorem BST.below {w : World} {sb lb : Nat} {L : List (Int × ByteArray)} {W W' : World} (h : BST w sb lb L W) (hb : Below W.heap.size W W') : BST w sb lb L W' := ⟨h.src.below hb, h.row.below hb, bstep h.bel hb⟩
theorem BST.alloc {w : World} {sb lb : Nat} {L : List (Int × ByteArray)} {W : World} (h : BST w sb lb L W) (q : Obj) : BST w sb lb L (W.alloc q) := h.below (balloc (bref _) _)
theorem BST.grown {w : World} {sb lb : Nat} {L : List (Int × ByteArray)} {W W' : World} (h : BST w sb lb L W) (hs : SrcOk W' sb) (hg : W.grownBy W' (some sb)) (hw : w.heap.size ≤ sb) : BST w sb lb L W' :=
  ⟨hs, h.row.both hg.size (fun k hk hp => hg.block k hk (fun e => by
    have e2 := Option.some.inj e
    have hp2 : sb < k := hp
    omega)) (fun _ _ h => h), Below.grown h.bel hg h.bel.size (fun j hj => by cases hj; exact hw)⟩
set_option maxHeartbeats 1000000 in
theorem Odd_run2 (w : World) (sb : Nat) (hs : SrcOk w sb) :
    Calls Try.prog 11 #[.pointer (some ⟨sb, 0, none⟩)] w fun e w' => ∃ o : Int, o ≤ 9223372036854775807 ∧ e = .returned (.int .i64 o) ∧ SrcOk w' sb ∧ w.grownBy w' (some sb) := by
  have HS := Lib.hid hs
  have hl := hs.lt
  clear hs
  have HOB := Lib.hid (show ∀ j, ([-1, 0, 1, 2, 9223372036854775807, -9223372036854775808, 1000000000000, 1000000000001, 1000000, 1000001, 1000000, 1000, 1001, 1000, 1001] : List Int).getD j 0 ≤ 9223372036854775807 from fun j => by
    match j with
    | 0 | 1 | 2 | 3 | 4 | 5 | 6 | 7 | 8 | 9 | 10 | 11 | 12 | 13 | 14 => decide
    | n + 15 =>
      rw [List.getD_eq_getElem?_getD, List.getElem?_eq_none (by simp)]
      simp)
  go_enter Try.func11, Try.ntmps11
  go_wp2_with fail
  refine (Pick_run _ sb w.heap.size [-1, 0, 1, 2, 9223372036854775807, -9223372036854775808, 1000000000000, 1000000000001, 1000000, 1000001, 1000000, 1000, 1001, 1000, 1001] 15 rfl (by omega) (by omega) ?_ (by omega) (HS.out.alloc _)).mono ?_
  · intro j hj
    rw [row_at _ _ _ _ _ rfl]
    match j, hj with
    | 0, _ | 1, _ | 2, _ | 3, _ | 4, _ | 5, _ | 6, _ | 7, _ | 8, _ | 9, _ | 10, _ | 11, _ | 12, _ | 13, _ | 14, _ => rfl
  · rintro e w1 ⟨j, hj, rfl, hs1, hg1⟩
    have HS1 := Lib.hid hs1
    have HG1 := Lib.hid (grown_trans (grown_below (balloc (bref w) _)) hg1)
    have HO1 := Lib.hid (HOB.out j)
    generalize ([-1, 0, 1, 2, 9223372036854775807, -9223372036854775808, 1000000000000, 1000000000001, 1000000, 1000001, 1000000, 1000, 1001, 1000, 1001] : List Int).getD j 0 = o at *
    clear hs1 hg1 HOB
    go_wp2_with fail
    go_ret
    exact ⟨o, HO1.out, rfl, HS1.out, HG1.out⟩

set_option maxRecDepth 100000 in
set_option maxHeartbeats 8000000 in
theorem walkBallotsExact (a0 : Option Addr) (len0 cap0 : Nat) (z0 : List Int) (v1 : Value) (L1 : List (Int × ByteArray)) (i2 : Int) (B2 : ByteArray) (i3 : Int) (B3 : ByteArray) (i4 : Int) (B4 : ByteArray) (a5 : Int) (w : World) (w0 : IsRow .i64 w a0 len0 cap0 z0) (w1 : IsList w v1 L1) (w5 : (Lit.int .i64 a5).wf = true) :
    Calls Try.prog 3 #[.slice a0 len0 cap0, v1, .agg #[.int .i64 i2, .string B2], .agg #[.int .i64 i3, .string B3], .agg #[.int .i64 i4, .string B4], .int .i64 a5] w fun e w' => e = .returned (.bool true) ∧ Below w.heap.size w w' := by
  have HR0 := Lib.hid (w0.below (balloc (balloc (balloc (bref w) (.cells #[.int .i64 i2, .string B2] 25)) (.cells #[.int .i64 i3, .string B3] 25)) (.cells #[.int .i64 i4, .string B4] 25)))
  have HL0 := Lib.hid (RowAt.below w1 (balloc (balloc (balloc (bref w) (.cells #[.int .i64 i2, .string B2] 25)) (.cells #[.int .i64 i3, .string B3] 25)) (.cells #[.int .i64 i4, .string B4] 25)))
  have HB0 := Lib.hid (balloc (balloc (balloc (bref w) (.cells #[.int .i64 i2, .string B2] 25)) (.cells #[.int .i64 i3, .string B3] 25)) (.cells #[.int .i64 i4, .string B4] 25))
  have HX0 := Lib.hid (show BalX (((w.alloc (.cells #[.int .i64 i2, .string B2] 25)).alloc (.cells #[.int .i64 i3, .string B3] 25)).alloc (.cells #[.int .i64 i4, .string B4] 25)) w.heap.size i2 B2 from ((BalX.new w i2 B2).alloc _).alloc _)
  have hy := BalX.new (w.alloc (.cells #[.int .i64 i2, .string B2] 25)) i3 B3
  rw [show (w.alloc (.cells #[.int .i64 i2, .string B2] 25)).heap.size = w.heap.size + 1 by simp] at hy
  have HY0 := Lib.hid (show BalX (((w.alloc (.cells #[.int .i64 i2, .string B2] 25)).alloc (.cells #[.int .i64 i3, .string B3] 25)).alloc (.cells #[.int .i64 i4, .string B4] 25)) (w.heap.size + 1) i3 B3 from hy.alloc _)
  have hz := BalX.new ((w.alloc (.cells #[.int .i64 i2, .string B2] 25)).alloc (.cells #[.int .i64 i3, .string B3] 25)) i4 B4
  rw [show ((w.alloc (.cells #[.int .i64 i2, .string B2] 25)).alloc (.cells #[.int .i64 i3, .string B3] 25)).heap.size = w.heap.size + 2 by simp] at hz
  have HZ0 := Lib.hid (show BalX (((w.alloc (.cells #[.int .i64 i2, .string B2] 25)).alloc (.cells #[.int .i64 i3, .string B3] 25)).alloc (.cells #[.int .i64 i4, .string B4] 25)) (w.heap.size + 2) i4 B4 from hz)
  have ha5 : a5 ≤ 9223372036854775807 := (bounds_i64 w5).2
  obtain ⟨A1, c1, rfl, hcc1, hmm1⟩ := w1.slice
  have HSH := Lib.hid (fun W hW => short_x L1 (.slice A1 L1.length c1) W hW)
  obtain ⟨s1, hs1⟩ : ∃ s, shX L1 = s := ⟨_, rfl⟩
  rw [hs1] at HSH
  have HS1 := Lib.hid hs1
  obtain ⟨L3, hL3⟩ : ∃ L : List (Int × ByteArray), [(i2, B2), (i3, B3), (i4, B4)] = L := ⟨_, rfl⟩
  have HL3 := Lib.hid hL3
  obtain ⟨s2, hs2⟩ : ∃ s, shX L3 = s := ⟨_, rfl⟩
  have HS2 := Lib.hid hs2
  obtain ⟨n1, hn1⟩ : ∃ n, L1.length = n := ⟨_, rfl⟩
  have HN1 := Lib.hid hn1
  rw [hn1] at HL0 HSH hcc1 ⊢
  clear hy hz hs1 hs2 hL3 hn1 w0 w1 w5
  go_enter Try.func3, Try.ntmps3
  go_upto_region 1 with fail
  have hz3 : (((w.alloc (.cells #[.int .i64 i2, .string B2] 25)).alloc (.cells #[.int .i64 i3, .string B3] 25)).alloc (.cells #[.int .i64 i4, .string B4] 25)).heap.size = w.heap.size + 3 := by simp
  have hsz : w.heap.size + 3 ≤ (((w.alloc (.cells #[.int .i64 i2, .string B2] 25)).alloc (.cells #[.int .i64 i3, .string B3] 25)).alloc (.cells #[.int .i64 i4, .string B4] 25)).heap.size := Nat.le_of_eq hz3.symm
  clear hz3
  generalize ((w.alloc (.cells #[.int .i64 i2, .string B2] 25)).alloc (.cells #[.int .i64 i3, .string B3] 25)).alloc (.cells #[.int .i64 i4, .string B4] 25) = W0 at *
  go_wp2_with fail
  refine (HSH.out _ HL0.out).mono ?_
  rintro e W1 ⟨rfl, hb1⟩
  have HR1 := Lib.hid (HR0.out.below hb1)
  have HL1' := Lib.hid (HL0.out.below hb1)
  have HB1 := Lib.hid (bstep HB0.out hb1)
  have HX1 := Lib.hid (HX0.out.below hb1)
  have HY1 := Lib.hid (HY0.out.below hb1)
  have HZ1 := Lib.hid (HZ0.out.below hb1)
  have hsz1 : w.heap.size + 3 ≤ W1.heap.size := Nat.le_trans hsz hb1.size
  clear hb1 HR0 HL0 HB0 HX0 HY0 HZ0 hsz
  rcases (show s1 = false ∨ s1 = true by cases s1 <;> simp) with h1 | h1
  · subst h1
    go_wp2_with fail
    refine (sane23 _).mono ?_
    rintro e W2 ⟨rfl, hb2⟩
    have HB2 := Lib.hid (bstep HB1.out hb2)
    clear hb2
    go_wp2_with fail
    go_ret
    exact ⟨rfl, HB2.out⟩
  subst h1
  have HN30 := Lib.hid (shX_len HS1.out)
  obtain ⟨x0, x1⟩ := HX1.out.cs
  obtain ⟨y0, y1⟩ := HY1.out.cs
  obtain ⟨z0', z1'⟩ := HZ1.out.cs
  have HBA := Lib.hid (balloc (bref W1) (.cells #[.int .i64 i2, .string B2, .int .i64 i3, .string B3, .int .i64 i4, .string B4] 25))
  have HRW := Lib.hid (show BRow (W1.alloc (.cells #[.int .i64 i2, .string B2, .int .i64 i3, .string B3, .int .i64 i4, .string B4] 25)) (.slice (some ⟨W1.heap.size, 0, none⟩) 3 3) L3 from by
    rw [← HL3.out]
    exact row_alloc W1 [(i2, B2), (i3, B3), (i4, B4)] #[.int .i64 i2, .string B2, .int .i64 i3, .string B3, .int .i64 i4, .string B4] 25 rfl (by simp) (by decide))
  go_wp2_with fail
  refine (short_x L3 _ _ HRW.out).mono ?_
  rintro e W2 ⟨rfl, hb2⟩
  rw [HS2.out]
  have hb := bstep HBA.out hb2
  have HR2 := Lib.hid (HR1.out.below hb)
  have HL2 := Lib.hid (HL1'.out.below hb)
  have HB2 := Lib.hid (bstep HB1.out hb)
  have HX2 := Lib.hid (HX1.out.below hb)
  have HY2 := Lib.hid (HY1.out.below hb)
  have HZ2 := Lib.hid (HZ1.out.below hb)
  have hsz2 : w.heap.size + 3 ≤ W2.heap.size := Nat.le_trans hsz1 hb.size
  clear hb hb2 HR1 HL1' HB1 HX1 HY1 HZ1 hsz1 x0 x1 y0 y1 z0' z1' HBA HRW
  rcases (show s2 = false ∨ s2 = true by cases s2 <;> simp) with h1 | h1
  · subst h1
    go_wp2_with fail
    refine (sane23 _).mono ?_
    rintro e W3 ⟨rfl, hb2⟩
    have HB3 := Lib.hid (bstep HB2.out hb2)
    clear hb2
    go_wp2_with fail
    go_ret
    exact ⟨rfl, HB3.out⟩
  subst h1
  go_wp2_with fail
  refine (New_run _ _ _ _ _ HR2.out).mono ?_
  rintro e v3 ⟨rfl, hs3, hb3⟩
  have HS3 := Lib.hid hs3
  have HL4 := Lib.hid (HL2.out.below hb3)
  have HB3 := Lib.hid (bstep HB2.out hb3)
  have HX3 := Lib.hid (HX2.out.below hb3)
  have HY3 := Lib.hid (HY2.out.below hb3)
  have HZ3 := Lib.hid (HZ2.out.below hb3)
  obtain ⟨sb, hsb⟩ : ∃ x, W2.heap.size = x := ⟨_, rfl⟩
  rw [hsb] at HS3 hsz2 ⊢
  clear hs3 hb3 HR2 HL2 HB2 HX2 HY2 HZ2 hsb
  have HG1 := Lib.hid (fun W (hW : BRow W (.slice A1 n1 c1) L1) => greatest_x L1 (.slice A1 n1 c1) W (by have := HN30.out; omega) hW)
  have HG2 := Lib.hid (fun W (hW : BRow W (.slice A1 n1 c1) L1) => rgreatest_x L1 (.slice A1 n1 c1) W (by have := HN30.out; omega) hW)
  generalize (grX L1).1 = gc at *
  generalize (grX L1).2 = gB at *
  go_wp2_with fail
  refine (HG1.out _ HL4.out).mono ?_
  rintro e v4 ⟨rfl, hb4⟩
  have HL5 := Lib.hid (HL4.out.below hb4)
  go_wp2_with fail
  refine (HG2.out _ HL5.out).mono ?_
  rintro e v5 ⟨rfl, hb5⟩
  have hb := bstep hb4 hb5
  have HS5 := Lib.hid (HS3.out.below hb)
  have HB5 := Lib.hid (bstep HB3.out hb)
  have HX5 := Lib.hid (HX3.out.below hb)
  have HY5 := Lib.hid (HY3.out.below hb)
  have HZ5 := Lib.hid (HZ3.out.below hb)
  clear hb hb4 hb5 HS3 HL4 HL5 HB3 HX3 HY3 HZ3
  go_upto_region 6 with fail
  have hSK : Cs [(⟨w.heap.size, 0, none⟩, .int .i64 i2), (⟨w.heap.size, 1, none⟩, .string B2), (⟨w.heap.size + 1, 0, none⟩, .int .i64 i3), (⟨w.heap.size + 1, 1, none⟩, .string B3), (⟨w.heap.size + 2, 0, none⟩, .int .i64 i4), (⟨w.heap.size + 2, 1, none⟩, .string B4)] v5.drew ∧ SrcOk v5.drew sb ∧ Below w.heap.size w v5.drew := ⟨⟨HX5.out.cs.1, HX5.out.cs.2, HY5.out.cs.1, HY5.out.cs.2, HZ5.out.cs.1, HZ5.out.cs.2, trivial⟩, HS5.out.drew, bdrew HB5.out⟩
  clear HX5 HY5 HZ5 HS5 HB5
  refine region_f (fun W => Cs [(⟨w.heap.size, 0, none⟩, .int .i64 i2), (⟨w.heap.size, 1, none⟩, .string B2), (⟨w.heap.size + 1, 0, none⟩, .int .i64 i3), (⟨w.heap.size + 1, 1, none⟩, .string B3), (⟨w.heap.size + 2, 0, none⟩, .int .i64 i4), (⟨w.heap.size + 2, 1, none⟩, .string B4)] W ∧ SrcOk W sb ∧ Below w.heap.size w W) [11] (by kernel_rfl) ?_
  refine take_f (some 42) [11, 12] (i := 0) (v := ?_) rfl rfl (by kernel_rfl) (by kernel_rfl) (by kernel_rfl) (by kernel_rfl) (fun _ _ _ h => h) (Or.inl ⟨by rfl, ?_⟩) (by assumption) ?_
  rotate_left
  · intro w hSw; (dsimp only [Cs] at hSw); go_simp; (try with_reducible rfl)
  try simp only [Act.put, List.setIfInBounds_toArray, List.set_cons_zero, List.set_cons_succ]
  refine take_f (some 43) [11, 12] (i := 1) (v := ?_) rfl rfl (by kernel_rfl) (by kernel_rfl) (by kernel_rfl) (by kernel_rfl) (fun _ _ _ h => h) (Or.inl ⟨by rfl, ?_⟩) (by assumption) ?_
  rotate_left
  · intro w hSw; (dsimp only [Cs] at hSw); go_simp; (try with_reducible rfl)
  try simp only [Act.put, List.setIfInBounds_toArray, List.set_cons_zero, List.set_cons_succ]
  refine take_f (some 44) [11, 12] (i := 2) (v := ?_) rfl rfl (by kernel_rfl) (by kernel_rfl) (by kernel_rfl) (by kernel_rfl) (fun _ _ _ h => h) (Or.inl ⟨by rfl, ?_⟩) (by assumption) ?_
  rotate_left
  · intro w hSw; (dsimp only [Cs] at hSw); go_simp; (try with_reducible rfl)
  try simp only [Act.put, List.setIfInBounds_toArray, List.set_cons_zero, List.set_cons_succ]
  refine take_y (some 45) (i := 3) (v := ?_) rfl rfl (by kernel_rfl) (by kernel_rfl) (by kernel_rfl) (fun _ _ _ h => h) (Or.inl ⟨by rfl, ?_⟩) ?_
  rotate_left
  · intro w _; go_simp; (try with_reducible rfl)
  try simp only [Act.put, List.setIfInBounds_toArray, List.set_cons_zero, List.set_cons_succ]
  refine take_y (some 47) (i := 5) (v := ?_) rfl rfl (by kernel_rfl) (by kernel_rfl) (by kernel_rfl) (fun _ _ _ h => h) (Or.inl ⟨by rfl, ?_⟩) ?_
  rotate_left
  · intro w _; go_simp; (try with_reducible rfl)
  try simp only [Act.put, List.setIfInBounds_toArray, List.set_cons_zero, List.set_cons_succ]
  refine take_y (some 49) (i := 7) (v := ?_) rfl rfl (by kernel_rfl) (by kernel_rfl) (by kernel_rfl) (fun _ _ _ h => h) (Or.inl ⟨by rfl, ?_⟩) ?_
  rotate_left
  · intro w _; go_simp; (try with_reducible rfl)
  try simp only [Act.put, List.setIfInBounds_toArray, List.set_cons_zero, List.set_cons_succ]
  refine take_y (some 52) (i := 10) (v := ?_) rfl rfl (by kernel_rfl) (by kernel_rfl) (by kernel_rfl) (fun _ _ _ h => h) (Or.inl ⟨by rfl, ?_⟩) ?_
  rotate_left
  · intro w _; go_simp; (try with_reducible rfl)
  try simp only [Act.put, List.setIfInBounds_toArray, List.set_cons_zero, List.set_cons_succ]
  refine one_f (i := 4) (by kernel_rfl) rfl (fun K hK => ?_)
  go_simp
  go_at_call 10; refine (Ballot_run _ _ hSK.2.1).mono ?_; rintro e wK ⟨g1, j1, _, _, _, _, _, rfl, hsK, hgK⟩
  go_wp2_with fail
  have hSK9 := (show Cs [(⟨w.heap.size, 0, none⟩, .int .i64 i2), (⟨w.heap.size, 1, none⟩, .string B2), (⟨w.heap.size + 1, 0, none⟩, .int .i64 i3), (⟨w.heap.size + 1, 1, none⟩, .string B3), (⟨w.heap.size + 2, 0, none⟩, .int .i64 i4), (⟨w.heap.size + 2, 1, none⟩, .string B4)] wK ∧ SrcOk wK sb ∧ Below w.heap.size w wK from ⟨⟨(grown_cellB hgK hSK.1.1 (by show w.heap.size ≠ sb; omega)), (grown_cellB hgK hSK.1.2.1 (by show w.heap.size ≠ sb; omega)), (grown_cellB hgK hSK.1.2.2.1 (by show w.heap.size + 1 ≠ sb; omega)), (grown_cellB hgK hSK.1.2.2.2.1 (by show w.heap.size + 1 ≠ sb; omega)), (grown_cellB hgK hSK.1.2.2.2.2.1 (by show w.heap.size + 2 ≠ sb; omega)), (grown_cellB hgK hSK.1.2.2.2.2.2.1 (by show w.heap.size + 2 ≠ sb; omega)), trivial⟩, hsK, Below.grown hSK.2.2 hgK hSK.2.2.size (fun j hj => by cases hj; omega)⟩)
  refine hK.out _ _ (Or.inr (fun _ => hSK9)) ?_
  clear hK K hSK hsK hgK
  have hSK := hSK9
  clear hSK9
  try simp only [Act.put, List.setIfInBounds_toArray, List.set_cons_zero, List.set_cons_succ]
  refine one_f (i := 6) (by kernel_rfl) rfl (fun K hK => ?_)
  go_simp
  go_at_call 10; refine (Ballot_run _ _ hSK.2.1).mono ?_; rintro e wK ⟨g2, j2, _, _, _, _, _, rfl, hsK, hgK⟩
  go_wp2_with fail
  have hSK9 := (show Cs [(⟨w.heap.size, 0, none⟩, .int .i64 i2), (⟨w.heap.size, 1, none⟩, .string B2), (⟨w.heap.size + 1, 0, none⟩, .int .i64 i3), (⟨w.heap.size + 1, 1, none⟩, .string B3), (⟨w.heap.size + 2, 0, none⟩, .int .i64 i4), (⟨w.heap.size + 2, 1, none⟩, .string B4)] wK ∧ SrcOk wK sb ∧ Below w.heap.size w wK from ⟨⟨(grown_cellB hgK hSK.1.1 (by show w.heap.size ≠ sb; omega)), (grown_cellB hgK hSK.1.2.1 (by show w.heap.size ≠ sb; omega)), (grown_cellB hgK hSK.1.2.2.1 (by show w.heap.size + 1 ≠ sb; omega)), (grown_cellB hgK hSK.1.2.2.2.1 (by show w.heap.size + 1 ≠ sb; omega)), (grown_cellB hgK hSK.1.2.2.2.2.1 (by show w.heap.size + 2 ≠ sb; omega)), (grown_cellB hgK hSK.1.2.2.2.2.2.1 (by show w.heap.size + 2 ≠ sb; omega)), trivial⟩, hsK, Below.grown hSK.2.2 hgK hSK.2.2.size (fun j hj => by cases hj; omega)⟩)
  refine hK.out _ _ (Or.inr (fun _ => hSK9)) ?_
  clear hK K hSK hsK hgK
  have hSK := hSK9
  clear hSK9
  try simp only [Act.put, List.setIfInBounds_toArray, List.set_cons_zero, List.set_cons_succ]
  refine one_f (i := 8) (by kernel_rfl) rfl (fun K hK => ?_)
  go_simp
  go_at_call 11; refine (Odd_run _ _ hSK.2.1).mono ?_; rintro e wK ⟨o1, rfl, hsK, hgK⟩
  go_wp2_with fail
  have hSK9 := (show Cs [(⟨w.heap.size, 0, none⟩, .int .i64 i2), (⟨w.heap.size, 1, none⟩, .string B2), (⟨w.heap.size + 1, 0, none⟩, .int .i64 i3), (⟨w.heap.size + 1, 1, none⟩, .string B3), (⟨w.heap.size + 2, 0, none⟩, .int .i64 i4), (⟨w.heap.size + 2, 1, none⟩, .string B4)] wK ∧ SrcOk wK sb ∧ Below w.heap.size w wK from ⟨⟨(grown_cellB hgK hSK.1.1 (by show w.heap.size ≠ sb; omega)), (grown_cellB hgK hSK.1.2.1 (by show w.heap.size ≠ sb; omega)), (grown_cellB hgK hSK.1.2.2.1 (by show w.heap.size + 1 ≠ sb; omega)), (grown_cellB hgK hSK.1.2.2.2.1 (by show w.heap.size + 1 ≠ sb; omega)), (grown_cellB hgK hSK.1.2.2.2.2.1 (by show w.heap.size + 2 ≠ sb; omega)), (grown_cellB hgK hSK.1.2.2.2.2.2.1 (by show w.heap.size + 2 ≠ sb; omega)), trivial⟩, hsK, Below.grown hSK.2.2 hgK hSK.2.2.size (fun j hj => by cases hj; omega)⟩)
  refine hK.out _ _ (Or.inr (fun _ => hSK9)) ?_
  clear hK K hSK hsK hgK
  have hSK := hSK9
  clear hSK9
  try simp only [Act.put, List.setIfInBounds_toArray, List.set_cons_zero, List.set_cons_succ]
  refine take_y (some 51) (i := 9) (v := ?_) rfl rfl (by kernel_rfl) (by kernel_rfl) (by kernel_rfl) (fun _ _ _ h => h) (Or.inl ⟨by rfl, ?_⟩) ?_
  rotate_left
  · intro w _; go_simp; (try with_reducible rfl)
  try simp only [Act.put, List.setIfInBounds_toArray, List.set_cons_zero, List.set_cons_succ]
  refine one_f (i := 11) (by kernel_rfl) rfl (fun K hK => ?_)
  go_simp
  refine hK.out _ _ (Or.inl (by kernel_rfl)) ?_
  clear hK K
  try simp only [Act.put, List.setIfInBounds_toArray, List.set_cons_zero, List.set_cons_succ]
  refine take_y (some 14) (i := 12) (v := ?_) rfl rfl (by kernel_rfl) (by kernel_rfl) (by kernel_rfl) (fun _ _ _ h => h) (Or.inl ⟨by rfl, ?_⟩) ?_
  rotate_left
  · intro w _; go_simp; (try with_reducible rfl)
  try simp only [Act.put, List.setIfInBounds_toArray, List.set_cons_zero, List.set_cons_succ]
  refine done_f (by kernel_rfl) ?_ _
  have HS6 := Lib.hid (hSK.2.1.alloc (.cells #[.int .i64 i2, .string B2, .int .i64 i3, .string B3, .int .i64 i4, .string B4, .int .i64 g1, .string (valOf j1), .int .i64 g2, .string (valOf j2), .int .i64 o1, .string ⟨#[97]⟩, .int .i64 0, .string ⟨#[]⟩] 25))
  have HB6 := Lib.hid (balloc hSK.2.2 (.cells #[.int .i64 i2, .string B2, .int .i64 i3, .string B3, .int .i64 i4, .string B4, .int .i64 g1, .string (valOf j1), .int .i64 g2, .string (valOf j2), .int .i64 o1, .string ⟨#[97]⟩, .int .i64 0, .string ⟨#[]⟩] 25))
  have hlb : sb < wK.heap.size := hSK.2.1.lt
  obtain ⟨L7, hL7⟩ : ∃ L : List (Int × ByteArray), [(i2, B2), (i3, B3), (i4, B4), (g1, valOf j1), (g2, valOf j2), (o1, ⟨#[97]⟩), (0, ⟨#[]⟩)] = L := ⟨_, rfl⟩
  have HL6 := Lib.hid (show RowAt 2 encB (fun b => sb < b) (wK.alloc (.cells #[.int .i64 i2, .string B2, .int .i64 i3, .string B3, .int .i64 i4, .string B4, .int .i64 g1, .string (valOf j1), .int .i64 g2, .string (valOf j2), .int .i64 o1, .string ⟨#[97]⟩, .int .i64 0, .string ⟨#[]⟩] 25)) (.slice (some ⟨wK.heap.size, 0, none⟩) 7 7) L7 from by
    rw [← hL7]
    exact (row_alloc' wK [(i2, B2), (i3, B3), (i4, B4), (g1, valOf j1), (g2, valOf j2), (o1, ⟨#[97]⟩), (0, ⟨#[]⟩)] #[.int .i64 i2, .string B2, .int .i64 i3, .string B3, .int .i64 i4, .string B4, .int .i64 g1, .string (valOf j1), .int .i64 g2, .string (valOf j2), .int .i64 o1, .string ⟨#[97]⟩, .int .i64 0, .string ⟨#[]⟩] 25 rfl (by simp) (by decide)).imp (fun b _ hp => by have h2 : b = wK.heap.size := hp; omega))
  have hl7 : L7.length = 7 := by rw [← hL7]; rfl
  clear hSK hL7
  go_upto_region 7 with fail
  generalize wK.alloc (.cells #[.int .i64 i2, .string B2, .int .i64 i3, .string B3, .int .i64 i4, .string B4, .int .i64 g1, .string (valOf j1), .int .i64 g2, .string (valOf j2), .int .i64 o1, .string ⟨#[97]⟩, .int .i64 0, .string ⟨#[]⟩] 25) = v6 at *
  generalize wK.heap.size = lb at *
  have HN7 := Lib.hid hl7
  clear hl7
  go_wp2_with fail
  go_loopw [56] (fun t W => ∃ k : Nat, k ≤ 7 ∧ t = .int .i64 k ∧ Hid (BST w sb lb L7 W)) (fun t _ => 7 - (intOf t).toNat)
  case atStart => exact ⟨0, by omega, rfl, Lib.hid ⟨HS6.out, HL6.out, HB6.out⟩⟩
  case round =>
    obtain ⟨ka, hka, rfl, hSTa⟩ := hrel
    by_cases hlt : ka < 7
    · obtain ⟨⟨ca, Ba⟩, hel⟩ : ∃ b, L7[ka]? = some b := ⟨_, List.getElem?_eq_getElem (by rw [HN7.out]; exact hlt)⟩
      obtain ⟨eb, eo, heq, _, _, he23⟩ := hSTa.out.row.at_ hel
      simp only [Option.some.injEq, Addr.mk.injEq] at heq
      obtain ⟨rfl, rfl, _⟩ := heq
      have d0 : wr.cell? ⟨lb, 0 + ka * 2, none⟩ = some (.int .i64 ca) := he23 0 _ rfl
      have d1 : wr.cell? ⟨lb, 0 + ka * 2 + 1, none⟩ = some (.string Ba) := he23 1 _ rfl
      rw [Nat.zero_add] at d0 d1
      have hNb := Lib.hid (BalX.new wr ca Ba)
      have hblt : sb < wr.heap.size := hSTa.out.src.lt
      have hSTb := Lib.hid (hSTa.out.alloc (.cells #[.int .i64 ca, .string Ba] 25))
      have HZA := Lib.hid (fun W => zero_s ca Ba W)
      have HZR := Lib.hid (fun W => zero_r ca Ba W)
      have HVA := Lib.hid (fun W => valid_s ca Ba W)
      have HVR := Lib.hid (fun W => valid_r ca Ba W)
      generalize zeroX ca Ba = zx at *
      generalize validX ca Ba = vx at *
      clear hel he23 hSTa
      go_upto_region 10 with fail
      generalize wr.alloc (.cells #[.int .i64 ca, .string Ba] 25) = Wa at *
      obtain ⟨ab, hab⟩ : ∃ x, wr.heap.size = x := ⟨_, rfl⟩
      rw [hab] at hNb hblt ⊢
      clear hab d0 d1
      have hS : Cs [(⟨ab, 0, none⟩, .int .i64 ca), (⟨ab, 1, none⟩, .string Ba)] Wa.drew ∧ BST w sb lb L7 Wa.drew ∧ BalX Wa.drew ab ca Ba := ⟨⟨hNb.out.cs.1, hNb.out.cs.2, trivial⟩, hSTb.out.below (bdrew (bref _)), hNb.out.below (bdrew (bref _))⟩
      refine wp_region_held_drew (S := (fun W => Cs [(⟨ab, 0, none⟩, .int .i64 ca), (⟨ab, 1, none⟩, .string Ba)] W ∧ BST w sb lb L7 W ∧ BalX W ab ca Ba)) (by kernel_rfl) hS (fun hSK => ?_)
      clear hS
      refine take_d (some 60) (i := 0) (v := ?_) rfl rfl (by kernel_rfl) (by kernel_rfl) (by kernel_rfl) (fun _ _ _ h => h) (Or.inl ⟨by rfl, ?_⟩) (by assumption) ?_
      rotate_left
      · intro w hSw; (dsimp only [Cs] at hSw); go_simp; (try with_reducible rfl)
      try simp only [Act.put, List.setIfInBounds_toArray, List.set_cons_zero, List.set_cons_succ]
      refine take_d (some 62) (i := 2) (v := ?_) rfl rfl (by kernel_rfl) (by kernel_rfl) (by kernel_rfl) (fun _ _ _ h => h) (Or.inl ⟨by rfl, ?_⟩) (by assumption) ?_
      rotate_left
      · intro w hSw; (dsimp only [Cs] at hSw); go_simp; (try with_reducible rfl)
      try simp only [Act.put, List.setIfInBounds_toArray, List.set_cons_zero, List.set_cons_succ]
      refine wpAnyH_ready (rs := [1]) (by kernel_rfl) (by simp) ?_
      refine AllReadyH.cons rfl (fun K hK => ?_) AllReadyH.nil
      go_simp
      refine (HZA.out _).mono ?_
      rintro e wK ⟨rfl, hbK⟩
      go_wp2_with fail
      refine hK.out _ _ ?_ (fun hHeld => ?_)
      · exact ⟨Cs.below hSK.1 hbK, hSK.2.1.below hbK, hSK.2.2.below hbK⟩
      clear hSK
      have hSK := hHeld
      clear hHeld
      clear hK K
      try simp only [Act.put, List.setIfInBounds_toArray, List.set_cons_zero, List.set_cons_succ]
      refine wpAnyH_ready (rs := [3]) (by kernel_rfl) (by simp) ?_
      refine AllReadyH.cons rfl (fun K hK => ?_) AllReadyH.nil
      go_simp
      refine (HZR.out _).mono ?_
      rintro e wK ⟨rfl, hbK⟩
      go_wp2_with fail
      refine hK.out _ _ ?_ (fun hHeld => ?_)
      · exact ⟨Cs.below hSK.1 hbK, hSK.2.1.below hbK, hSK.2.2.below hbK⟩
      clear hSK
      have hSK := hHeld
      clear hHeld
      clear hK K
      try simp only [Act.put, List.setIfInBounds_toArray, List.set_cons_zero, List.set_cons_succ]
      refine take_d (some 64) (i := 4) (v := ?_) rfl rfl (by kernel_rfl) (by kernel_rfl) (by kernel_rfl) (fun _ _ _ h => h) (Or.inl ⟨by rfl, ?_⟩) (by assumption) ?_
      rotate_left
      · intro w hSw; (dsimp only [Cs] at hSw); go_simp; (try with_reducible rfl)
      try simp only [Act.put, List.setIfInBounds_toArray, List.set_cons_zero, List.set_cons_succ]
      refine take_d (some 65) (i := 5) (v := ?_) rfl rfl (by kernel_rfl) (by kernel_rfl) (by kernel_rfl) (fun _ _ _ h => h) (Or.inl ⟨by rfl, ?_⟩) (by assumption) ?_
      rotate_left
      · intro w hSw; (dsimp only [Cs] at hSw); go_simp; (try with_reducible rfl)
      try simp only [Act.put, List.setIfInBounds_toArray, List.set_cons_zero, List.set_cons_succ]
      refine take_d (some 66) (i := 6) (v := ?_) rfl rfl (by kernel_rfl) (by kernel_rfl) (by kernel_rfl) (fun _ _ _ h => h) (Or.inl ⟨by rfl, ?_⟩) (by assumption) ?_
      rotate_left
      · intro w hSw; (dsimp only [Cs] at hSw); go_simp; (try with_reducible rfl)
      try simp only [Act.put, List.setIfInBounds_toArray, List.set_cons_zero, List.set_cons_succ]
      refine take_d (some 68) (i := 8) (v := ?_) rfl rfl (by kernel_rfl) (by kernel_rfl) (by kernel_rfl) (fun _ _ _ h => h) (Or.inl ⟨by rfl, ?_⟩) (by assumption) ?_
      rotate_left
      · intro w hSw; (dsimp only [Cs] at hSw); go_simp; (try with_reducible rfl)
      try simp only [Act.put, List.setIfInBounds_toArray, List.set_cons_zero, List.set_cons_succ]
      refine wpAnyH_ready (rs := [7]) (by kernel_rfl) (by simp) ?_
      refine AllReadyH.cons rfl (fun K hK => ?_) AllReadyH.nil
      go_simp
      refine (HVA.out _).mono ?_
      rintro e wK ⟨rfl, hbK⟩
      go_wp2_with fail
      refine hK.out _ _ ?_ (fun hHeld => ?_)
      · exact ⟨Cs.below hSK.1 hbK, hSK.2.1.below hbK, hSK.2.2.below hbK⟩
      clear hSK
      have hSK := hHeld
      clear hHeld
      clear hK K
      try simp only [Act.put, List.setIfInBounds_toArray, List.set_cons_zero, List.set_cons_succ]
      refine wpAnyH_ready (rs := [9]) (by kernel_rfl) (by simp) ?_
      refine AllReadyH.cons rfl (fun K hK => ?_) AllReadyH.nil
      go_simp
      refine (HVR.out _).mono ?_
      rintro e wK ⟨rfl, hbK⟩
      go_wp2_with fail
      refine hK.out _ _ ?_ (fun hHeld => ?_)
      · exact ⟨Cs.below hSK.1 hbK, hSK.2.1.below hbK, hSK.2.2.below hbK⟩
      clear hSK
      have hSK := hHeld
      clear hHeld
      clear hK K
      try simp only [Act.put, List.setIfInBounds_toArray, List.set_cons_zero, List.set_cons_succ]
      refine take_d (some 70) (i := 10) (v := ?_) rfl rfl (by kernel_rfl) (by kernel_rfl) (by kernel_rfl) (fun _ _ _ h => h) (Or.inl ⟨by rfl, ?_⟩) (by assumption) ?_
      rotate_left
      · intro w hSw; (dsimp only [Cs] at hSw); go_simp; (try with_reducible rfl)
      try simp only [Act.put, List.setIfInBounds_toArray, List.set_cons_zero, List.set_cons_succ]
      refine take_d (some 71) (i := 11) (v := ?_) rfl rfl (by kernel_rfl) (by kernel_rfl) (by kernel_rfl) (fun _ _ _ h => h) (Or.inl ⟨by rfl, ?_⟩) (by assumption) ?_
      rotate_left
      · intro w hSw; (dsimp only [Cs] at hSw); go_simp; (try with_reducible rfl)
      try simp only [Act.put, List.setIfInBounds_toArray, List.set_cons_zero, List.set_cons_succ]
      refine wpAnyH_done (by kernel_rfl) ?_ _
      have hST1 := Lib.hid hSK.2.1
      have hA1 := Lib.hid hSK.2.2
      clear hSK hSTb hNb HZA HZR HVA HVR
      go_wp2_with fail
      go_loopw [74] (fun t W => ∃ k : Nat, k ≤ 7 ∧ t = .int .i64 k ∧ Hid (BST w sb lb L7 W) ∧ Hid (BalX W ab ca Ba)) (fun t _ => 7 - (intOf t).toNat)
      case atStart => exact ⟨0, by omega, rfl, hST1, hA1⟩
      case round =>
        obtain ⟨kb, hkb, rfl, hSTb, hAb⟩ := hrel
        clear hlt
        by_cases hlt : kb < 7
        · obtain ⟨⟨cb, Bb⟩, hel⟩ : ∃ b, L7[kb]? = some b := ⟨_, List.getElem?_eq_getElem (by rw [HN7.out]; exact hlt)⟩
          obtain ⟨eb, eo, heq, _, _, he23⟩ := hSTb.out.row.at_ hel
          simp only [Option.some.injEq, Addr.mk.injEq] at heq
          obtain ⟨rfl, rfl, _⟩ := heq
          have d0 : wr.cell? ⟨lb, 0 + kb * 2, none⟩ = some (.int .i64 cb) := he23 0 _ rfl
          have d1 : wr.cell? ⟨lb, 0 + kb * 2 + 1, none⟩ = some (.string Bb) := he23 1 _ rfl
          rw [Nat.zero_add] at d0 d1
          have hNb := Lib.hid (BalX.new wr cb Bb)
          have hblt : sb < wr.heap.size := hSTb.out.src.lt
          have hSTc := Lib.hid (hSTb.out.alloc (.cells #[.int .i64 cb, .string Bb] 25))
          have hAc := Lib.hid (hAb.out.alloc (.cells #[.int .i64 cb, .string Bb] 25))
          have HC1 := Lib.hid (fun W => less_s ca Ba cb Bb W)
          have HC2 := Lib.hid (fun W => less_r ca Ba cb Bb W)
          have HC3 := Lib.hid (fun W => lv_s Ba Bb W)
          have HC4 := Lib.hid (fun W => lv_r Ba Bb W)
          have HC5 := Lib.hid (fun W => comp_s ca Ba cb Bb W)
          have HC6 := Lib.hid (fun W => comp_r ca Ba cb Bb W)
          have HC7 := Lib.hid (fun W => cov_s ca Ba cb Bb W)
          have HC8 := Lib.hid (fun W => cov_r ca Ba cb Bb W)
          have HC9 := Lib.hid (fun W => ab_s ca Ba cb Bb W)
          have HC0 := Lib.hid (fun W => ab_r ca Ba cb Bb W)
          generalize lessX ca Ba cb Bb = y1 at *
          generalize lvX Ba Bb = y2 at *
          generalize compX Ba Bb = y3 at *
          generalize covX ca Ba cb Bb = y4 at *
          generalize abX ca Ba cb Bb = y5 at *
          clear hel he23 hSTb hAb
          go_upto_region 15 with fail
          generalize wr.alloc (.cells #[.int .i64 cb, .string Bb] 25) = Wb at *
          obtain ⟨bb, hab⟩ : ∃ x, wr.heap.size = x := ⟨_, rfl⟩
          rw [hab] at hNb ⊢
          have hbb : sb < bb := by rw [← hab]; assumption
          clear hab d0 d1
          have hS : Cs [(⟨ab, 0, none⟩, .int .i64 ca), (⟨ab, 1, none⟩, .string Ba), (⟨bb, 0, none⟩, .int .i64 cb), (⟨bb, 1, none⟩, .string Bb)] Wb.drew ∧ BST w sb lb L7 Wb.drew ∧ BalX Wb.drew ab ca Ba ∧ BalX Wb.drew bb cb Bb := ⟨⟨hAc.out.cs.1, hAc.out.cs.2, hNb.out.cs.1, hNb.out.cs.2, trivial⟩, hSTc.out.below (bdrew (bref _)), hAc.out.below (bdrew (bref _)), hNb.out.below (bdrew (bref _))⟩
          refine wp_region_held_drew (S := (fun W => Cs [(⟨ab, 0, none⟩, .int .i64 ca), (⟨ab, 1, none⟩, .string Ba), (⟨bb, 0, none⟩, .int .i64 cb), (⟨bb, 1, none⟩, .string Bb)] W ∧ BST w sb lb L7 W ∧ BalX W ab ca Ba ∧ BalX W bb cb Bb)) (by kernel_rfl) hS (fun hSK => ?_)
          clear hS
          refine take_d (some 78) (i := 0) (v := ?_) rfl rfl (by kernel_rfl) (by kernel_rfl) (by kernel_rfl) (fun _ _ _ h => h) (Or.inl ⟨by rfl, ?_⟩) (by assumption) ?_
          rotate_left
          · intro w hSw; (dsimp only [Cs] at hSw); go_simp; (try with_reducible rfl)
          try simp only [Act.put, List.setIfInBounds_toArray, List.set_cons_zero, List.set_cons_succ]
          refine take_d (some 79) (i := 1) (v := ?_) rfl rfl (by kernel_rfl) (by kernel_rfl) (by kernel_rfl) (fun _ _ _ h => h) (Or.inl ⟨by rfl, ?_⟩) (by assumption) ?_
          rotate_left
          · intro w hSw; (dsimp only [Cs] at hSw); go_simp; (try with_reducible rfl)
          try simp only [Act.put, List.setIfInBounds_toArray, List.set_cons_zero, List.set_cons_succ]
          refine take_d (some 81) (i := 3) (v := ?_) rfl rfl (by kernel_rfl) (by kernel_rfl) (by kernel_rfl) (fun _ _ _ h => h) (Or.inl ⟨by rfl, ?_⟩) (by assumption) ?_
          rotate_left
          · intro w hSw; (dsimp only [Cs] at hSw); go_simp; (try with_reducible rfl)
          try simp only [Act.put, List.setIfInBounds_toArray, List.set_cons_zero, List.set_cons_succ]
          refine take_d (some 82) (i := 4) (v := ?_) rfl rfl (by kernel_rfl) (by kernel_rfl) (by kernel_rfl) (fun _ _ _ h => h) (Or.inl ⟨by rfl, ?_⟩) (by assumption) ?_
          rotate_left
          · intro w hSw; (dsimp only [Cs] at hSw); go_simp; (try with_reducible rfl)
          try simp only [Act.put, List.setIfInBounds_toArray, List.set_cons_zero, List.set_cons_succ]
          refine wpAnyH_ready (rs := [2]) (by kernel_rfl) (by simp) ?_
          refine AllReadyH.cons rfl (fun K hK => ?_) AllReadyH.nil
          go_simp
          refine (HC1.out _).mono ?_
          rintro e wK ⟨rfl, hbK⟩
          go_wp2_with fail
          refine hK.out _ _ ?_ (fun hHeld => ?_)
          · exact ⟨Cs.below hSK.1 hbK, hSK.2.1.below hbK, hSK.2.2.1.below hbK, hSK.2.2.2.below hbK⟩
          clear hSK
          have hSK := hHeld
          clear hHeld
          clear hK K
          try simp only [Act.put, List.setIfInBounds_toArray, List.set_cons_zero, List.set_cons_succ]
          refine wpAnyH_ready (rs := [5]) (by kernel_rfl) (by simp) ?_
          refine AllReadyH.cons rfl (fun K hK => ?_) AllReadyH.nil
          go_simp
          refine (HC2.out _).mono ?_
          rintro e wK ⟨rfl, hbK⟩
          go_wp2_with fail
          refine hK.out _ _ ?_ (fun hHeld => ?_)
          · exact ⟨Cs.below hSK.1 hbK, hSK.2.1.below hbK, hSK.2.2.1.below hbK, hSK.2.2.2.below hbK⟩
          clear hSK
          have hSK := hHeld
          clear hHeld
          clear hK K
          try simp only [Act.put, List.setIfInBounds_toArray, List.set_cons_zero, List.set_cons_succ]
          refine take_d (some 84) (i := 6) (v := ?_) rfl rfl (by kernel_rfl) (by kernel_rfl) (by kernel_rfl) (fun _ _ _ h => h) (Or.inl ⟨by rfl, ?_⟩) (by assumption) ?_
          rotate_left
          · intro w hSw; (dsimp only [Cs] at hSw); go_simp; (try with_reducible rfl)
          try simp only [Act.put, List.setIfInBounds_toArray, List.set_cons_zero, List.set_cons_succ]
          refine take_d (some 85) (i := 7) (v := ?_) rfl rfl (by kernel_rfl) (by kernel_rfl) (by kernel_rfl) (fun _ _ _ h => h) (Or.inl ⟨by rfl, ?_⟩) (by assumption) ?_
          rotate_left
          · intro w hSw; (dsimp only [Cs] at hSw); go_simp; (try with_reducible rfl)
          try simp only [Act.put, List.setIfInBounds_toArray, List.set_cons_zero, List.set_cons_succ]
          refine take_d (some 86) (i := 8) (v := ?_) rfl rfl (by kernel_rfl) (by kernel_rfl) (by kernel_rfl) (fun _ _ _ h => h) (Or.inl ⟨by rfl, ?_⟩) (by assumption) ?_
          rotate_left
          · intro w hSw; (dsimp only [Cs] at hSw); go_simp; (try with_reducible rfl)
          try simp only [Act.put, List.setIfInBounds_toArray, List.set_cons_zero, List.set_cons_succ]
          refine take_d (some 87) (i := 9) (v := ?_) rfl rfl (by kernel_rfl) (by kernel_rfl) (by kernel_rfl) (fun _ _ _ h => h) (Or.inl ⟨by rfl, ?_⟩) (by assumption) ?_
          rotate_left
          · intro w hSw; (dsimp only [Cs] at hSw); go_simp; (try with_reducible rfl)
          try simp only [Act.put, List.setIfInBounds_toArray, List.set_cons_zero, List.set_cons_succ]
          refine take_d (some 88) (i := 10) (v := ?_) rfl rfl (by kernel_rfl) (by kernel_rfl) (by kernel_rfl) (fun _ _ _ h => h) (Or.inl ⟨by rfl, ?_⟩) (by assumption) ?_
          rotate_left
          · intro w hSw; (dsimp only [Cs] at hSw); go_simp; (try with_reducible rfl)
          try simp only [Act.put, List.setIfInBounds_toArray, List.set_cons_zero, List.set_cons_succ]
          refine take_d (some 89) (i := 11) (v := ?_) rfl rfl (by kernel_rfl) (by kernel_rfl) (by kernel_rfl) (fun _ _ _ h => h) (Or.inl ⟨by rfl, ?_⟩) (by assumption) ?_
          rotate_left
          · intro w hSw; (dsimp only [Cs] at hSw); go_simp; (try with_reducible rfl)
          try simp only [Act.put, List.setIfInBounds_toArray, List.set_cons_zero, List.set_cons_succ]
          refine take_d (some 91) (i := 13) (v := ?_) rfl rfl (by kernel_rfl) (by kernel_rfl) (by kernel_rfl) (fun _ _ _ h => h) (Or.inl ⟨by rfl, ?_⟩) (by assumption) ?_
          rotate_left
          · intro w hSw; (dsimp only [Cs] at hSw); go_simp; (try with_reducible rfl)
          try simp only [Act.put, List.setIfInBounds_toArray, List.set_cons_zero, List.set_cons_succ]
          refine take_d (some 92) (i := 14) (v := ?_) rfl rfl (by kernel_rfl) (by kernel_rfl) (by kernel_rfl) (fun _ _ _ h => h) (Or.inl ⟨by rfl, ?_⟩) (by assumption) ?_
          rotate_left
          · intro w hSw; (dsimp only [Cs] at hSw); go_simp; (try with_reducible rfl)
          try simp only [Act.put, List.setIfInBounds_toArray, List.set_cons_zero, List.set_cons_succ]
          refine take_d (some 93) (i := 15) (v := ?_) rfl rfl (by kernel_rfl) (by kernel_rfl) (by kernel_rfl) (fun _ _ _ h => h) (Or.inl ⟨by rfl, ?_⟩) (by assumption) ?_
          rotate_left
          · intro w hSw; (dsimp only [Cs] at hSw); go_simp; (try with_reducible rfl)
          try simp only [Act.put, List.setIfInBounds_toArray, List.set_cons_zero, List.set_cons_succ]
          refine take_d (some 94) (i := 16) (v := ?_) rfl rfl (by kernel_rfl) (by kernel_rfl) (by kernel_rfl) (fun _ _ _ h => h) (Or.inl ⟨by rfl, ?_⟩) (by assumption) ?_
          rotate_left
          · intro w hSw; (dsimp only [Cs] at hSw); go_simp; (try with_reducible rfl)
          try simp only [Act.put, List.setIfInBounds_toArray, List.set_cons_zero, List.set_cons_succ]
          refine wpAnyH_ready (rs := [12]) (by kernel_rfl) (by simp) ?_
          refine AllReadyH.cons rfl (fun K hK => ?_) AllReadyH.nil
          go_simp
          refine (HC3.out _).mono ?_
          rintro e wK ⟨rfl, rfl⟩
          go_wp2_with fail
          refine hK.out _ _ ?_ (fun hHeld => ?_)
          · exact hSK
          clear hSK
          have hSK := hHeld
          clear hHeld
          clear hK K
          try simp only [Act.put, List.setIfInBounds_toArray, List.set_cons_zero, List.set_cons_succ]
          refine wpAnyH_ready (rs := [17]) (by kernel_rfl) (by simp) ?_
          refine AllReadyH.cons rfl (fun K hK => ?_) AllReadyH.nil
          go_simp
          refine (HC4.out _).mono ?_
          rintro e wK ⟨rfl, rfl⟩
          go_wp2_with fail
          refine hK.out _ _ ?_ (fun hHeld => ?_)
          · exact hSK
          clear hSK
          have hSK := hHeld
          clear hHeld
          clear hK K
          try simp only [Act.put, List.setIfInBounds_toArray, List.set_cons_zero, List.set_cons_succ]
          refine take_d (some 96) (i := 18) (v := ?_) rfl rfl (by kernel_rfl) (by kernel_rfl) (by kernel_rfl) (fun _ _ _ h => h) (Or.inl ⟨by rfl, ?_⟩) (by assumption) ?_
          rotate_left
          · intro w hSw; (dsimp only [Cs] at hSw); go_simp; (try with_reducible rfl)
          try simp only [Act.put, List.setIfInBounds_toArray, List.set_cons_zero, List.set_cons_succ]
          refine take_d (some 97) (i := 19) (v := ?_) rfl rfl (by kernel_rfl) (by kernel_rfl) (by kernel_rfl) (fun _ _ _ h => h) (Or.inl ⟨by rfl, ?_⟩) (by assumption) ?_
          rotate_left
          · intro w hSw; (dsimp only [Cs] at hSw); go_simp; (try with_reducible rfl)
          try simp only [Act.put, List.setIfInBounds_toArray, List.set_cons_zero, List.set_cons_succ]
          refine take_d (some 98) (i := 20) (v := ?_) rfl rfl (by kernel_rfl) (by kernel_rfl) (by kernel_rfl) (fun _ _ _ h => h) (Or.inl ⟨by rfl, ?_⟩) (by assumption) ?_
          rotate_left
          · intro w hSw; (dsimp only [Cs] at hSw); go_simp; (try with_reducible rfl)
          try simp only [Act.put, List.setIfInBounds_toArray, List.set_cons_zero, List.set_cons_succ]
          refine take_d (some 99) (i := 21) (v := ?_) rfl rfl (by kernel_rfl) (by kernel_rfl) (by kernel_rfl) (fun _ _ _ h => h) (Or.inl ⟨by rfl, ?_⟩) (by assumption) ?_
          rotate_left
          · intro w hSw; (dsimp only [Cs] at hSw); go_simp; (try with_reducible rfl)
          try simp only [Act.put, List.setIfInBounds_toArray, List.set_cons_zero, List.set_cons_succ]
          refine take_d (some 100) (i := 22) (v := ?_) rfl rfl (by kernel_rfl) (by kernel_rfl) (by kernel_rfl) (fun _ _ _ h => h) (Or.inl ⟨by rfl, ?_⟩) (by assumption) ?_
          rotate_left
          · intro w hSw; (dsimp only [Cs] at hSw); go_simp; (try with_reducible rfl)
          try simp only [Act.put, List.setIfInBounds_toArray, List.set_cons_zero, List.set_cons_succ]
          refine take_d (some 102) (i := 24) (v := ?_) rfl rfl (by kernel_rfl) (by kernel_rfl) (by kernel_rfl) (fun _ _ _ h => h) (Or.inl ⟨by rfl, ?_⟩) (by assumption) ?_
          rotate_left
          · intro w hSw; (dsimp only [Cs] at hSw); go_simp; (try with_reducible rfl)
          try simp only [Act.put, List.setIfInBounds_toArray, List.set_cons_zero, List.set_cons_succ]
          refine take_d (some 103) (i := 25) (v := ?_) rfl rfl (by kernel_rfl) (by kernel_rfl) (by kernel_rfl) (fun _ _ _ h => h) (Or.inl ⟨by rfl, ?_⟩) (by assumption) ?_
          rotate_left
          · intro w hSw; (dsimp only [Cs] at hSw); go_simp; (try with_reducible rfl)
          try simp only [Act.put, List.setIfInBounds_toArray, List.set_cons_zero, List.set_cons_succ]
          refine wpAnyH_ready (rs := [23]) (by kernel_rfl) (by simp) ?_
          refine AllReadyH.cons rfl (fun K hK => ?_) AllReadyH.nil
          go_simp
          refine (HC5.out _).mono ?_
          rintro e wK ⟨rfl, hbK⟩
          go_wp2_with fail
          refine hK.out _ _ ?_ (fun hHeld => ?_)
          · exact ⟨Cs.below hSK.1 hbK, hSK.2.1.below hbK, hSK.2.2.1.below hbK, hSK.2.2.2.below hbK⟩
          clear hSK
          have hSK := hHeld
          clear hHeld
          clear hK K
          try simp only [Act.put, List.setIfInBounds_toArray, List.set_cons_zero, List.set_cons_succ]
          refine wpAnyH_ready (rs := [26]) (by kernel_rfl) (by simp) ?_
          refine AllReadyH.cons rfl (fun K hK => ?_) AllReadyH.nil
          go_simp
          refine (HC6.out _).mono ?_
          rintro e wK ⟨rfl, hbK⟩
          go_wp2_with fail
          refine hK.out _ _ ?_ (fun hHeld => ?_)
          · exact ⟨Cs.below hSK.1 hbK, hSK.2.1.below hbK, hSK.2.2.1.below hbK, hSK.2.2.2.below hbK⟩
          clear hSK
          have hSK := hHeld
          clear hHeld
          clear hK K
          try simp only [Act.put, List.setIfInBounds_toArray, List.set_cons_zero, List.set_cons_succ]
          refine take_d (some 105) (i := 27) (v := ?_) rfl rfl (by kernel_rfl) (by kernel_rfl) (by kernel_rfl) (fun _ _ _ h => h) (Or.inl ⟨by rfl, ?_⟩) (by assumption) ?_
          rotate_left
          · intro w hSw; (dsimp only [Cs] at hSw); go_simp; (try with_reducible rfl)
          try simp only [Act.put, List.setIfInBounds_toArray, List.set_cons_zero, List.set_cons_succ]
          refine take_d (some 106) (i := 28) (v := ?_) rfl rfl (by kernel_rfl) (by kernel_rfl) (by kernel_rfl) (fun _ _ _ h => h) (Or.inl ⟨by rfl, ?_⟩) (by assumption) ?_
          rotate_left
          · intro w hSw; (dsimp only [Cs] at hSw); go_simp; (try with_reducible rfl)
          try simp only [Act.put, List.setIfInBounds_toArray, List.set_cons_zero, List.set_cons_succ]
          refine take_d (some 107) (i := 29) (v := ?_) rfl rfl (by kernel_rfl) (by kernel_rfl) (by kernel_rfl) (fun _ _ _ h => h) (Or.inl ⟨by rfl, ?_⟩) (by assumption) ?_
          rotate_left
          · intro w hSw; (dsimp only [Cs] at hSw); go_simp; (try with_reducible rfl)
          try simp only [Act.put, List.setIfInBounds_toArray, List.set_cons_zero, List.set_cons_succ]
          refine take_d (some 108) (i := 30) (v := ?_) rfl rfl (by kernel_rfl) (by kernel_rfl) (by kernel_rfl) (fun _ _ _ h => h) (Or.inl ⟨by rfl, ?_⟩) (by assumption) ?_
          rotate_left
          · intro w hSw; (dsimp only [Cs] at hSw); go_simp; (try with_reducible rfl)
          try simp only [Act.put, List.setIfInBounds_toArray, List.set_cons_zero, List.set_cons_succ]
          refine take_d (some 109) (i := 31) (v := ?_) rfl rfl (by kernel_rfl) (by kernel_rfl) (by kernel_rfl) (fun _ _ _ h => h) (Or.inl ⟨by rfl, ?_⟩) (by assumption) ?_
          rotate_left
          · intro w hSw; (dsimp only [Cs] at hSw); go_simp; (try with_reducible rfl)
          try simp only [Act.put, List.setIfInBounds_toArray, List.set_cons_zero, List.set_cons_succ]
          refine take_d (some 111) (i := 33) (v := ?_) rfl rfl (by kernel_rfl) (by kernel_rfl) (by kernel_rfl) (fun _ _ _ h => h) (Or.inl ⟨by rfl, ?_⟩) (by assumption) ?_
          rotate_left
          · intro w hSw; (dsimp only [Cs] at hSw); go_simp; (try with_reducible rfl)
          try simp only [Act.put, List.setIfInBounds_toArray, List.set_cons_zero, List.set_cons_succ]
          refine take_d (some 112) (i := 34) (v := ?_) rfl rfl (by kernel_rfl) (by kernel_rfl) (by kernel_rfl) (fun _ _ _ h => h) (Or.inl ⟨by rfl, ?_⟩) (by assumption) ?_
          rotate_left
          · intro w hSw; (dsimp only [Cs] at hSw); go_simp; (try with_reducible rfl)
          try simp only [Act.put, List.setIfInBounds_toArray, List.set_cons_zero, List.set_cons_succ]
          refine wpAnyH_ready (rs := [32]) (by kernel_rfl) (by simp) ?_
          refine AllReadyH.cons rfl (fun K hK => ?_) AllReadyH.nil
          go_simp
          refine (HC7.out _).mono ?_
          rintro e wK ⟨rfl, hbK⟩
          go_wp2_with fail
          refine hK.out _ _ ?_ (fun hHeld => ?_)
          · exact ⟨Cs.below hSK.1 hbK, hSK.2.1.below hbK, hSK.2.2.1.below hbK, hSK.2.2.2.below hbK⟩
          clear hSK
          have hSK := hHeld
          clear hHeld
          clear hK K
          try simp only [Act.put, List.setIfInBounds_toArray, List.set_cons_zero, List.set_cons_succ]
          refine wpAnyH_ready (rs := [35]) (by kernel_rfl) (by simp) ?_
          refine AllReadyH.cons rfl (fun K hK => ?_) AllReadyH.nil
          go_simp
          refine (HC8.out _).mono ?_
          rintro e wK ⟨rfl, hbK⟩
          go_wp2_with fail
          refine hK.out _ _ ?_ (fun hHeld => ?_)
          · exact ⟨Cs.below hSK.1 hbK, hSK.2.1.below hbK, hSK.2.2.1.below hbK, hSK.2.2.2.below hbK⟩
          clear hSK
          have hSK := hHeld
          clear hHeld
          clear hK K
          try simp only [Act.put, List.setIfInBounds_toArray, List.set_cons_zero, List.set_cons_succ]
          refine take_d (some 114) (i := 36) (v := ?_) rfl rfl (by kernel_rfl) (by kernel_rfl) (by kernel_rfl) (fun _ _ _ h => h) (Or.inl ⟨by rfl, ?_⟩) (by assumption) ?_
          rotate_left
          · intro w hSw; (dsimp only [Cs] at hSw); go_simp; (try with_reducible rfl)
          try simp only [Act.put, List.setIfInBounds_toArray, List.set_cons_zero, List.set_cons_succ]
          refine take_d (some 115) (i := 37) (v := ?_) rfl rfl (by kernel_rfl) (by kernel_rfl) (by kernel_rfl) (fun _ _ _ h => h) (Or.inl ⟨by rfl, ?_⟩) (by assumption) ?_
          rotate_left
          · intro w hSw; (dsimp only [Cs] at hSw); go_simp; (try with_reducible rfl)
          try simp only [Act.put, List.setIfInBounds_toArray, List.set_cons_zero, List.set_cons_succ]
          refine take_d (some 116) (i := 38) (v := ?_) rfl rfl (by kernel_rfl) (by kernel_rfl) (by kernel_rfl) (fun _ _ _ h => h) (Or.inl ⟨by rfl, ?_⟩) (by assumption) ?_
          rotate_left
          · intro w hSw; (dsimp only [Cs] at hSw); go_simp; (try with_reducible rfl)
          try simp only [Act.put, List.setIfInBounds_toArray, List.set_cons_zero, List.set_cons_succ]
          refine take_d (some 117) (i := 39) (v := ?_) rfl rfl (by kernel_rfl) (by kernel_rfl) (by kernel_rfl) (fun _ _ _ h => h) (Or.inl ⟨by rfl, ?_⟩) (by assumption) ?_
          rotate_left
          · intro w hSw; (dsimp only [Cs] at hSw); go_simp; (try with_reducible rfl)
          try simp only [Act.put, List.setIfInBounds_toArray, List.set_cons_zero, List.set_cons_succ]
          refine take_d (some 118) (i := 40) (v := ?_) rfl rfl (by kernel_rfl) (by kernel_rfl) (by kernel_rfl) (fun _ _ _ h => h) (Or.inl ⟨by rfl, ?_⟩) (by assumption) ?_
          rotate_left
          · intro w hSw; (dsimp only [Cs] at hSw); go_simp; (try with_reducible rfl)
          try simp only [Act.put, List.setIfInBounds_toArray, List.set_cons_zero, List.set_cons_succ]
          refine take_d (some 120) (i := 42) (v := ?_) rfl rfl (by kernel_rfl) (by kernel_rfl) (by kernel_rfl) (fun _ _ _ h => h) (Or.inl ⟨by rfl, ?_⟩) (by assumption) ?_
          rotate_left
          · intro w hSw; (dsimp only [Cs] at hSw); go_simp; (try with_reducible rfl)
          try simp only [Act.put, List.setIfInBounds_toArray, List.set_cons_zero, List.set_cons_succ]
          refine take_d (some 121) (i := 43) (v := ?_) rfl rfl (by kernel_rfl) (by kernel_rfl) (by kernel_rfl) (fun _ _ _ h => h) (Or.inl ⟨by rfl, ?_⟩) (by assumption) ?_
          rotate_left
          · intro w hSw; (dsimp only [Cs] at hSw); go_simp; (try with_reducible rfl)
          try simp only [Act.put, List.setIfInBounds_toArray, List.set_cons_zero, List.set_cons_succ]
          refine wpAnyH_ready (rs := [41]) (by kernel_rfl) (by simp) ?_
          refine AllReadyH.cons rfl (fun K hK => ?_) AllReadyH.nil
          go_simp
          refine (HC9.out _).mono ?_
          rintro e wK ⟨rfl, hbK⟩
          go_wp2_with fail
          refine hK.out _ _ ?_ (fun hHeld => ?_)
          · exact ⟨Cs.below hSK.1 hbK, hSK.2.1.below hbK, hSK.2.2.1.below hbK, hSK.2.2.2.below hbK⟩
          clear hSK
          have hSK := hHeld
          clear hHeld
          clear hK K
          try simp only [Act.put, List.setIfInBounds_toArray, List.set_cons_zero, List.set_cons_succ]
          refine wpAnyH_ready (rs := [44]) (by kernel_rfl) (by simp) ?_
          refine AllReadyH.cons rfl (fun K hK => ?_) AllReadyH.nil
          go_simp
          refine (HC0.out _).mono ?_
          rintro e wK ⟨rfl, hbK⟩
          go_wp2_with fail
          refine hK.out _ _ ?_ (fun hHeld => ?_)
          · exact ⟨Cs.below hSK.1 hbK, hSK.2.1.below hbK, hSK.2.2.1.below hbK, hSK.2.2.2.below hbK⟩
          clear hSK
          have hSK := hHeld
          clear hHeld
          clear hK K
          try simp only [Act.put, List.setIfInBounds_toArray, List.set_cons_zero, List.set_cons_succ]
          refine take_d (some 123) (i := 45) (v := ?_) rfl rfl (by kernel_rfl) (by kernel_rfl) (by kernel_rfl) (fun _ _ _ h => h) (Or.inl ⟨by rfl, ?_⟩) (by assumption) ?_
          rotate_left
          · intro w hSw; (dsimp only [Cs] at hSw); go_simp; (try with_reducible rfl)
          try simp only [Act.put, List.setIfInBounds_toArray, List.set_cons_zero, List.set_cons_succ]
          refine take_d (some 124) (i := 46) (v := ?_) rfl rfl (by kernel_rfl) (by kernel_rfl) (by kernel_rfl) (fun _ _ _ h => h) (Or.inl ⟨by rfl, ?_⟩) (by assumption) ?_
          rotate_left
          · intro w hSw; (dsimp only [Cs] at hSw); go_simp; (try with_reducible rfl)
          try simp only [Act.put, List.setIfInBounds_toArray, List.set_cons_zero, List.set_cons_succ]
          refine wpAnyH_done (by kernel_rfl) ?_ _
          have hST2 := Lib.hid hSK.2.1
          have hA2 := Lib.hid hSK.2.2.1
          have hB2 := Lib.hid hSK.2.2.2
          clear hSK hSTc hAc hNb HC1 HC2 HC3 HC4 HC5 HC6 HC7 HC8 HC9 HC0
          go_wp2_with fail
          go_loopw [127] (fun t W => ∃ k : Nat, k ≤ 7 ∧ t = .int .i64 k ∧ Hid (BST w sb lb L7 W) ∧ Hid (BalX W ab ca Ba) ∧ Hid (BalX W bb cb Bb)) (fun t _ => 7 - (intOf t).toNat)
          case atStart => exact ⟨0, by omega, rfl, hST2, hA2, hB2⟩
          case round =>
            obtain ⟨kc, hkc, rfl, hSTc, hAc, hBc⟩ := hrel
            clear hlt
            by_cases hlt : kc < 7
            · obtain ⟨⟨cc, Bc⟩, hel⟩ : ∃ b, L7[kc]? = some b := ⟨_, List.getElem?_eq_getElem (by rw [HN7.out]; exact hlt)⟩
              obtain ⟨eb, eo, heq, _, _, he23⟩ := hSTc.out.row.at_ hel
              simp only [Option.some.injEq, Addr.mk.injEq] at heq
              obtain ⟨rfl, rfl, _⟩ := heq
              have d0 : wr.cell? ⟨lb, 0 + kc * 2, none⟩ = some (.int .i64 cc) := he23 0 _ rfl
              have d1 : wr.cell? ⟨lb, 0 + kc * 2 + 1, none⟩ = some (.string Bc) := he23 1 _ rfl
              rw [Nat.zero_add] at d0 d1
              have hNb := Lib.hid (BalX.new wr cc Bc)
              have hblt : sb < wr.heap.size := hSTc.out.src.lt
              have hSTd := Lib.hid (hSTc.out.alloc (.cells #[.int .i64 cc, .string Bc] 25))
              have hAd := Lib.hid (hAc.out.alloc (.cells #[.int .i64 cc, .string Bc] 25))
              have hBd := Lib.hid (hBc.out.alloc (.cells #[.int .i64 cc, .string Bc] 25))
              have HC1 := Lib.hid (fun W => prep_s ca Ba cb Bb cc Bc W)
              have HC2 := Lib.hid (fun W => prep_r ca Ba cb Bb cc Bc W)
              generalize prepX ca Ba cb Bb cc Bc = y1 at *
              clear hel he23 hSTc hAc hBc
              go_upto_region 20 with fail
              generalize wr.alloc (.cells #[.int .i64 cc, .string Bc] 25) = Wc at *
              generalize wr.heap.size = xc at *
              clear d0 d1
              have hS : Cs [(⟨ab, 0, none⟩, .int .i64 ca), (⟨ab, 1, none⟩, .string Ba), (⟨bb, 0, none⟩, .int .i64 cb), (⟨bb, 1, none⟩, .string Bb), (⟨xc, 0, none⟩, .int .i64 cc), (⟨xc, 1, none⟩, .string Bc)] Wc.drew ∧ BST w sb lb L7 Wc.drew ∧ BalX Wc.drew ab ca Ba ∧ BalX Wc.drew bb cb Bb := ⟨⟨hAd.out.cs.1, hAd.out.cs.2, hBd.out.cs.1, hBd.out.cs.2, hNb.out.cs.1, hNb.out.cs.2, trivial⟩, hSTd.out.below (bdrew (bref _)), hAd.out.below (bdrew (bref _)), hBd.out.below (bdrew (bref _))⟩
              refine wp_region_held_drew (S := (fun W => Cs [(⟨ab, 0, none⟩, .int .i64 ca), (⟨ab, 1, none⟩, .string Ba), (⟨bb, 0, none⟩, .int .i64 cb), (⟨bb, 1, none⟩, .string Bb), (⟨xc, 0, none⟩, .int .i64 cc), (⟨xc, 1, none⟩, .string Bc)] W ∧ BST w sb lb L7 W ∧ BalX W ab ca Ba ∧ BalX W bb cb Bb)) (by kernel_rfl) hS (fun hSK => ?_)
              clear hS
              refine take_d (some 131) (i := 0) (v := ?_) rfl rfl (by kernel_rfl) (by kernel_rfl) (by kernel_rfl) (fun _ _ _ h => h) (Or.inl ⟨by rfl, ?_⟩) (by assumption) ?_
              rotate_left
              · intro w hSw; (dsimp only [Cs] at hSw); go_simp; (try with_reducible rfl)
              try simp only [Act.put, List.setIfInBounds_toArray, List.set_cons_zero, List.set_cons_succ]
              refine take_d (some 132) (i := 1) (v := ?_) rfl rfl (by kernel_rfl) (by kernel_rfl) (by kernel_rfl) (fun _ _ _ h => h) (Or.inl ⟨by rfl, ?_⟩) (by assumption) ?_
              rotate_left
              · intro w hSw; (dsimp only [Cs] at hSw); go_simp; (try with_reducible rfl)
              try simp only [Act.put, List.setIfInBounds_toArray, List.set_cons_zero, List.set_cons_succ]
              refine take_d (some 133) (i := 2) (v := ?_) rfl rfl (by kernel_rfl) (by kernel_rfl) (by kernel_rfl) (fun _ _ _ h => h) (Or.inl ⟨by rfl, ?_⟩) (by assumption) ?_
              rotate_left
              · intro w hSw; (dsimp only [Cs] at hSw); go_simp; (try with_reducible rfl)
              try simp only [Act.put, List.setIfInBounds_toArray, List.set_cons_zero, List.set_cons_succ]
              refine take_d (some 135) (i := 4) (v := ?_) rfl rfl (by kernel_rfl) (by kernel_rfl) (by kernel_rfl) (fun _ _ _ h => h) (Or.inl ⟨by rfl, ?_⟩) (by assumption) ?_
              rotate_left
              · intro w hSw; (dsimp only [Cs] at hSw); go_simp; (try with_reducible rfl)
              try simp only [Act.put, List.setIfInBounds_toArray, List.set_cons_zero, List.set_cons_succ]
              refine take_d (some 136) (i := 5) (v := ?_) rfl rfl (by kernel_rfl) (by kernel_rfl) (by kernel_rfl) (fun _ _ _ h => h) (Or.inl ⟨by rfl, ?_⟩) (by assumption) ?_
              rotate_left
              · intro w hSw; (dsimp only [Cs] at hSw); go_simp; (try with_reducible rfl)
              try simp only [Act.put, List.setIfInBounds_toArray, List.set_cons_zero, List.set_cons_succ]
              refine take_d (some 137) (i := 6) (v := ?_) rfl rfl (by kernel_rfl) (by kernel_rfl) (by kernel_rfl) (fun _ _ _ h => h) (Or.inl ⟨by rfl, ?_⟩) (by assumption) ?_
              rotate_left
              · intro w hSw; (dsimp only [Cs] at hSw); go_simp; (try with_reducible rfl)
              try simp only [Act.put, List.setIfInBounds_toArray, List.set_cons_zero, List.set_cons_succ]
              refine wpAnyH_ready (rs := [3]) (by kernel_rfl) (by simp) ?_
              refine AllReadyH.cons rfl (fun K hK => ?_) AllReadyH.nil
              go_simp
              refine (HC1.out _).mono ?_
              rintro e wK ⟨rfl, hbK⟩
              go_wp2_with fail
              refine hK.out _ _ ?_ (fun hHeld => ?_)
              · exact ⟨Cs.below hSK.1 hbK, hSK.2.1.below hbK, hSK.2.2.1.below hbK, hSK.2.2.2.below hbK⟩
              clear hSK
              have hSK := hHeld
              clear hHeld
              clear hK K
              try simp only [Act.put, List.setIfInBounds_toArray, List.set_cons_zero, List.set_cons_succ]
              refine wpAnyH_ready (rs := [7]) (by kernel_rfl) (by simp) ?_
              refine AllReadyH.cons rfl (fun K hK => ?_) AllReadyH.nil
              go_simp
              refine (HC2.out _).mono ?_
              rintro e wK ⟨rfl, hbK⟩
              go_wp2_with fail
              refine hK.out _ _ ?_ (fun hHeld => ?_)
              · exact ⟨Cs.below hSK.1 hbK, hSK.2.1.below hbK, hSK.2.2.1.below hbK, hSK.2.2.2.below hbK⟩
              clear hSK
              have hSK := hHeld
              clear hHeld
              clear hK K
              try simp only [Act.put, List.setIfInBounds_toArray, List.set_cons_zero, List.set_cons_succ]
              refine take_d (some 139) (i := 8) (v := ?_) rfl rfl (by kernel_rfl) (by kernel_rfl) (by kernel_rfl) (fun _ _ _ h => h) (Or.inl ⟨by rfl, ?_⟩) (by assumption) ?_
              rotate_left
              · intro w hSw; (dsimp only [Cs] at hSw); go_simp; (try with_reducible rfl)
              try simp only [Act.put, List.setIfInBounds_toArray, List.set_cons_zero, List.set_cons_succ]
              refine wpAnyH_done (by kernel_rfl) ?_ _
              have hST3 := Lib.hid hSK.2.1
              have hA3 := Lib.hid hSK.2.2.1
              have hB3 := Lib.hid hSK.2.2.2
              clear hSK
              go_wp2_with fail
              go_roundw
              case rel => exact ⟨kc + 1, by omega, by go_num, hST3, hA3, hB3⟩
              case measure => simp [intOf]; omega
            · obtain rfl : 7 = kc := by omega
              go_wp2_with fail
              refine (Odd_run2 _ _ hSTc.out.src).mono ?_
              rintro e u1 ⟨o2, ho2, rfl, hs1, hg1⟩
              have hST4 := Lib.hid (hSTc.out.grown hs1 hg1 (by omega))
              have hA4 := Lib.hid (hAc.out.grown hg1 (by omega))
              have hB4 := Lib.hid (hBc.out.grown hg1 (by omega))
              clear hs1 hg1 hSTc hAc hBc
              go_wp2_with fail
              refine (Range_run _ _ 1 6 (by omega) (by omega) (by omega) hST4.out.src).mono ?_
              rintro e u2 ⟨o3, ho3, ho4, rfl, hs1, hg1⟩
              have hST5 := Lib.hid (hST4.out.grown hs1 hg1 (by omega))
              have hA5 := Lib.hid (hA4.out.grown hg1 (by omega))
              have hB5 := Lib.hid (hB4.out.grown hg1 (by omega))
              clear hs1 hg1 hST4 hA4 hB4
              go_wp2_with fail
              go_loopw [147] (fun t W => ∃ k : Nat, k ≤ 3 ∧ t = .int .i64 k ∧ Hid (BST w sb lb L7 W) ∧ Hid (BalX W ab ca Ba) ∧ Hid (BalX W bb cb Bb)) (fun t _ => 3 - (intOf t).toNat)
              case atStart => exact ⟨0, by omega, rfl, hST5, hA5, hB5⟩
              case round =>
                obtain ⟨kd, hkd, rfl, hSTd, hAd, hBd⟩ := hrel
                by_cases hld : kd < 3
                · obtain ⟨x, hidx, hx⟩ : ∃ x : Int, (∀ W, (Instr.index 38 (.agg #[.int .i64 a5, .int .i64 o2, .int .i64 o3]) (.int .i64 (kd : Int))).run Try.prog W = .ok (.int .i64 x) W) ∧ x ≤ 9223372036854775807 := by
                    match kd, hld with
                    | 0, _ => exact ⟨a5, fun _ => by kernel_rfl, ha5⟩
                    | 1, _ => exact ⟨o2, fun _ => by kernel_rfl, ho2⟩
                    | 2, _ => exact ⟨o3, fun _ => by kernel_rfl, by omega⟩
                  have HLV := Lib.hid (fun V W => lowest_s V x ca Ba cb Bb W hx)
                  have HL1 := Lib.hid (fun W => lowest_s ⟨#[97]⟩ x ca Ba cb Bb W hx)
                  have HL2 := Lib.hid (fun W => lowest_r ⟨#[97]⟩ x ca Ba cb Bb W hx)
                  have HGE := Lib.hid (fun V => (sAt_bd V x ca Ba cb Bb hx 2).1)
                  generalize sAt ⟨#[97]⟩ x ca Ba cb Bb 2 = m2 at HL1 HL2
                  clear hx
                  go_upto_region 26 with fail
                  clear hidx
                  have hS : Cs [(⟨ab, 0, none⟩, .int .i64 ca), (⟨ab, 1, none⟩, .string Ba), (⟨bb, 0, none⟩, .int .i64 cb), (⟨bb, 1, none⟩, .string Bb)] wr.drew ∧ BST w sb lb L7 wr.drew ∧ BalX wr.drew ab ca Ba ∧ BalX wr.drew bb cb Bb := ⟨⟨hAd.out.cs.1, hAd.out.cs.2, hBd.out.cs.1, hBd.out.cs.2, trivial⟩, hSTd.out.below (bdrew (bref _)), hAd.out.below (bdrew (bref _)), hBd.out.below (bdrew (bref _))⟩
                  refine wp_region_held_drew (S := (fun W => Cs [(⟨ab, 0, none⟩, .int .i64 ca), (⟨ab, 1, none⟩, .string Ba), (⟨bb, 0, none⟩, .int .i64 cb), (⟨bb, 1, none⟩, .string Bb)] W ∧ BST w sb lb L7 W ∧ BalX W ab ca Ba ∧ BalX W bb cb Bb)) (by kernel_rfl) hS (fun hSK => ?_)
                  clear hS
                  refine take_d (some 150) (i := 0) (v := ?_) rfl rfl (by kernel_rfl) (by kernel_rfl) (by kernel_rfl) (fun _ _ _ h => h) (Or.inl ⟨by rfl, ?_⟩) (by assumption) ?_
                  rotate_left
                  · intro w hSw; (dsimp only [Cs] at hSw); go_simp; (try with_reducible rfl)
                  try simp only [Act.put, List.setIfInBounds_toArray, List.set_cons_zero, List.set_cons_succ]
                  refine take_d (some 152) (i := 2) (v := ?_) rfl rfl (by kernel_rfl) (by kernel_rfl) (by kernel_rfl) (fun _ _ _ h => h) (Or.inl ⟨by rfl, ?_⟩) (by assumption) ?_
                  rotate_left
                  · intro w hSw; (dsimp only [Cs] at hSw); go_simp; (try with_reducible rfl)
                  try simp only [Act.put, List.setIfInBounds_toArray, List.set_cons_zero, List.set_cons_succ]
                  refine take_d (some 153) (i := 3) (v := ?_) rfl rfl (by kernel_rfl) (by kernel_rfl) (by kernel_rfl) (fun _ _ _ h => h) (Or.inl ⟨by rfl, ?_⟩) (by assumption) ?_
                  rotate_left
                  · intro w hSw; (dsimp only [Cs] at hSw); go_simp; (try with_reducible rfl)
                  try simp only [Act.put, List.setIfInBounds_toArray, List.set_cons_zero, List.set_cons_succ]
                  refine take_d (some 154) (i := 4) (v := ?_) rfl rfl (by kernel_rfl) (by kernel_rfl) (by kernel_rfl) (fun _ _ _ h => h) (Or.inl ⟨by rfl, ?_⟩) (by assumption) ?_
                  rotate_left
                  · intro w hSw; (dsimp only [Cs] at hSw); go_simp; (try with_reducible rfl)
                  try simp only [Act.put, List.setIfInBounds_toArray, List.set_cons_zero, List.set_cons_succ]
                  refine wpAnyH_ready (rs := [1]) (by kernel_rfl) (by simp) ?_
                  refine AllReadyH.cons rfl (fun K hK => ?_) AllReadyH.nil
                  go_simp
                  refine (Value_run _ _ hSK.2.1.src).mono ?_
                  rintro e wK ⟨jv, _, _, rfl, hsK, hgK⟩
                  have hxa := hSK.2.2.1.grown hgK (by omega)
                  have hxb := hSK.2.2.2.grown hgK (by omega)
                  go_wp2_with fail
                  refine hK.out _ _ ?_ (fun hHeld => ?_)
                  · exact ⟨⟨hxa.cs.1, hxa.cs.2, hxb.cs.1, hxb.cs.2, trivial⟩, hSK.2.1.grown hsK hgK (by omega), hxa, hxb⟩
                  clear hSK
                  have hSK := hHeld
                  clear hHeld
                  clear hK K
                  try simp only [Act.put, List.setIfInBounds_toArray, List.set_cons_zero, List.set_cons_succ]
                  refine wpAnyH_ready (rs := [5]) (by kernel_rfl) (by simp) ?_
                  refine AllReadyH.cons rfl (fun K hK => ?_) AllReadyH.nil
                  go_simp
                  refine (HLV.out _ _).mono ?_
                  rintro e wK ⟨rfl, hbK⟩
                  have hge := HGE.out (valOf jv)
                  generalize sAt (valOf jv) x ca Ba cb Bb 2 = m1 at hge ⊢
                  have qm : decide (m1 < 1) = false := decide_eq_false (by omega)
                  go_wp2_with fail
                  refine hK.out _ _ ?_ (fun hHeld => ?_)
                  · exact ⟨Cs.below hSK.1 hbK, hSK.2.1.below hbK, hSK.2.2.1.below hbK, hSK.2.2.2.below hbK⟩
                  clear hSK
                  have hSK := hHeld
                  clear hHeld
                  clear hK K
                  try simp only [Act.put, List.setIfInBounds_toArray, List.set_cons_zero, List.set_cons_succ]
                  refine take_d (some 156) (i := 6) (v := ?_) rfl rfl (by kernel_rfl) (by kernel_rfl) (by kernel_rfl) (fun _ _ _ h => h) (Or.inl ⟨by rfl, ?_⟩) (by assumption) ?_
                  rotate_left
                  · intro w hSw; (dsimp only [Cs] at hSw); go_simp; (try with_reducible rfl)
                  try simp only [Act.put, List.setIfInBounds_toArray, List.set_cons_zero, List.set_cons_succ]
                  refine take_d (some 157) (i := 7) (v := ?_) rfl rfl (by kernel_rfl) (by kernel_rfl) (by kernel_rfl) (fun _ _ _ h => h) (Or.inl ⟨by rfl, ?_⟩) (by assumption) ?_
                  rotate_left
                  · intro w hSw; (dsimp only [Cs] at hSw); go_simp; (try with_reducible rfl)
                  try simp only [Act.put, List.setIfInBounds_toArray, List.set_cons_zero, List.set_cons_succ]
                  refine take_d (some 158) (i := 8) (v := ?_) rfl rfl (by kernel_rfl) (by kernel_rfl) (by kernel_rfl) (fun _ _ _ h => h) (Or.inl ⟨by rfl, ?_⟩) (by assumption) ?_
                  rotate_left
                  · intro w hSw; (dsimp only [Cs] at hSw); go_simp; (try with_reducible rfl)
                  try simp only [Act.put, List.setIfInBounds_toArray, List.set_cons_zero, List.set_cons_succ]
                  refine take_d (some 159) (i := 9) (v := ?_) rfl rfl (by kernel_rfl) (by kernel_rfl) (by kernel_rfl) (fun _ _ _ h => h) (Or.inl ⟨by rfl, ?_⟩) (by assumption) ?_
                  rotate_left
                  · intro w hSw; (dsimp only [Cs] at hSw); go_simp; (try with_reducible rfl)
                  try simp only [Act.put, List.setIfInBounds_toArray, List.set_cons_zero, List.set_cons_succ]
                  refine take_d (some 160) (i := 10) (v := ?_) rfl rfl (by kernel_rfl) (by kernel_rfl) (by kernel_rfl) (fun _ _ _ h => h) (Or.inl ⟨by rfl, ?_⟩) (by assumption) ?_
                  rotate_left
                  · intro w hSw; (dsimp only [Cs] at hSw); go_simp; (try with_reducible rfl)
                  try simp only [Act.put, List.setIfInBounds_toArray, List.set_cons_zero, List.set_cons_succ]
                  refine take_d (some 162) (i := 12) (v := ?_) rfl rfl (by kernel_rfl) (by kernel_rfl) (by kernel_rfl) (fun _ _ _ h => h) (Or.inl ⟨by rfl, ?_⟩) (by assumption) ?_
                  rotate_left
                  · intro w hSw; (dsimp only [Cs] at hSw); go_simp; (try with_reducible rfl)
                  try simp only [Act.put, List.setIfInBounds_toArray, List.set_cons_zero, List.set_cons_succ]
                  refine take_d (some 163) (i := 13) (v := ?_) rfl rfl (by kernel_rfl) (by kernel_rfl) (by kernel_rfl) (fun _ _ _ h => h) (Or.inl ⟨by rfl, ?_⟩) (by assumption) ?_
                  rotate_left
                  · intro w hSw; (dsimp only [Cs] at hSw); go_simp; (try with_reducible rfl)
                  try simp only [Act.put, List.setIfInBounds_toArray, List.set_cons_zero, List.set_cons_succ]
                  refine take_d (some 164) (i := 14) (v := ?_) rfl rfl (by kernel_rfl) (by kernel_rfl) (by kernel_rfl) (fun _ _ _ h => h) (Or.inl ⟨by rfl, ?_⟩) (by assumption) ?_
                  rotate_left
                  · intro w hSw; (dsimp only [Cs] at hSw); go_simp; (try with_reducible rfl)
                  try simp only [Act.put, List.setIfInBounds_toArray, List.set_cons_zero, List.set_cons_succ]
                  refine wpAnyH_ready (rs := [11]) (by kernel_rfl) (by simp) ?_
                  refine AllReadyH.cons rfl (fun K hK => ?_) AllReadyH.nil
                  go_simp
                  refine (HL1.out _).mono ?_
                  rintro e wK ⟨rfl, hbK⟩
                  go_wp2_with fail
                  refine hK.out _ _ ?_ (fun hHeld => ?_)
                  · exact ⟨Cs.below hSK.1 hbK, hSK.2.1.below hbK, hSK.2.2.1.below hbK, hSK.2.2.2.below hbK⟩
                  clear hSK
                  have hSK := hHeld
                  clear hHeld
                  clear hK K
                  try simp only [Act.put, List.setIfInBounds_toArray, List.set_cons_zero, List.set_cons_succ]
                  refine wpAnyH_ready (rs := [15]) (by kernel_rfl) (by simp) ?_
                  refine AllReadyH.cons rfl (fun K hK => ?_) AllReadyH.nil
                  go_simp
                  refine (HL2.out _).mono ?_
                  rintro e wK ⟨rfl, hbK⟩
                  go_wp2_with fail
                  refine hK.out _ _ ?_ (fun hHeld => ?_)
                  · exact ⟨Cs.below hSK.1 hbK, hSK.2.1.below hbK, hSK.2.2.1.below hbK, hSK.2.2.2.below hbK⟩
                  clear hSK
                  have hSK := hHeld
                  clear hHeld
                  clear hK K
                  try simp only [Act.put, List.setIfInBounds_toArray, List.set_cons_zero, List.set_cons_succ]
                  refine take_d (some 166) (i := 16) (v := ?_) rfl rfl (by kernel_rfl) (by kernel_rfl) (by kernel_rfl) (fun _ _ _ h => h) (Or.inl ⟨by rfl, ?_⟩) (by assumption) ?_
                  rotate_left
                  · intro w hSw; (dsimp only [Cs] at hSw); go_simp; (try with_reducible rfl)
                  try simp only [Act.put, List.setIfInBounds_toArray, List.set_cons_zero, List.set_cons_succ]
                  refine take_d (some 167) (i := 17) (v := ?_) rfl rfl (by kernel_rfl) (by kernel_rfl) (by kernel_rfl) (fun _ _ _ h => h) (Or.inl ⟨by rfl, ?_⟩) (by assumption) ?_
                  rotate_left
                  · intro w hSw; (dsimp only [Cs] at hSw); go_simp; (try with_reducible rfl)
                  try simp only [Act.put, List.setIfInBounds_toArray, List.set_cons_zero, List.set_cons_succ]
                  refine wpAnyH_done (by kernel_rfl) ?_ _
                  have hST6 := Lib.hid hSK.2.1
                  have hA6 := Lib.hid hSK.2.2.1
                  have hB6 := Lib.hid hSK.2.2.2
                  clear hSK
                  go_wp2_with fail
                  go_roundw
                  case rel => exact ⟨kd + 1, by omega, by go_num, hST6, hA6, hB6⟩
                  case measure => simp [intOf]; omega
                · obtain rfl : 3 = kd := by omega
                  go_wp2_with fail
                  go_roundw
                  case rel => exact ⟨kb + 1, by omega, by go_num, hSTd, hAd⟩
                  case measure => simp [intOf]; omega
        · obtain rfl : 7 = kb := by omega
          go_wp2_with fail
          go_roundw
          case rel => exact ⟨ka + 1, by omega, by go_num, hSTb⟩
          case measure => simp [intOf]; omega
    · obtain rfl : 7 = ka := by omega
      have HG1 := Lib.hid (fun W (hW : BRow W (.slice (some ⟨lb, 0, none⟩) 7 7) L7) => greatest_x L7 (.slice (some ⟨lb, 0, none⟩) 7 7) W (by have := HN7.out; omega) hW)
      have HG2 := Lib.hid (fun W (hW : BRow W (.slice (some ⟨lb, 0, none⟩) 7 7) L7) => rgreatest_x L7 (.slice (some ⟨lb, 0, none⟩) 7 7) W (by have := HN7.out; omega) hW)
      generalize (grX L7).1 = hc7 at *
      generalize (grX L7).2 = hB7 at *
      go_wp2_with fail
      refine (HG1.out _ (hSTa.out.row.imp (fun _ _ _ => trivial))).mono ?_
      rintro e u4 ⟨rfl, hb4⟩
      have hST8 := Lib.hid (hSTa.out.below hb4)
      clear hb4
      go_wp2_with fail
      refine (HG2.out _ (hST8.out.row.imp (fun _ _ _ => trivial))).mono ?_
      rintro e u5 ⟨rfl, hb5⟩
      have hST9 := Lib.hid (hST8.out.below hb5)
      clear hb5
      go_wp2_with fail
      refine (sane23 _).mono ?_
      rintro e u6 ⟨rfl, hb6⟩
      have HBF := Lib.hid (bstep hST9.out.bel hb6)
      clear hb6
      go_wp2_with fail
      go_ret
      exact ⟨rfl, HBF.out⟩
end Go.Proofs.Ytnnajmoedihkjaa
