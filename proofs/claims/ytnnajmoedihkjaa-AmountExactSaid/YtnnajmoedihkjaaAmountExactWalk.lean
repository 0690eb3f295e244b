/- The walk of AmountExact. -/
import Derived.Test.YtnnajmoedihkjaaLess35
import Derived.Test.YtnnajmoedihkjaaSrc
import Derived.Test.YtnnajmoedihkjaaCs
import Derived.Test.YtnnajmoedihkjaaHeldF
import Derived.Deep.DeepCutAuto
import Derived.Deep.CutBlock
import Derived.Deep.CutRange
namespace Go.Proofs.Ytnnajmoedihkjaa
set_option linter.unusedVariables false
set_option linter.unusedSimpArgs false
open Go.RowKit Go.PlainAid

theorem sumV_form (x a b : Int) : ∃ y e : Int, sumV x a b = .tuple #[.int .i64 y, .int .i64 e] := by
  unfold sumV
  split
  · exact ⟨_, _, rfl⟩
  · exact ⟨_, _, rfl⟩
theorem codeOf_sz {s : Nat} (h : s ≤ 2) : (codeOf s).size ≤ 60 := by
  match s, h with
  | 0, _ | 1, _ | 2, _ => decide
theorem grown_cell2 {W W' : World} {sb : Nat} (hg : W.grownBy W' (some sb)) {p : Addr} {v : Value} (h : W.cell? p = some v) (hp : p.block ≠ sb) : W'.cell? p = some v :=
  (World.cell?_of_block (hg.block _ (cell_lt h) (fun e => hp (Option.some.inj e)))).trans h
theorem Cs2.grown2 {g : Nat} {B : ByteArray} {i : Int} {W W' : World} {sb : Nat} (h : Cs2 g B i W) (hg : W.grownBy W' (some sb)) (hp : g ≠ sb) : Cs2 g B i W' := ⟨grown_cell2 hg h.1 hp, grown_cell2 hg h.2 hp⟩
theorem IsRow.below {k : IntKind} {w w' : World} {a : Option Addr} {len cap : Nat} {zs : List Int} (h : IsRow k w a len cap zs) (hb : Below w.heap.size w w') : IsRow k w' a len cap zs := by
  rcases h with h | ⟨x, h1, h2, h3, h4, h5, h6⟩
  · exact .inl h
  · exact .inr ⟨x, h1, h2, h3, h4, fun i hi => (hb.cell (cell_lt (h5 i hi))).trans (h5 i hi), h6⟩

set_option maxRecDepth 100000 in
set_option maxHeartbeats 8000000 in
theorem walkAmountExact (a0 : Option Addr) (len0 cap0 : Nat) (z0 : List Int) (a1 a2 a3 a4 : Int) (B5 : ByteArray) (i5 : Int) (B6 : ByteArray) (i6 : Int) (w : World) (w0 : IsRow .i64 w a0 len0 cap0 z0) :
    Calls Try.prog 4 #[.slice a0 len0 cap0, .int .i64 a1, .int .i64 a2, .int .i64 a3, .int .i64 a4, .agg #[.string B5, .int .i64 i5], .agg #[.string B6, .int .i64 i6]] w fun e w' => e = .returned (.bool true) ∧ Below w.heap.size w w' := by
  have HR := Lib.hid w0
  clear w0
  have hb0 := balloc (balloc (bref w) (.cells #[.string B5, .int .i64 i5] 43)) (.cells #[.string B6, .int .i64 i6] 43)
  have HX0 := Lib.hid (show Cs2 w.heap.size B5 i5 ((w.alloc (.cells #[.string B5, .int .i64 i5] 43)).alloc (.cells #[.string B6, .int .i64 i6] 43)) from (Cs2.new w B5 i5).below (balloc (bref _) _))
  have hy := Cs2.new (w.alloc (.cells #[.string B5, .int .i64 i5] 43)) B6 i6
  rw [show (w.alloc (.cells #[.string B5, .int .i64 i5] 43)).heap.size = w.heap.size + 1 by simp] at hy
  have HY0 := Lib.hid (show Cs2 (w.heap.size + 1) B6 i6 ((w.alloc (.cells #[.string B5, .int .i64 i5] 43)).alloc (.cells #[.string B6, .int .i64 i6] 43)) from hy)
  have HB0 := Lib.hid hb0
  have HZ0 := Lib.hid (show ((w.alloc (.cells #[.string B5, .int .i64 i5] 43)).alloc (.cells #[.string B6, .int .i64 i6] 43)).heap.size = w.heap.size + 2 by simp)
  have HR0 := Lib.hid (show IsRow .i64 ((w.alloc (.cells #[.string B5, .int .i64 i5] 43)).alloc (.cells #[.string B6, .int .i64 i6] 43)) a0 len0 cap0 z0 from HR.out.below hb0)
  clear hb0 hy
  rcases (show (60 : Int) < (B5.size : Int) ∨ ¬ (60 : Int) < (B5.size : Int) by omega) with h5 | h5
  · go_enter Try.func4, Try.ntmps4
    go_upto_region 1 with fail
    generalize (w.alloc (.cells #[.string B5, .int .i64 i5] 43)).alloc (.cells #[.string B6, .int .i64 i6] 43) = W0 at *
    obtain ⟨x_0, x_1⟩ := HX0.out
    obtain ⟨y_0, y_1⟩ := HY0.out
    go_wp2_with fail
    refine (sane_ok _).mono ?_
    rintro e W1 ⟨rfl, hb1⟩
    have HB1 := Lib.hid (bstep HB0.out hb1)
    clear hb1
    go_wp2_with fail
    go_ret
    exact ⟨rfl, HB1.out⟩
  rcases (show (60 : Int) < (B6.size : Int) ∨ ¬ (60 : Int) < (B6.size : Int) by omega) with h6 | h6
  · go_enter Try.func4, Try.ntmps4
    go_upto_region 1 with fail
    generalize (w.alloc (.cells #[.string B5, .int .i64 i5] 43)).alloc (.cells #[.string B6, .int .i64 i6] 43) = W0 at *
    obtain ⟨x_0, x_1⟩ := HX0.out
    obtain ⟨y_0, y_1⟩ := HY0.out
    go_wp2_with fail
    refine (sane_ok _).mono ?_
    rintro e W1 ⟨rfl, hb1⟩
    have HB1 := Lib.hid (bstep HB0.out hb1)
    clear hb1
    go_wp2_with fail
    go_ret
    exact ⟨rfl, HB1.out⟩
  have hz5 : B5.size ≤ 60 := by omega
  have hz6 : B6.size ≤ 60 := by omega
  go_enter Try.func4, Try.ntmps4
  go_upto_region 1 with fail
  generalize (w.alloc (.cells #[.string B5, .int .i64 i5] 43)).alloc (.cells #[.string B6, .int .i64 i6] 43) = W0 at *
  obtain ⟨x_0, x_1⟩ := HX0.out
  obtain ⟨y_0, y_1⟩ := HY0.out
  go_wp2_with fail
  clear x_0 x_1 y_0 y_1 h5 h6
  refine (New_run _ _ _ _ _ HR0.out).mono ?_
  rintro e v1 ⟨rfl, hs1, hb1⟩
  rw [HZ0.out] at hs1 ⊢
  have HS1 := Lib.hid hs1
  have HX1 := Lib.hid (HX0.out.below hb1)
  have HY1 := Lib.hid (HY0.out.below hb1)
  have HB1 := Lib.hid (bstep HB0.out hb1)
  clear hs1 hb1
  go_wp2_with fail
  refine (Odd_run _ _ HS1.out).mono ?_
  rintro e v2 ⟨o1, rfl, hs2, hg2⟩
  have HS2 := Lib.hid hs2
  have HX2 := Lib.hid (HX1.out.grown2 hg2 (by omega))
  have HY2 := Lib.hid (HY1.out.grown2 hg2 (by omega))
  have HB2 := Lib.hid (show Below w.heap.size w v2 from Below.grown HB1.out hg2 HB1.out.size (fun j hj => by cases hj; omega))
  clear hs2 hg2
  go_wp2_with fail
  refine (Odd_run _ _ HS2.out).mono ?_
  rintro e v2b ⟨o2, rfl, hs2, hg2⟩
  have HS3 := Lib.hid hs2
  have HX3 := Lib.hid (HX2.out.grown2 hg2 (by omega))
  have HY3 := Lib.hid (HY2.out.grown2 hg2 (by omega))
  have HB3 := Lib.hid (show Below w.heap.size w v2b from Below.grown HB2.out hg2 HB2.out.size (fun j hj => by cases hj; omega))
  clear hs2 hg2
  go_wp2_with fail
  refine (Range_run _ _ 0 1000 (by omega) (by omega) (by omega) HS3.out).mono ?_
  rintro e v3 ⟨o3, ho30, ho31, rfl, hs2, hg2⟩
  have hba := balloc (bref v3) (.cells #[.int .i64 a1, .int .i64 a2, .int .i64 a3, .int .i64 a4, .int .i64 o1, .int .i64 o2, .int .i64 o3] 3)
  have HS4 := Lib.hid (hs2.below hba)
  have HX4 := Lib.hid ((HX3.out.grown2 hg2 (by omega)).below hba)
  have HY4 := Lib.hid ((HY3.out.grown2 hg2 (by omega)).below hba)
  have HB4 := Lib.hid (bstep (show Below w.heap.size w v3 from Below.grown HB3.out hg2 HB3.out.size (fun j hj => by cases hj; omega)) hba)
  have HRW := Lib.hid (show ∀ j, (v3.alloc (.cells #[.int .i64 a1, .int .i64 a2, .int .i64 a3, .int .i64 a4, .int .i64 o1, .int .i64 o2, .int .i64 o3] 3)).cell? ⟨v3.heap.size, j, none⟩ = (#[.int .i64 a1, .int .i64 a2, .int .i64 a3, .int .i64 a4, .int .i64 o1, .int .i64 o2, .int .i64 o3] : Array Value)[j]? from fun j => row_new _ _ _ j)
  clear hs2 hg2 hba HX0 HY0 HB0 HZ0 HR0 HX1 HY1 HB1 HS1 HX2 HY2 HB2 HS2 HX3 HY3 HB3 HS3
  go_upto_region 5 with fail
  generalize v3.alloc (.cells #[.int .i64 a1, .int .i64 a2, .int .i64 a3, .int .i64 a4, .int .i64 o1, .int .i64 o2, .int .i64 o3] 3) = v4 at *
  generalize v3.heap.size = lb at *
  obtain ⟨L, hL⟩ : ∃ L : List Int, [a1, a2, a3, a4, o1, o2, o3] = L := ⟨_, rfl⟩
  have HLC := Lib.hid (show ∀ j, j < 7 → v4.cell? ⟨lb, j, none⟩ = some (.int .i64 (L.getD j 0)) from fun j hj => by
    rw [HRW.out j, ← hL]
    match j, hj with
    | 0, _ | 1, _ | 2, _ | 3, _ | 4, _ | 5, _ | 6, _ => rfl)
  clear hL HRW
  go_wp2_with fail
  go_loopw [58] (fun t W => ∃ k : Nat, k ≤ 7 ∧ t = .int .i64 k ∧ Hid (Below v4.heap.size v4 W)) (fun t _ => 7 - (intOf t).toNat)
  case atStart => exact ⟨0, by omega, rfl, Lib.hid (bref _)⟩
  case round =>
    obtain ⟨k, hk, rfl, hB⟩ := hrel
    by_cases hlt : k < 7
    · obtain ⟨k1, hk1⟩ : ∃ k1, (k + 1) % 7 = k1 := ⟨_, rfl⟩
      obtain ⟨k2, hk2⟩ : ∃ k1, (k + 2) % 7 = k1 := ⟨_, rfl⟩
      obtain ⟨k3, hk3⟩ : ∃ k1, (k + 3) % 7 = k1 := ⟨_, rfl⟩
      have g1 : k1 < 7 := by omega
      have g2 : k2 < 7 := by omega
      have g3 : k3 < 7 := by omega
      obtain ⟨n, hn⟩ : ∃ x, L.getD k 0 = x := ⟨_, rfl⟩
      obtain ⟨m, hm⟩ : ∃ x, L.getD k1 0 = x := ⟨_, rfl⟩
      obtain ⟨p, hp⟩ : ∃ x, L.getD k2 0 = x := ⟨_, rfl⟩
      obtain ⟨q, hq⟩ : ∃ x, L.getD k3 0 = x := ⟨_, rfl⟩
      have hcl : ∀ j, j < 7 → wr.cell? ⟨lb, j, none⟩ = some (.int .i64 (L.getD j 0)) := fun j hj => (hB.out.cell (cell_lt (HLC.out j hj))).trans (HLC.out j hj)
      have c0 := hcl k hlt
      have HS8 := Lib.hid (show Cs [(⟨lb, k1, none⟩, .int .i64 m), (⟨lb, k2, none⟩, .int .i64 p), (⟨lb, k3, none⟩, .int .i64 q)] wr.drew from ⟨(hcl k1 g1).trans (by rw [hm]), (hcl k2 g2).trans (by rw [hp]), (hcl k3 g3).trans (by rw [hq]), trivial⟩)
      rw [hn] at c0
      have r1 : ((k : Int) + 1).tmod 7 = (k1 : Int) := by rw [Int.tmod_eq_emod_of_nonneg (by omega)]; omega
      have r2 : ((k : Int) + 2).tmod 7 = (k2 : Int) := by rw [Int.tmod_eq_emod_of_nonneg (by omega)]; omega
      have r3 : ((k : Int) + 3).tmod 7 = (k3 : Int) := by rw [Int.tmod_eq_emod_of_nonneg (by omega)]; omega
      have u1 : IntKind.i64.wrap ((k : Int) + 1) = (k : Int) + 1 := IntWalk.i64_in _ (by omega)
      have u2 : IntKind.i64.wrap ((k : Int) + 2) = (k : Int) + 2 := IntWalk.i64_in _ (by omega)
      have u3 : IntKind.i64.wrap ((k : Int) + 3) = (k : Int) + 3 := IntWalk.i64_in _ (by omega)
      have s1 : (0 : Int) ≤ (k1 : Int) := by omega
      have s2 : (0 : Int) ≤ (k2 : Int) := by omega
      have s3 : (0 : Int) ≤ (k3 : Int) := by omega
      have t1 : (k1 : Int) < 7 := by omega
      have t2 : (k2 : Int) < 7 := by omega
      have t3 : (k3 : Int) < 7 := by omega
      have d0 : (0 : Int) ≤ (k : Int) := by omega
      have d1 : (k : Int) < 7 := by omega
      clear hn hm hp hq hcl hk1 hk2 hk3 g1 g2 g3
      go_upto_region 8 with fail
      clear c0
      refine wp_region_held_drew (S := (fun W => Cs [(⟨lb, k1, none⟩, .int .i64 m), (⟨lb, k2, none⟩, .int .i64 p), (⟨lb, k3, none⟩, .int .i64 q)] W)) (by kernel_rfl) HS8.out (fun hSK => ?_)
      refine take_d (some 63) (i := 0) (v := ?_) rfl rfl (by kernel_rfl) (by kernel_rfl) (by kernel_rfl) (fun _ _ _ h => h) (Or.inl ⟨by rfl, ?_⟩) (by assumption) ?_
      rotate_left
      · intro w hSw; (dsimp only [Cs] at hSw); go_simp; (try with_reducible rfl)
      try simp only [Act.put, List.setIfInBounds_toArray, List.set_cons_zero, List.set_cons_succ]
      refine take_d (some 64) (i := 1) (v := ?_) rfl rfl (by kernel_rfl) (by kernel_rfl) (by kernel_rfl) (fun _ _ _ h => h) (Or.inl ⟨by rfl, ?_⟩) (by assumption) ?_
      rotate_left
      · intro w hSw; (dsimp only [Cs] at hSw); go_simp; (try with_reducible rfl)
      try simp only [Act.put, List.setIfInBounds_toArray, List.set_cons_zero, List.set_cons_succ]
      refine take_d (some 65) (i := 2) (v := ?_) rfl rfl (by kernel_rfl) (by kernel_rfl) (by kernel_rfl) (fun _ _ _ h => h) (Or.inl ⟨by rfl, ?_⟩) (by assumption) ?_
      rotate_left
      · intro w hSw; (dsimp only [Cs] at hSw); go_simp; (try with_reducible rfl)
      try simp only [Act.put, List.setIfInBounds_toArray, List.set_cons_zero, List.set_cons_succ]
      refine take_d (some 66) (i := 3) (v := ?_) rfl rfl (by kernel_rfl) (by kernel_rfl) (by kernel_rfl) (fun _ _ _ h => h) (Or.inl ⟨by rfl, ?_⟩) (by assumption) ?_
      rotate_left
      · intro w hSw; (dsimp only [Cs] at hSw); go_simp; (try with_reducible rfl)
      try simp only [Act.put, List.setIfInBounds_toArray, List.set_cons_zero, List.set_cons_succ]
      refine take_d (some 67) (i := 4) (v := ?_) rfl rfl (by kernel_rfl) (by kernel_rfl) (by kernel_rfl) (fun _ _ _ h => h) (Or.inl ⟨by rfl, ?_⟩) (by assumption) ?_
      rotate_left
      · intro w hSw; (dsimp only [Cs] at hSw); go_simp; (try with_reducible rfl)
      try simp only [Act.put, List.setIfInBounds_toArray, List.set_cons_zero, List.set_cons_succ]
      refine take_d (some 68) (i := 5) (v := ?_) rfl rfl (by kernel_rfl) (by kernel_rfl) (by kernel_rfl) (fun _ _ _ h => h) (Or.inl ⟨by rfl, ?_⟩) (by assumption) ?_
      rotate_left
      · intro w hSw; (dsimp only [Cs] at hSw); go_simp; (try with_reducible rfl)
      try simp only [Act.put, List.setIfInBounds_toArray, List.set_cons_zero, List.set_cons_succ]
      refine take_d (some 69) (i := 6) (v := ?_) rfl rfl (by kernel_rfl) (by kernel_rfl) (by kernel_rfl) (fun _ _ _ h => h) (Or.inl ⟨by rfl, ?_⟩) (by assumption) ?_
      rotate_left
      · intro w hSw; (dsimp only [Cs] at hSw); go_simp; (try with_reducible rfl)
      try simp only [Act.put, List.setIfInBounds_toArray, List.set_cons_zero, List.set_cons_succ]
      refine take_d (some 70) (i := 7) (v := ?_) rfl rfl (by kernel_rfl) (by kernel_rfl) (by kernel_rfl) (fun _ _ _ h => h) (Or.inl ⟨by rfl, ?_⟩) (by assumption) ?_
      rotate_left
      · intro w hSw; (dsimp only [Cs] at hSw); go_simp; (try with_reducible rfl)
      try simp only [Act.put, List.setIfInBounds_toArray, List.set_cons_zero, List.set_cons_succ]
      refine take_d (some 71) (i := 8) (v := ?_) rfl rfl (by kernel_rfl) (by kernel_rfl) (by kernel_rfl) (fun _ _ _ h => h) (Or.inl ⟨by rfl, ?_⟩) (by assumption) ?_
      rotate_left
      · intro w hSw; (dsimp only [Cs] at hSw); go_simp; (try with_reducible rfl)
      try simp only [Act.put, List.setIfInBounds_toArray, List.set_cons_zero, List.set_cons_succ]
      refine take_d (some 72) (i := 9) (v := ?_) rfl rfl (by kernel_rfl) (by kernel_rfl) (by kernel_rfl) (fun _ _ _ h => h) (Or.inl ⟨by rfl, ?_⟩) (by assumption) ?_
      rotate_left
      · intro w hSw; (dsimp only [Cs] at hSw); go_simp; (try with_reducible rfl)
      try simp only [Act.put, List.setIfInBounds_toArray, List.set_cons_zero, List.set_cons_succ]
      refine take_d (some 73) (i := 10) (v := ?_) rfl rfl (by kernel_rfl) (by kernel_rfl) (by kernel_rfl) (fun _ _ _ h => h) (Or.inl ⟨by rfl, ?_⟩) (by assumption) ?_
      rotate_left
      · intro w hSw; (dsimp only [Cs] at hSw); go_simp; (try with_reducible rfl)
      try simp only [Act.put, List.setIfInBounds_toArray, List.set_cons_zero, List.set_cons_succ]
      refine take_d (some 74) (i := 11) (v := ?_) rfl rfl (by kernel_rfl) (by kernel_rfl) (by kernel_rfl) (fun _ _ _ h => h) (Or.inl ⟨by rfl, ?_⟩) (by assumption) ?_
      rotate_left
      · intro w hSw; (dsimp only [Cs] at hSw); go_simp; (try with_reducible rfl)
      try simp only [Act.put, List.setIfInBounds_toArray, List.set_cons_zero, List.set_cons_succ]
      refine take_d (some 75) (i := 12) (v := ?_) rfl rfl (by kernel_rfl) (by kernel_rfl) (by kernel_rfl) (fun _ _ _ h => h) (Or.inl ⟨by rfl, ?_⟩) (by assumption) ?_
      rotate_left
      · intro w hSw; (dsimp only [Cs] at hSw); go_simp; (try with_reducible rfl)
      try simp only [Act.put, List.setIfInBounds_toArray, List.set_cons_zero, List.set_cons_succ]
      refine take_d (some 76) (i := 13) (v := ?_) rfl rfl (by kernel_rfl) (by kernel_rfl) (by kernel_rfl) (fun _ _ _ h => h) (Or.inl ⟨by rfl, ?_⟩) (by assumption) ?_
      rotate_left
      · intro w hSw; (dsimp only [Cs] at hSw); go_simp; (try with_reducible rfl)
      try simp only [Act.put, List.setIfInBounds_toArray, List.set_cons_zero, List.set_cons_succ]
      refine take_d (some 77) (i := 14) (v := ?_) rfl rfl (by kernel_rfl) (by kernel_rfl) (by kernel_rfl) (fun _ _ _ h => h) (Or.inl ⟨by rfl, ?_⟩) (by assumption) ?_
      rotate_left
      · intro w hSw; (dsimp only [Cs] at hSw); go_simp; (try with_reducible rfl)
      try simp only [Act.put, List.setIfInBounds_toArray, List.set_cons_zero, List.set_cons_succ]
      refine take_d (some 78) (i := 15) (v := ?_) rfl rfl (by kernel_rfl) (by kernel_rfl) (by kernel_rfl) (fun _ _ _ h => h) (Or.inl ⟨by rfl, ?_⟩) (by assumption) ?_
      rotate_left
      · intro w hSw; (dsimp only [Cs] at hSw); go_simp; (try with_reducible rfl)
      try simp only [Act.put, List.setIfInBounds_toArray, List.set_cons_zero, List.set_cons_succ]
      refine take_d (some 79) (i := 16) (v := ?_) rfl rfl (by kernel_rfl) (by kernel_rfl) (by kernel_rfl) (fun _ _ _ h => h) (Or.inl ⟨by rfl, ?_⟩) (by assumption) ?_
      rotate_left
      · intro w hSw; (dsimp only [Cs] at hSw); go_simp; (try with_reducible rfl)
      try simp only [Act.put, List.setIfInBounds_toArray, List.set_cons_zero, List.set_cons_succ]
      refine take_d (some 80) (i := 17) (v := ?_) rfl rfl (by kernel_rfl) (by kernel_rfl) (by kernel_rfl) (fun _ _ _ h => h) (Or.inl ⟨by rfl, ?_⟩) (by assumption) ?_
      rotate_left
      · intro w hSw; (dsimp only [Cs] at hSw); go_simp; (try with_reducible rfl)
      try simp only [Act.put, List.setIfInBounds_toArray, List.set_cons_zero, List.set_cons_succ]
      refine take_d (some 81) (i := 18) (v := ?_) rfl rfl (by kernel_rfl) (by kernel_rfl) (by kernel_rfl) (fun _ _ _ h => h) (Or.inl ⟨by rfl, ?_⟩) (by assumption) ?_
      rotate_left
      · intro w hSw; (dsimp only [Cs] at hSw); go_simp; (try with_reducible rfl)
      try simp only [Act.put, List.setIfInBounds_toArray, List.set_cons_zero, List.set_cons_succ]
      refine take_d (some 82) (i := 19) (v := ?_) rfl rfl (by kernel_rfl) (by kernel_rfl) (by kernel_rfl) (fun _ _ _ h => h) (Or.inl ⟨by rfl, ?_⟩) (by assumption) ?_
      rotate_left
      · intro w hSw; (dsimp only [Cs] at hSw); go_simp; (try with_reducible rfl)
      try simp only [Act.put, List.setIfInBounds_toArray, List.set_cons_zero, List.set_cons_succ]
      refine take_d (some 83) (i := 20) (v := ?_) rfl rfl (by kernel_rfl) (by kernel_rfl) (by kernel_rfl) (fun _ _ _ h => h) (Or.inl ⟨by rfl, ?_⟩) (by assumption) ?_
      rotate_left
      · intro w hSw; (dsimp only [Cs] at hSw); go_simp; (try with_reducible rfl)
      try simp only [Act.put, List.setIfInBounds_toArray, List.set_cons_zero, List.set_cons_succ]
      refine take_d (some 84) (i := 21) (v := ?_) rfl rfl (by kernel_rfl) (by kernel_rfl) (by kernel_rfl) (fun _ _ _ h => h) (Or.inl ⟨by rfl, ?_⟩) (by assumption) ?_
      rotate_left
      · intro w hSw; (dsimp only [Cs] at hSw); go_simp; (try with_reducible rfl)
      try simp only [Act.put, List.setIfInBounds_toArray, List.set_cons_zero, List.set_cons_succ]
      refine take_d (some 85) (i := 22) (v := ?_) rfl rfl (by kernel_rfl) (by kernel_rfl) (by kernel_rfl) (fun _ _ _ h => h) (Or.inl ⟨by rfl, ?_⟩) (by assumption) ?_
      rotate_left
      · intro w hSw; (dsimp only [Cs] at hSw); go_simp; (try with_reducible rfl)
      try simp only [Act.put, List.setIfInBounds_toArray, List.set_cons_zero, List.set_cons_succ]
      refine take_d (some 86) (i := 23) (v := ?_) rfl rfl (by kernel_rfl) (by kernel_rfl) (by kernel_rfl) (fun _ _ _ h => h) (Or.inl ⟨by rfl, ?_⟩) (by assumption) ?_
      rotate_left
      · intro w hSw; (dsimp only [Cs] at hSw); go_simp; (try with_reducible rfl)
      try simp only [Act.put, List.setIfInBounds_toArray, List.set_cons_zero, List.set_cons_succ]
      refine take_d (some 19) (i := 24) (v := ?_) rfl rfl (by kernel_rfl) (by kernel_rfl) (by kernel_rfl) (fun _ _ _ h => h) (Or.inl ⟨by rfl, ?_⟩) (by assumption) ?_
      rotate_left
      · intro w hSw; (dsimp only [Cs] at hSw); go_simp; (try with_reducible rfl)
      try simp only [Act.put, List.setIfInBounds_toArray, List.set_cons_zero, List.set_cons_succ]
      refine take_d (some 20) (i := 25) (v := ?_) rfl rfl (by kernel_rfl) (by kernel_rfl) (by kernel_rfl) (fun _ _ _ h => h) (Or.inl ⟨by rfl, ?_⟩) (by assumption) ?_
      rotate_left
      · intro w hSw; (dsimp only [Cs] at hSw); go_simp; (try with_reducible rfl)
      try simp only [Act.put, List.setIfInBounds_toArray, List.set_cons_zero, List.set_cons_succ]
      refine take_d (some 21) (i := 26) (v := ?_) rfl rfl (by kernel_rfl) (by kernel_rfl) (by kernel_rfl) (fun _ _ _ h => h) (Or.inl ⟨by rfl, ?_⟩) (by assumption) ?_
      rotate_left
      · intro w hSw; (dsimp only [Cs] at hSw); go_simp; (try with_reducible rfl)
      try simp only [Act.put, List.setIfInBounds_toArray, List.set_cons_zero, List.set_cons_succ]
      refine wpAnyH_done (by kernel_rfl) ?_ _
      clear hSK HS8 r1 r2 r3 u1 u2 u3 s1 s2 s3 t1 t2 t3
      obtain ⟨xa, ea, hxa⟩ := sumV_form (wrap64 (n + m)) n m
      obtain ⟨xs, es, hxs⟩ := sumV_form (wrap64 (n - m)) n m
      obtain ⟨xd, ed, hxd⟩ := timesV_form n m p 0
      obtain ⟨xu, eu, hxu⟩ := timesV_form n m p (p - 1)
      have HA := Lib.hid (fun W => add_any n m W)
      have HRA := Lib.hid (fun W => radd_any n m W)
      have HS_ := Lib.hid (fun W => sub_any n m W)
      have HRS := Lib.hid (fun W => rsub_any n m W)
      have HV := Lib.hid (fun W => valid_any n W)
      have HRV := Lib.hid (fun W => rvalid_any n W)
      have HP := Lib.hid (fun W => price_any n m W)
      have HRP := Lib.hid (fun W => rprice_any n m W)
      have HD := Lib.hid (fun W => reduce_any n m W)
      have HRD := Lib.hid (fun W => rreduce_any n m W)
      have HC := Lib.hid (fun W => compare_any n m p q W)
      have HRC := Lib.hid (fun W => rcompare_any n m p q W)
      have HDN := Lib.hid (fun W => down_run n m p W)
      have HRDN := Lib.hid (fun W => rdown_any n m p W)
      have HUP := Lib.hid (fun W => up_all n m p W)
      have HRUP := Lib.hid (fun W => rup_any n m p W)
      rw [hxa] at HA HRA
      rw [hxs] at HS_ HRS
      rw [hxd] at HDN HRDN
      rw [hxu] at HUP HRUP
      generalize okI n = bv at *
      generalize okP n m = bp at *
      generalize redA n m = ra at *
      generalize redB n m = rb at *
      generalize cmpV n m p q = cv at *
      clear hxa hxs hxd hxu
      have HBX := Lib.hid (bdrew hB.out)
      go_wp2_with (first | (go_at_call 33; refine (HA.out _).mono ?_; rintro e w2 ⟨rfl, hb2⟩; replace HBX := Lib.hid (bstep HBX.out hb2); clear hb2) | (go_at_call 34; refine (HRA.out _).mono ?_; rintro e w2 ⟨rfl, rfl⟩) | (go_at_call 35; refine (HV.out _).mono ?_; rintro e w2 ⟨rfl, rfl⟩) | (go_at_call 36; refine (HRV.out _).mono ?_; rintro e w2 ⟨rfl, rfl⟩) | (go_at_call 37; refine (HP.out _).mono ?_; rintro e w2 ⟨rfl, rfl⟩) | (go_at_call 38; refine (HRP.out _).mono ?_; rintro e w2 ⟨rfl, rfl⟩) | (go_at_call 39; refine (HS_.out _).mono ?_; rintro e w2 ⟨rfl, hb2⟩; replace HBX := Lib.hid (bstep HBX.out hb2); clear hb2) | (go_at_call 40; refine (HRS.out _).mono ?_; rintro e w2 ⟨rfl, rfl⟩) | (go_at_call 41; refine (HD.out _).mono ?_; rintro e w2 ⟨rfl, hb2⟩; replace HBX := Lib.hid (bstep HBX.out hb2); clear hb2) | (go_at_call 42; refine (HRD.out _).mono ?_; rintro e w2 ⟨rfl, hb2⟩; replace HBX := Lib.hid (bstep HBX.out hb2); clear hb2) | (go_at_call 43; refine (HC.out _).mono ?_; rintro e w2 ⟨rfl, rfl⟩) | (go_at_call 44; refine (HRC.out _).mono ?_; rintro e w2 ⟨rfl, rfl⟩) | (go_at_call 45; refine (HDN.out _).mono ?_; rintro e w2 ⟨rfl, hb2⟩; replace HBX := Lib.hid (bstep HBX.out hb2); clear hb2) | (go_at_call 46; refine (HRDN.out _).mono ?_; rintro e w2 ⟨rfl, hb2⟩; replace HBX := Lib.hid (bstep HBX.out hb2); clear hb2) | (go_at_call 47; refine (HUP.out _).mono ?_; rintro e w2 ⟨rfl, hb2⟩; replace HBX := Lib.hid (bstep HBX.out hb2); clear hb2) | (go_at_call 48; refine (HRUP.out _).mono ?_; rintro e w2 ⟨rfl, hb2⟩; replace HBX := Lib.hid (bstep HBX.out hb2); clear hb2))
      go_roundw
      case rel => exact ⟨k + 1, by omega, by go_num, HBX⟩
      case measure => simp [intOf]; omega
    · obtain rfl : 7 = k := by omega
      have HX5 := Lib.hid (HX4.out.below hB.out)
      have HY5 := Lib.hid (HY4.out.below hB.out)
      have HS5 := Lib.hid (HS4.out.below hB.out)
      have HB5 := Lib.hid (bstep HB4.out hB.out)
      clear HX4 HY4 HS4 HB4 HLC hlt hk
      go_upto_region 28 with fail
      have hS : Cs [(⟨w.heap.size, 0, none⟩, .string B5), (⟨w.heap.size, 1, none⟩, .int .i64 i5), (⟨w.heap.size + 1, 0, none⟩, .string B6), (⟨w.heap.size + 1, 1, none⟩, .int .i64 i6)] wr.drew ∧ SrcOk wr.drew (w.heap.size + 2) ∧ Cs2 w.heap.size B5 i5 wr.drew ∧ Below w.heap.size w wr.drew := ⟨⟨HX5.out.1, HX5.out.2, HY5.out.1, HY5.out.2, trivial⟩, HS5.out.drew, HX5.out, bdrew HB5.out⟩
      clear HX5 HY5 HS5 HB5
      refine wp_region_held_drew (S := (fun W => Cs [(⟨w.heap.size, 0, none⟩, .string B5), (⟨w.heap.size, 1, none⟩, .int .i64 i5), (⟨w.heap.size + 1, 0, none⟩, .string B6), (⟨w.heap.size + 1, 1, none⟩, .int .i64 i6)] W ∧ SrcOk W (w.heap.size + 2) ∧ Cs2 w.heap.size B5 i5 W ∧ Below w.heap.size w W)) (by kernel_rfl) hS (fun hSK => ?_)
      clear hS
      refine take_d (some 223) (i := 0) (v := ?_) rfl rfl (by kernel_rfl) (by kernel_rfl) (by kernel_rfl) (fun _ _ _ h => h) (Or.inl ⟨by rfl, ?_⟩) (by assumption) ?_
      rotate_left
      · intro w hSw; (dsimp only [Cs] at hSw); go_simp; (try with_reducible rfl)
      try simp only [Act.put, List.setIfInBounds_toArray, List.set_cons_zero, List.set_cons_succ]
      refine take_d (some 224) (i := 1) (v := ?_) rfl rfl (by kernel_rfl) (by kernel_rfl) (by kernel_rfl) (fun _ _ _ h => h) (Or.inl ⟨by rfl, ?_⟩) (by assumption) ?_
      rotate_left
      · intro w hSw; (dsimp only [Cs] at hSw); go_simp; (try with_reducible rfl)
      try simp only [Act.put, List.setIfInBounds_toArray, List.set_cons_zero, List.set_cons_succ]
      refine take_d (some 225) (i := 2) (v := ?_) rfl rfl (by kernel_rfl) (by kernel_rfl) (by kernel_rfl) (fun _ _ _ h => h) (Or.inl ⟨by rfl, ?_⟩) (by assumption) ?_
      rotate_left
      · intro w hSw; (dsimp only [Cs] at hSw); go_simp; (try with_reducible rfl)
      try simp only [Act.put, List.setIfInBounds_toArray, List.set_cons_zero, List.set_cons_succ]
      refine take_d (some 227) (i := 4) (v := ?_) rfl rfl (by kernel_rfl) (by kernel_rfl) (by kernel_rfl) (fun _ _ _ h => h) (Or.inl ⟨by rfl, ?_⟩) (by assumption) ?_
      rotate_left
      · intro w hSw; (dsimp only [Cs] at hSw); go_simp; (try with_reducible rfl)
      try simp only [Act.put, List.setIfInBounds_toArray, List.set_cons_zero, List.set_cons_succ]
      refine take_d (some 230) (i := 7) (v := ?_) rfl rfl (by kernel_rfl) (by kernel_rfl) (by kernel_rfl) (fun _ _ _ h => h) (Or.inl ⟨by rfl, ?_⟩) (by assumption) ?_
      rotate_left
      · intro w hSw; (dsimp only [Cs] at hSw); go_simp; (try with_reducible rfl)
      try simp only [Act.put, List.setIfInBounds_toArray, List.set_cons_zero, List.set_cons_succ]
      refine wpAnyH_ready (rs := [3]) (by kernel_rfl) (by simp) ?_
      refine AllReadyH.cons rfl (fun K hK => ?_) AllReadyH.nil
      go_simp
      refine (Asset_run _ _ hSK.2.1).mono ?_
      rintro e wK ⟨s, hs2, rfl, hsK, hgK⟩
      go_wp2_with fail
      refine hK.out _ _ ?_ (fun hHeld => ?_)
      · exact ⟨⟨(grown_cell2 hgK hSK.1.1 (by show w.heap.size ≠ _; omega)), (grown_cell2 hgK hSK.1.2.1 (by show w.heap.size ≠ _; omega)), (grown_cell2 hgK hSK.1.2.2.1 (by show w.heap.size + 1 ≠ _; omega)), (grown_cell2 hgK hSK.1.2.2.2.1 (by show w.heap.size + 1 ≠ _; omega)), trivial⟩, hsK, ⟨(grown_cell2 hgK hSK.2.2.1.1 (by show w.heap.size ≠ _; omega)), (grown_cell2 hgK hSK.2.2.1.2 (by show w.heap.size ≠ _; omega))⟩, Below.grown hSK.2.2.2 hgK hSK.2.2.2.size (fun j hj => by cases hj; omega)⟩
      clear hSK
      have hSK := hHeld
      clear hHeld
      clear hK K
      try simp only [Act.put, List.setIfInBounds_toArray, List.set_cons_zero, List.set_cons_succ]
      refine wpAnyH_ready (rs := [5]) (by kernel_rfl) (by simp) ?_
      refine AllReadyH.cons rfl (fun K hK => ?_) AllReadyH.nil
      go_simp
      refine (OddAsset_run _ _ hSK.2.1).mono ?_
      rintro e wK ⟨B7, i7, hB7, rfl, hsK, hgK⟩
      go_wp2_with fail
      refine hK.out _ _ ?_ (fun hHeld => ?_)
      · exact ⟨⟨(grown_cell2 hgK hSK.1.1 (by show w.heap.size ≠ _; omega)), (grown_cell2 hgK hSK.1.2.1 (by show w.heap.size ≠ _; omega)), (grown_cell2 hgK hSK.1.2.2.1 (by show w.heap.size + 1 ≠ _; omega)), (grown_cell2 hgK hSK.1.2.2.2.1 (by show w.heap.size + 1 ≠ _; omega)), trivial⟩, hsK, ⟨(grown_cell2 hgK hSK.2.2.1.1 (by show w.heap.size ≠ _; omega)), (grown_cell2 hgK hSK.2.2.1.2 (by show w.heap.size ≠ _; omega))⟩, Below.grown hSK.2.2.2 hgK hSK.2.2.2.size (fun j hj => by cases hj; omega)⟩
      clear hSK
      have hSK := hHeld
      clear hHeld
      clear hK K
      try simp only [Act.put, List.setIfInBounds_toArray, List.set_cons_zero, List.set_cons_succ]
      refine take_d (some 229) (i := 6) (v := ?_) rfl rfl (by kernel_rfl) (by kernel_rfl) (by kernel_rfl) (fun _ _ _ h => h) (Or.inl ⟨by rfl, ?_⟩) (by assumption) ?_
      rotate_left
      · intro w hSw; (dsimp only [Cs] at hSw); go_simp; (try with_reducible rfl)
      try simp only [Act.put, List.setIfInBounds_toArray, List.set_cons_zero, List.set_cons_succ]
      refine wpAnyH_done (by kernel_rfl) ?_ _
      have HX6 := Lib.hid hSK.2.2.1
      have HB6 := Lib.hid hSK.2.2.2
      clear hSK
      generalize hvk : wK = v5 at *
      clear hvk
      go_wp2_with fail
      go_loopw [230] (fun t W => ∃ k : Nat, k ≤ 4 ∧ t = .int .i64 k ∧ Hid (Below v5.heap.size v5 W)) (fun t _ => 4 - (intOf t).toNat)
      case atStart => exact ⟨0, by omega, rfl, Lib.hid (bref _)⟩
      case round =>
        obtain ⟨k, hk, rfl, hC⟩ := hrel
        have HBE := Lib.hid (bstep HB6.out hC.out)
        by_cases hlt : k < 4
        · obtain ⟨B, i, hidx, hBz⟩ : ∃ (B : ByteArray) (i : Int), (∀ W, (Instr.index 54 (.agg #[.string B5, .int .i64 i5, .string B6, .int .i64 i6, .string (codeOf s), .int .i64 (issOf s), .string B7, .int .i64 i7]) (.int .i64 (k : Int))).run Try.prog W = .ok (.agg #[.string B, .int .i64 i]) W) ∧ B.size ≤ 60 := by
            match k, hlt with
            | 0, _ => exact ⟨B5, i5, fun _ => by kernel_rfl, hz5⟩
            | 1, _ => exact ⟨B6, i6, fun _ => by kernel_rfl, hz6⟩
            | 2, _ => exact ⟨codeOf s, issOf s, fun _ => by kernel_rfl, codeOf_sz hs2⟩
            | 3, _ => exact ⟨B7, i7, fun _ => by kernel_rfl, hB7⟩
          have HA1 := Lib.hid (fun W => asset_any B i W (by omega))
          have HA2 := Lib.hid (fun W => rasset_any B i W (by omega))
          have HN1 := Lib.hid (fun W => native_any B i W)
          have HN2 := Lib.hid (fun W => rnative_any B i W)
          have HL1 := Lib.hid (fun W => less_any B B5 i i5 W)
          have HL2 := Lib.hid (fun W => rless_any B B5 i i5 W)
          have HL3 := Lib.hid (fun W => less_any B5 B i5 i W)
          have HL4 := Lib.hid (fun W => rless_any B5 B i5 i W)
          generalize assetV B i = b1 at *
          generalize natV B i = b2 at *
          generalize lessV B i B5 i5 = b3 at *
          generalize lessV B5 i5 B i = b4 at *
          have hba := balloc (bref wr) (.cells #[.string B, .int .i64 i] 43)
          have HU := Lib.hid (Cs2.new wr B i)
          have HX7 := Lib.hid ((HX6.out.below hC.out).below hba)
          have HB7 := Lib.hid (bstep hC.out hba)
          clear hba hBz
          go_upto_region 31 with fail
          generalize wr.alloc (.cells #[.string B, .int .i64 i] 43) = W7 at *
          generalize wr.heap.size = ub at *
          clear hidx
          have hS : Cs [(⟨ub, 0, none⟩, .string B), (⟨ub, 1, none⟩, .int .i64 i), (⟨w.heap.size, 0, none⟩, .string B5), (⟨w.heap.size, 1, none⟩, .int .i64 i5)] W7.drew ∧ Below v5.heap.size v5 W7.drew := ⟨⟨HU.out.1, HU.out.2, HX7.out.1, HX7.out.2, trivial⟩, bdrew HB7.out⟩
          clear HU HX7 HB7
          refine wp_region_held_drew (S := (fun W => Cs [(⟨ub, 0, none⟩, .string B), (⟨ub, 1, none⟩, .int .i64 i), (⟨w.heap.size, 0, none⟩, .string B5), (⟨w.heap.size, 1, none⟩, .int .i64 i5)] W ∧ Below v5.heap.size v5 W)) (by kernel_rfl) hS (fun hSK => ?_)
          clear hS
          refine take_d (some 233) (i := 0) (v := ?_) rfl rfl (by kernel_rfl) (by kernel_rfl) (by kernel_rfl) (fun _ _ _ h => h) (Or.inl ⟨by rfl, ?_⟩) (by assumption) ?_
          rotate_left
          · intro w hSw; (dsimp only [Cs] at hSw); go_simp; (try with_reducible rfl)
          try simp only [Act.put, List.setIfInBounds_toArray, List.set_cons_zero, List.set_cons_succ]
          refine take_d (some 235) (i := 2) (v := ?_) rfl rfl (by kernel_rfl) (by kernel_rfl) (by kernel_rfl) (fun _ _ _ h => h) (Or.inl ⟨by rfl, ?_⟩) (by assumption) ?_
          rotate_left
          · intro w hSw; (dsimp only [Cs] at hSw); go_simp; (try with_reducible rfl)
          try simp only [Act.put, List.setIfInBounds_toArray, List.set_cons_zero, List.set_cons_succ]
          refine wpAnyH_ready (rs := [1]) (by kernel_rfl) (by simp) ?_
          refine AllReadyH.cons rfl (fun K hK => ?_) AllReadyH.nil
          go_simp
          refine (HA1.out _).mono ?_
          rintro e wK ⟨rfl, hbK⟩
          go_wp2_with fail
          refine hK.out _ _ ?_ (fun hHeld => ?_)
          · exact ⟨Cs.below hSK.1 hbK, bstep hSK.2 hbK⟩
          clear hSK
          have hSK := hHeld
          clear hHeld
          clear hK K
          try simp only [Act.put, List.setIfInBounds_toArray, List.set_cons_zero, List.set_cons_succ]
          refine wpAnyH_ready (rs := [3]) (by kernel_rfl) (by simp) ?_
          refine AllReadyH.cons rfl (fun K hK => ?_) AllReadyH.nil
          go_simp
          refine (HA2.out _).mono ?_
          rintro e wK ⟨rfl, hbK⟩
          go_wp2_with fail
          refine hK.out _ _ ?_ (fun hHeld => ?_)
          · exact ⟨Cs.below hSK.1 hbK, bstep hSK.2 hbK⟩
          clear hSK
          have hSK := hHeld
          clear hHeld
          clear hK K
          try simp only [Act.put, List.setIfInBounds_toArray, List.set_cons_zero, List.set_cons_succ]
          refine take_d (some 237) (i := 4) (v := ?_) rfl rfl (by kernel_rfl) (by kernel_rfl) (by kernel_rfl) (fun _ _ _ h => h) (Or.inl ⟨by rfl, ?_⟩) (by assumption) ?_
          rotate_left
          · intro w hSw; (dsimp only [Cs] at hSw); go_simp; (try with_reducible rfl)
          try simp only [Act.put, List.setIfInBounds_toArray, List.set_cons_zero, List.set_cons_succ]
          refine take_d (some 238) (i := 5) (v := ?_) rfl rfl (by kernel_rfl) (by kernel_rfl) (by kernel_rfl) (fun _ _ _ h => h) (Or.inl ⟨by rfl, ?_⟩) (by assumption) ?_
          rotate_left
          · intro w hSw; (dsimp only [Cs] at hSw); go_simp; (try with_reducible rfl)
          try simp only [Act.put, List.setIfInBounds_toArray, List.set_cons_zero, List.set_cons_succ]
          refine take_d (some 239) (i := 6) (v := ?_) rfl rfl (by kernel_rfl) (by kernel_rfl) (by kernel_rfl) (fun _ _ _ h => h) (Or.inl ⟨by rfl, ?_⟩) (by assumption) ?_
          rotate_left
          · intro w hSw; (dsimp only [Cs] at hSw); go_simp; (try with_reducible rfl)
          try simp only [Act.put, List.setIfInBounds_toArray, List.set_cons_zero, List.set_cons_succ]
          refine take_d (some 241) (i := 8) (v := ?_) rfl rfl (by kernel_rfl) (by kernel_rfl) (by kernel_rfl) (fun _ _ _ h => h) (Or.inl ⟨by rfl, ?_⟩) (by assumption) ?_
          rotate_left
          · intro w hSw; (dsimp only [Cs] at hSw); go_simp; (try with_reducible rfl)
          try simp only [Act.put, List.setIfInBounds_toArray, List.set_cons_zero, List.set_cons_succ]
          refine wpAnyH_ready (rs := [7]) (by kernel_rfl) (by simp) ?_
          refine AllReadyH.cons rfl (fun K hK => ?_) AllReadyH.nil
          go_simp
          refine (HN1.out _).mono ?_
          rintro e wK ⟨rfl, hbK⟩
          go_wp2_with fail
          refine hK.out _ _ ?_ (fun hHeld => ?_)
          · exact ⟨Cs.below hSK.1 hbK, bstep hSK.2 hbK⟩
          clear hSK
          have hSK := hHeld
          clear hHeld
          clear hK K
          try simp only [Act.put, List.setIfInBounds_toArray, List.set_cons_zero, List.set_cons_succ]
          refine wpAnyH_ready (rs := [9]) (by kernel_rfl) (by simp) ?_
          refine AllReadyH.cons rfl (fun K hK => ?_) AllReadyH.nil
          go_simp
          refine (HN2.out _).mono ?_
          rintro e wK ⟨rfl, hbK⟩
          go_wp2_with fail
          refine hK.out _ _ ?_ (fun hHeld => ?_)
          · exact ⟨Cs.below hSK.1 hbK, bstep hSK.2 hbK⟩
          clear hSK
          have hSK := hHeld
          clear hHeld
          clear hK K
          try simp only [Act.put, List.setIfInBounds_toArray, List.set_cons_zero, List.set_cons_succ]
          refine take_d (some 243) (i := 10) (v := ?_) rfl rfl (by kernel_rfl) (by kernel_rfl) (by kernel_rfl) (fun _ _ _ h => h) (Or.inl ⟨by rfl, ?_⟩) (by assumption) ?_
          rotate_left
          · intro w hSw; (dsimp only [Cs] at hSw); go_simp; (try with_reducible rfl)
          try simp only [Act.put, List.setIfInBounds_toArray, List.set_cons_zero, List.set_cons_succ]
          refine take_d (some 244) (i := 11) (v := ?_) rfl rfl (by kernel_rfl) (by kernel_rfl) (by kernel_rfl) (fun _ _ _ h => h) (Or.inl ⟨by rfl, ?_⟩) (by assumption) ?_
          rotate_left
          · intro w hSw; (dsimp only [Cs] at hSw); go_simp; (try with_reducible rfl)
          try simp only [Act.put, List.setIfInBounds_toArray, List.set_cons_zero, List.set_cons_succ]
          refine take_d (some 245) (i := 12) (v := ?_) rfl rfl (by kernel_rfl) (by kernel_rfl) (by kernel_rfl) (fun _ _ _ h => h) (Or.inl ⟨by rfl, ?_⟩) (by assumption) ?_
          rotate_left
          · intro w hSw; (dsimp only [Cs] at hSw); go_simp; (try with_reducible rfl)
          try simp only [Act.put, List.setIfInBounds_toArray, List.set_cons_zero, List.set_cons_succ]
          refine take_d (some 246) (i := 13) (v := ?_) rfl rfl (by kernel_rfl) (by kernel_rfl) (by kernel_rfl) (fun _ _ _ h => h) (Or.inl ⟨by rfl, ?_⟩) (by assumption) ?_
          rotate_left
          · intro w hSw; (dsimp only [Cs] at hSw); go_simp; (try with_reducible rfl)
          try simp only [Act.put, List.setIfInBounds_toArray, List.set_cons_zero, List.set_cons_succ]
          refine take_d (some 247) (i := 14) (v := ?_) rfl rfl (by kernel_rfl) (by kernel_rfl) (by kernel_rfl) (fun _ _ _ h => h) (Or.inl ⟨by rfl, ?_⟩) (by assumption) ?_
          rotate_left
          · intro w hSw; (dsimp only [Cs] at hSw); go_simp; (try with_reducible rfl)
          try simp only [Act.put, List.setIfInBounds_toArray, List.set_cons_zero, List.set_cons_succ]
          refine take_d (some 249) (i := 16) (v := ?_) rfl rfl (by kernel_rfl) (by kernel_rfl) (by kernel_rfl) (fun _ _ _ h => h) (Or.inl ⟨by rfl, ?_⟩) (by assumption) ?_
          rotate_left
          · intro w hSw; (dsimp only [Cs] at hSw); go_simp; (try with_reducible rfl)
          try simp only [Act.put, List.setIfInBounds_toArray, List.set_cons_zero, List.set_cons_succ]
          refine take_d (some 250) (i := 17) (v := ?_) rfl rfl (by kernel_rfl) (by kernel_rfl) (by kernel_rfl) (fun _ _ _ h => h) (Or.inl ⟨by rfl, ?_⟩) (by assumption) ?_
          rotate_left
          · intro w hSw; (dsimp only [Cs] at hSw); go_simp; (try with_reducible rfl)
          try simp only [Act.put, List.setIfInBounds_toArray, List.set_cons_zero, List.set_cons_succ]
          refine wpAnyH_ready (rs := [15]) (by kernel_rfl) (by simp) ?_
          refine AllReadyH.cons rfl (fun K hK => ?_) AllReadyH.nil
          go_simp
          refine (HL1.out _).mono ?_
          rintro e wK ⟨rfl, hbK⟩
          go_wp2_with fail
          refine hK.out _ _ ?_ (fun hHeld => ?_)
          · exact ⟨Cs.below hSK.1 hbK, bstep hSK.2 hbK⟩
          clear hSK
          have hSK := hHeld
          clear hHeld
          clear hK K
          try simp only [Act.put, List.setIfInBounds_toArray, List.set_cons_zero, List.set_cons_succ]
          refine wpAnyH_ready (rs := [18]) (by kernel_rfl) (by simp) ?_
          refine AllReadyH.cons rfl (fun K hK => ?_) AllReadyH.nil
          go_simp
          refine (HL2.out _).mono ?_
          rintro e wK ⟨rfl, hbK⟩
          go_wp2_with fail
          refine hK.out _ _ ?_ (fun hHeld => ?_)
          · exact ⟨Cs.below hSK.1 hbK, bstep hSK.2 hbK⟩
          clear hSK
          have hSK := hHeld
          clear hHeld
          clear hK K
          try simp only [Act.put, List.setIfInBounds_toArray, List.set_cons_zero, List.set_cons_succ]
          refine take_d (some 252) (i := 19) (v := ?_) rfl rfl (by kernel_rfl) (by kernel_rfl) (by kernel_rfl) (fun _ _ _ h => h) (Or.inl ⟨by rfl, ?_⟩) (by assumption) ?_
          rotate_left
          · intro w hSw; (dsimp only [Cs] at hSw); go_simp; (try with_reducible rfl)
          try simp only [Act.put, List.setIfInBounds_toArray, List.set_cons_zero, List.set_cons_succ]
          refine take_d (some 253) (i := 20) (v := ?_) rfl rfl (by kernel_rfl) (by kernel_rfl) (by kernel_rfl) (fun _ _ _ h => h) (Or.inl ⟨by rfl, ?_⟩) (by assumption) ?_
          rotate_left
          · intro w hSw; (dsimp only [Cs] at hSw); go_simp; (try with_reducible rfl)
          try simp only [Act.put, List.setIfInBounds_toArray, List.set_cons_zero, List.set_cons_succ]
          refine take_d (some 254) (i := 21) (v := ?_) rfl rfl (by kernel_rfl) (by kernel_rfl) (by kernel_rfl) (fun _ _ _ h => h) (Or.inl ⟨by rfl, ?_⟩) (by assumption) ?_
          rotate_left
          · intro w hSw; (dsimp only [Cs] at hSw); go_simp; (try with_reducible rfl)
          try simp only [Act.put, List.setIfInBounds_toArray, List.set_cons_zero, List.set_cons_succ]
          refine take_d (some 255) (i := 22) (v := ?_) rfl rfl (by kernel_rfl) (by kernel_rfl) (by kernel_rfl) (fun _ _ _ h => h) (Or.inl ⟨by rfl, ?_⟩) (by assumption) ?_
          rotate_left
          · intro w hSw; (dsimp only [Cs] at hSw); go_simp; (try with_reducible rfl)
          try simp only [Act.put, List.setIfInBounds_toArray, List.set_cons_zero, List.set_cons_succ]
          refine take_d (some 256) (i := 23) (v := ?_) rfl rfl (by kernel_rfl) (by kernel_rfl) (by kernel_rfl) (fun _ _ _ h => h) (Or.inl ⟨by rfl, ?_⟩) (by assumption) ?_
          rotate_left
          · intro w hSw; (dsimp only [Cs] at hSw); go_simp; (try with_reducible rfl)
          try simp only [Act.put, List.setIfInBounds_toArray, List.set_cons_zero, List.set_cons_succ]
          refine take_d (some 258) (i := 25) (v := ?_) rfl rfl (by kernel_rfl) (by kernel_rfl) (by kernel_rfl) (fun _ _ _ h => h) (Or.inl ⟨by rfl, ?_⟩) (by assumption) ?_
          rotate_left
          · intro w hSw; (dsimp only [Cs] at hSw); go_simp; (try with_reducible rfl)
          try simp only [Act.put, List.setIfInBounds_toArray, List.set_cons_zero, List.set_cons_succ]
          refine take_d (some 259) (i := 26) (v := ?_) rfl rfl (by kernel_rfl) (by kernel_rfl) (by kernel_rfl) (fun _ _ _ h => h) (Or.inl ⟨by rfl, ?_⟩) (by assumption) ?_
          rotate_left
          · intro w hSw; (dsimp only [Cs] at hSw); go_simp; (try with_reducible rfl)
          try simp only [Act.put, List.setIfInBounds_toArray, List.set_cons_zero, List.set_cons_succ]
          refine wpAnyH_ready (rs := [24]) (by kernel_rfl) (by simp) ?_
          refine AllReadyH.cons rfl (fun K hK => ?_) AllReadyH.nil
          go_simp
          refine (HL3.out _).mono ?_
          rintro e wK ⟨rfl, hbK⟩
          go_wp2_with fail
          refine hK.out _ _ ?_ (fun hHeld => ?_)
          · exact ⟨Cs.below hSK.1 hbK, bstep hSK.2 hbK⟩
          clear hSK
          have hSK := hHeld
          clear hHeld
          clear hK K
          try simp only [Act.put, List.setIfInBounds_toArray, List.set_cons_zero, List.set_cons_succ]
          refine wpAnyH_ready (rs := [27]) (by kernel_rfl) (by simp) ?_
          refine AllReadyH.cons rfl (fun K hK => ?_) AllReadyH.nil
          go_simp
          refine (HL4.out _).mono ?_
          rintro e wK ⟨rfl, hbK⟩
          go_wp2_with fail
          refine hK.out _ _ ?_ (fun hHeld => ?_)
          · exact ⟨Cs.below hSK.1 hbK, bstep hSK.2 hbK⟩
          clear hSK
          have hSK := hHeld
          clear hHeld
          clear hK K
          try simp only [Act.put, List.setIfInBounds_toArray, List.set_cons_zero, List.set_cons_succ]
          refine take_d (some 261) (i := 28) (v := ?_) rfl rfl (by kernel_rfl) (by kernel_rfl) (by kernel_rfl) (fun _ _ _ h => h) (Or.inl ⟨by rfl, ?_⟩) (by assumption) ?_
          rotate_left
          · intro w hSw; (dsimp only [Cs] at hSw); go_simp; (try with_reducible rfl)
          try simp only [Act.put, List.setIfInBounds_toArray, List.set_cons_zero, List.set_cons_succ]
          refine take_d (some 262) (i := 29) (v := ?_) rfl rfl (by kernel_rfl) (by kernel_rfl) (by kernel_rfl) (fun _ _ _ h => h) (Or.inl ⟨by rfl, ?_⟩) (by assumption) ?_
          rotate_left
          · intro w hSw; (dsimp only [Cs] at hSw); go_simp; (try with_reducible rfl)
          try simp only [Act.put, List.setIfInBounds_toArray, List.set_cons_zero, List.set_cons_succ]
          refine wpAnyH_done (by kernel_rfl) ?_ _
          have HB9 := Lib.hid hSK.2
          clear hSK
          go_wp2_with fail
          go_roundw
          case rel => exact ⟨k + 1, by omega, by go_num, HB9⟩
          case measure => simp [intOf]; omega
        · obtain rfl : 4 = k := by omega
          go_wp2_with fail
          refine (sane_ok _).mono ?_
          rintro e W1 ⟨rfl, hb1⟩
          have HB1 := Lib.hid (bstep HBE.out hb1)
          clear hb1
          go_wp2_with fail
          go_ret
          exact ⟨rfl, HB1.out⟩
end Go.Proofs.Ytnnajmoedihkjaa
