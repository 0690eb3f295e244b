/- The contract of intersection.Prove, and the example of layer 12. -/
import Derived.Test.YtbbdmaakphoofaaSame12
namespace Go.Proofs.Ytbbdmaakphoofaa
set_option linter.unusedVariables false
set_option linter.unusedSimpArgs false
open Go.RowKit

theorem keepW {W W' : World} {Q : Nat → Prop} {g : Nat} {T : Tr} {k n s : Value} (h : W.cell? ⟨g, 0, none⟩ = some k ∧ W.cell? ⟨g, 1, none⟩ = some n ∧ W.cell? ⟨g, 2, none⟩ = some s ∧ TrAt Q W T k n s) (hb : Below W.heap.size W W') : W'.cell? ⟨g, 0, none⟩ = some k ∧ W'.cell? ⟨g, 1, none⟩ = some n ∧ W'.cell? ⟨g, 2, none⟩ = some s ∧ TrAt Q W' T k n s :=
  ⟨(hb.cell (cell_lt h.1)).trans h.1, (hb.cell (cell_lt h.2.1)).trans h.2.1, (hb.cell (cell_lt h.2.2.1)).trans h.2.2.1, h.2.2.2.below hb⟩

set_option maxRecDepth 100000 in
set_option maxHeartbeats 4000000 in
theorem prove12_run (P : Nat → Prop) (ms : List Mem) (v : Value) (w : World) (hl : ms.length ≤ 10) (h : MemsAt P 2 w v ms) (hok : MemsOk ms.length ms) (hno : ∀ t, t < 2 ^ ms.length → ¬ Apart 2 ms t) :
    Calls Try.prog 63 #[.agg #[v]] w fun e w' => ∃ (x0 x1 x2 : Value) (T : Tr), e = .returned (.tuple #[.agg #[x0, x1, x2], .int .i64 0]) ∧ TrAt (fun b => w.heap.size ≤ b) w' T x0 x1 x2 ∧ RightT 2 ms T 0 0 ∧ Below w.heap.size w w' := by
  obtain ⟨A, c, rfl⟩ := h.slice
  have hb1 : Below w.heap.size w ((w.alloc (.cells #[.slice A ms.length c] 27)).alloc (.cells #[.int .i64 0, .int .i64 0, .slice none 0 0] 51)) := balloc (balloc (bref w) _) _
  have k0 : ((w.alloc (.cells #[.slice A ms.length c] 27)).alloc (.cells #[.int .i64 0, .int .i64 0, .slice none 0 0] 51)).heap[w.heap.size]? = some (.cells #[.slice A ms.length c] 27 (0, 0)) := alloc_on (alloc_at rfl)
  have k1 : ((w.alloc (.cells #[.slice A ms.length c] 27)).alloc (.cells #[.int .i64 0, .int .i64 0, .slice none 0 0] 51)).heap[w.heap.size + 1]? = some (.cells #[.int .i64 0, .int .i64 0, .slice none 0 0] 51 (0, 0)) := alloc_at (alloc_sz _ _)
  have H := Lib.hid (h.below hb1)
  have HB := Lib.hid hb1
  have K0 := Lib.hid k0
  have K1 := Lib.hid k1
  have HNO := Lib.hid hno
  have hu : und ms.length 0 0 < 11 := by have := und_le ms.length 0 0; omega
  clear h hb1 k0 k1
  go_enter Try.func63, Try.ntmps63
  go_upto_region 1 with fail
  generalize ((w.alloc (.cells #[.slice A ms.length c] 27)).alloc (.cells #[.int .i64 0, .int .i64 0, .slice none 0 0] 51)) = W1 at *
  generalize hg : w.heap.size = g at *
  have HG := Lib.hid hg
  clear hg
  have c0 : W1.cell? ⟨g, 0, none⟩ = some (.slice A ms.length c) := cell_of_row _ _ 0 _ _ (0, 0) K0.out
  have HBw := Lib.hid (show Below w.heap.size w W1 by rw [HG.out]; exact HB.out)
  go_wp2_with fail
  refine (holds12_run P ms _ _ hl H.out hok).mono ?_
  rintro e W2 ⟨hho, hb2⟩
  have he : e = .returned (.tuple #[.bool true, .int .i64 0]) := by
    rcases hho with ⟨h1, _⟩ | ⟨_, t, ht, hA⟩
    · exact h1
    · exact (HNO.out t ht hA).elim
  subst he
  have HK2 := Lib.hid (keepT ⟨c0, K1.out, H.out⟩ hb2)
  have HB2 := Lib.hid (bstep HBw.out hb2)
  have c2 := HK2.out.1
  clear hho hb2 c0 hno
  go_wp2_with fail
  refine (search_run P 2 ms _ hl HNO.out 11 _ 0 0 (by omega) (by omega) hu HK2.out.2.2).mono ?_
  rintro e W3 ⟨x0, x1, x2, T, rfl, hT, hR, hb3⟩
  obtain ⟨Kk, Nn, Aa, mm, cc, rfl, rfl, rfl⟩ := hT.form
  have HK3 := Lib.hid (keepT HK2.out hb3)
  have HB3 := Lib.hid (bstep HB2.out hb3)
  have HR := Lib.hid hR
  have HT := Lib.hid hT
  have zo : TOut W3 (g + 1) (.int .i64 0) (.int .i64 0) (.slice none 0 0) := HK3.out.2.1
  obtain ⟨z0, z1, z2⟩ := zo.cs
  have f0 := zo.fr 0
  have f1 := zo.fr 1
  have f2 := zo.fr 2
  have HSET := Lib.hid (zo.set (.int .i64 Kk) (.int .i64 Nn) (.slice Aa mm cc))
  have hg2 : g + 2 ≤ W2.heap.size := by
    have h2 := HK2.out.2.1
    rcases Nat.lt_or_ge (g + 1) W2.heap.size with h3 | h3
    · omega
    · rw [Array.getElem?_eq_none h3] at h2; cases h2
  have hsw := HB2.out.size
  have HTT := Lib.hid (show TrAt (fun b => w.heap.size ≤ b) (((W3.setCell ⟨g + 1, 0, none⟩ (.int .i64 Kk)).setCell ⟨g + 1, 1, none⟩ (.int .i64 Nn)).setCell ⟨g + 1, 2, none⟩ (.slice Aa mm cc)) T (.int .i64 Kk) (.int .i64 Nn) (.slice Aa mm cc) from
    TrAt.both (fun q hq hP => TOut.far _ _ _ q (by omega)) (fun q hP => by omega) HT.out)
  have HZ := Lib.hid (bset (bset (bset HB3.out (p := ⟨g + 1, 0, none⟩) (by rw [HG.out]; show g ≤ g + 1; omega) (.int .i64 Kk)) (p := ⟨g + 1, 1, none⟩) (by rw [HG.out]; show g ≤ g + 1; omega) (.int .i64 Nn)) (p := ⟨g + 1, 2, none⟩) (by rw [HG.out]; show g ≤ g + 1; omega) (.slice Aa mm cc))
  clear hb3 c2 zo hR hT
  go_wp2_with fail
  obtain ⟨q0, q1, q2⟩ := HSET.out.cs
  refine bodyPost_ret (v := .tuple #[.agg #[.int .i64 Kk, .int .i64 Nn, .slice Aa mm cc], .int .i64 0]) ?_ rfl ⟨_, _, _, T, rfl, HTT.out, HR.out, HZ.out⟩
  simp [results, Try.results63, go_sem, q0, q1, q2]

theorem dis31 {e : Ending} (h : DisjOk 2 (uniM 3 1 3) e) : e = .returned (.tuple #[.int .i64 1, .int .i64 6, .int .i64 0]) := by
  rcases h with ⟨i, a, b, rfl, hi, hA, hgr, _, hno⟩ | ⟨_, hno⟩
  · rw [uniM_len] at hi
    have h0 : i ≠ 0 := fun e => by
      subst e
      rw [ord3.1] at hi
      obtain rfl : 0 = a := Option.some.inj hi
      exact hA.1.1 rfl
    have h1 : i ≤ 1 := by
      rcases Nat.lt_or_ge 1 i with h | h
      · exact (hno 1 1 h (by rw [uniM_len]; exact ord3.2) uni31_1).elim
      · exact h
    obtain rfl : i = 1 := by omega
    rw [ord3.2] at hi
    obtain rfl : 1 = a := Option.some.inj hi
    obtain rfl := uni31_b hgr
    rfl
  · exact (hno 1 (by rw [uniM_len]; omega) uni31_1).elim

set_option maxRecDepth 100000 in
set_option maxHeartbeats 8000000 in
theorem awake12 (w : World) : Calls Try.prog 26 #[] w fun e w' => e = .returned (.bool true) ∧ Below w.heap.size w w' := by
  have HOK2 := Lib.hid (uni_ok (n := 3) (k := 2) (by omega) (by omega) (by omega))
  have HOK1 := Lib.hid (uni_ok (n := 3) (k := 1) (by omega) (by omega) (by omega))
  have hl2 : (uniM 3 2 3).length ≤ 10 := by decide
  have hl1 : (uniM 3 1 3).length ≤ 10 := by decide
  have HNO := Lib.hid (show ∀ t, t < 2 ^ (uniM 3 2 3).length → ¬ Apart 2 (uniM 3 2 3) t from fun t ht hA => by
    rw [uniM_len] at ht
    have := (uni_apart (d := 1) (n := 3) (k := 2) (by omega) (by omega) (by omega)).1 ⟨t, ht, hA⟩
    omega)
  go_enter Try.func26, Try.ntmps26
  go_wp2_with fail
  refine (same12_run 3 2 (by omega) (by omega) _).mono ?_
  rintro e w1 ⟨v1, rfl, hm1, hb1⟩
  go_wp2_with fail
  refine (holds12_run _ _ _ _ hl2 hm1.up HOK2.out).mono ?_
  rintro e w2 ⟨hho, hb2⟩
  have he : e = .returned (.tuple #[.bool true, .int .i64 0]) := by
    rcases hho with ⟨h1, _⟩ | ⟨_, t, ht, hA⟩
    · exact h1
    · exact (HNO.out t ht hA).elim
  subst he
  have HB2 := Lib.hid (bstep hb1 hb2)
  clear hho hm1 hb1 hb2
  go_wp2_with fail
  refine (same12_run 3 1 (by omega) (by omega) _).mono ?_
  rintro e w3 ⟨v3, rfl, hm3, hb3⟩
  go_wp2_with fail
  refine (disjoint12_run _ _ _ _ hl1 hm3.up HOK1.out).mono ?_
  rintro e w4 ⟨hdj, hb4⟩
  obtain rfl := dis31 hdj
  have HB4 := Lib.hid (bstep (bstep HB2.out hb3) hb4)
  clear hdj hm3 hb3 hb4
  go_wp2_with fail
  refine (same12_run 3 2 (by omega) (by omega) _).mono ?_
  rintro e w5 ⟨v5, rfl, hm5, hb5⟩
  go_wp2_with fail
  refine (prove12_run _ _ _ _ hl2 hm5.up HOK2.out HNO.out).mono ?_
  rintro e w6 ⟨x0, x1, x2, T, rfl, hT, hR, hb6⟩
  obtain ⟨K1, N1, A1, m1, c1, rfl, rfl, rfl⟩ := hT.form
  have HRT := Lib.hid hR
  have hsl := size_le hl2 hR
  have hs1 : 1 < sizeTr T := by
    rcases T with _ | _ | ⟨nd, a, b⟩
    · exfalso
      have hG : Av 2 (uniM 3 2 3) 0 7 := by
        have hD : declS (uniM 3 2 3) (uniM 3 2 3).length = 7 := by decide
        refine ⟨⟨?_, (uni_closed (by omega) (by omega) (by omega)).2 (by decide), fun q _ hq _ => ?_⟩, by omega⟩
        · rw [hD, uniM_len]; exact sub_iff.1 (by decide)
        · rw [hD, uniM_len, show outS 3 0 &&& 7 = 7 by decide] at hq; exact hq
      rcases hR 7 hG with h | h
      · omega
      · exact h (fun k hk => by simp at hk)
    · exfalso
      have hG : Av 2 (uniM 3 2 3) 0 7 := by
        have hD : declS (uniM 3 2 3) (uniM 3 2 3).length = 7 := by decide
        refine ⟨⟨?_, (uni_closed (by omega) (by omega) (by omega)).2 (by decide), fun q _ hq _ => ?_⟩, by omega⟩
        · rw [hD, uniM_len]; exact sub_iff.1 (by decide)
        · rw [hD, uniM_len, show outS 3 0 &&& 7 = 7 by decide] at hq; exact hq
      have := hR 7 hG
      omega
    · show 1 < 1 + sizeTr a + sizeTr b
      have := size_le2 a
      have := size_le2 b
      omega
  have HB6 := Lib.hid (bstep (bstep HB4.out hb5) hb6)
  have hba := balloc (bref w6) (.cells #[.int .i64 K1, .int .i64 N1, .slice A1 m1 c1] 51)
  have k6 : TOut (w6.alloc (.cells #[.int .i64 K1, .int .i64 N1, .slice A1 m1 c1] 51)) w6.heap.size (.int .i64 K1) (.int .i64 N1) (.slice A1 m1 c1) := alloc_at rfl
  have HS := Lib.hid (show _ ∧ _ ∧ _ ∧ _ from ⟨k6.cs.1, k6.cs.2.1, k6.cs.2.2, hT.below hba⟩)
  have HBA := Lib.hid (balloc HB6.out (.cells #[.int .i64 K1, .int .i64 N1, .slice A1 m1 c1] 51))
  clear hm5 hb5 hb6 hR hT hba k6
  have hgt : (1 : Int) < ((sizeTr T : Nat) : Int) := by omega
  go_upto_region 4 with fail
  generalize w6.alloc (.cells #[.int .i64 K1, .int .i64 N1, .slice A1 m1 c1] 51) = W7 at *
  generalize w6.heap.size = g6 at *
  have hS := Lib.hid (keepW HS.out (bdrewT W7))
  refine wp_region_noPanic ?_
  refine wp_region_held_drew (S := fun W => W.cell? ⟨g6, 0, none⟩ = some (.int .i64 K1) ∧ W.cell? ⟨g6, 1, none⟩ = some (.int .i64 N1) ∧ W.cell? ⟨g6, 2, none⟩ = some (.slice A1 m1 c1) ∧ TrAt (fun b => w5.heap.size ≤ b) W T (.int .i64 K1) (.int .i64 N1) (.slice A1 m1 c1)) (by kernel_rfl) hS.out (fun hHeld => ?_)
  refine take_d (some 24) (i := 0) (v := ?_) rfl rfl (by kernel_rfl) (by kernel_rfl) (by kernel_rfl) (fun _ _ _ h => h) (Or.inl ⟨by rfl, ?_⟩) (by assumption) ?_
  rotate_left
  · intro w hSw; (try dsimp only at hSw); go_simp; (try with_reducible rfl)
  try simp only [Act.put, List.setIfInBounds_toArray, List.set_cons_zero, List.set_cons_succ]
  refine take_d (some 25) (i := 1) (v := ?_) rfl rfl (by kernel_rfl) (by kernel_rfl) (by kernel_rfl) (fun _ _ _ h => h) (Or.inl ⟨by rfl, ?_⟩) (by assumption) ?_
  rotate_left
  · intro w hSw; (try dsimp only at hSw); go_simp; (try with_reducible rfl)
  try simp only [Act.put, List.setIfInBounds_toArray, List.set_cons_zero, List.set_cons_succ]
  refine take_d (some 26) (i := 2) (v := ?_) rfl rfl (by kernel_rfl) (by kernel_rfl) (by kernel_rfl) (fun _ _ _ h => h) (Or.inl ⟨by rfl, ?_⟩) (by assumption) ?_
  rotate_left
  · intro w hSw; (try dsimp only at hSw); go_simp; (try with_reducible rfl)
  try simp only [Act.put, List.setIfInBounds_toArray, List.set_cons_zero, List.set_cons_succ]
  refine take_d (some 27) (i := 3) (v := ?_) rfl rfl (by kernel_rfl) (by kernel_rfl) (by kernel_rfl) (fun _ _ _ h => h) (Or.inl ⟨by rfl, ?_⟩) (by assumption) ?_
  rotate_left
  · intro w hSw; (try dsimp only at hSw); go_simp; (try with_reducible rfl)
  try simp only [Act.put, List.setIfInBounds_toArray, List.set_cons_zero, List.set_cons_succ]
  refine take_d (some 28) (i := 4) (v := ?_) rfl rfl (by kernel_rfl) (by kernel_rfl) (by kernel_rfl) (fun _ _ _ h => h) (Or.inl ⟨by rfl, ?_⟩) (by assumption) ?_
  rotate_left
  · intro w hSw; (try dsimp only at hSw); go_simp; (try with_reducible rfl)
  try simp only [Act.put, List.setIfInBounds_toArray, List.set_cons_zero, List.set_cons_succ]
  refine take_d (some 29) (i := 5) (v := ?_) rfl rfl (by kernel_rfl) (by kernel_rfl) (by kernel_rfl) (fun _ _ _ h => h) (Or.inl ⟨by rfl, ?_⟩) (by assumption) ?_
  rotate_left
  · intro w hSw; (try dsimp only at hSw); go_simp; (try with_reducible rfl)
  try simp only [Act.put, List.setIfInBounds_toArray, List.set_cons_zero, List.set_cons_succ]
  refine take_d (some 30) (i := 6) (v := ?_) rfl rfl (by kernel_rfl) (by kernel_rfl) (by kernel_rfl) (fun _ _ _ h => h) (Or.inl ⟨by rfl, ?_⟩) (by assumption) ?_
  rotate_left
  · intro w hSw; (try dsimp only at hSw); go_simp; (try with_reducible rfl)
  try simp only [Act.put, List.setIfInBounds_toArray, List.set_cons_zero, List.set_cons_succ]
  refine take_d (some 31) (i := 7) (v := ?_) rfl rfl (by kernel_rfl) (by kernel_rfl) (by kernel_rfl) (fun _ _ _ h => h) (Or.inl ⟨by rfl, ?_⟩) (by assumption) ?_
  rotate_left
  · intro w hSw; (try dsimp only at hSw); go_simp; (try with_reducible rfl)
  try simp only [Act.put, List.setIfInBounds_toArray, List.set_cons_zero, List.set_cons_succ]
  refine take_d (some 32) (i := 8) (v := ?_) rfl rfl (by kernel_rfl) (by kernel_rfl) (by kernel_rfl) (fun _ _ _ h => h) (Or.inl ⟨by rfl, ?_⟩) (by assumption) ?_
  rotate_left
  · intro w hSw; (try dsimp only at hSw); go_simp; (try with_reducible rfl)
  try simp only [Act.put, List.setIfInBounds_toArray, List.set_cons_zero, List.set_cons_succ]
  refine take_d (some 33) (i := 9) (v := ?_) rfl rfl (by kernel_rfl) (by kernel_rfl) (by kernel_rfl) (fun _ _ _ h => h) (Or.inl ⟨by rfl, ?_⟩) (by assumption) ?_
  rotate_left
  · intro w hSw; (try dsimp only at hSw); go_simp; (try with_reducible rfl)
  try simp only [Act.put, List.setIfInBounds_toArray, List.set_cons_zero, List.set_cons_succ]
  refine take_d (some 34) (i := 10) (v := ?_) rfl rfl (by kernel_rfl) (by kernel_rfl) (by kernel_rfl) (fun _ _ _ h => h) (Or.inl ⟨by rfl, ?_⟩) (by assumption) ?_
  rotate_left
  · intro w hSw; (try dsimp only at hSw); go_simp; (try with_reducible rfl)
  try simp only [Act.put, List.setIfInBounds_toArray, List.set_cons_zero, List.set_cons_succ]
  refine take_d (some 35) (i := 11) (v := ?_) rfl rfl (by kernel_rfl) (by kernel_rfl) (by kernel_rfl) (fun _ _ _ h => h) (Or.inl ⟨by rfl, ?_⟩) (by assumption) ?_
  rotate_left
  · intro w hSw; (try dsimp only at hSw); go_simp; (try with_reducible rfl)
  try simp only [Act.put, List.setIfInBounds_toArray, List.set_cons_zero, List.set_cons_succ]
  refine take_d (some 36) (i := 12) (v := ?_) rfl rfl (by kernel_rfl) (by kernel_rfl) (by kernel_rfl) (fun _ _ _ h => h) (Or.inl ⟨by rfl, ?_⟩) (by assumption) ?_
  rotate_left
  · intro w hSw; (try dsimp only at hSw); go_simp; (try with_reducible rfl)
  try simp only [Act.put, List.setIfInBounds_toArray, List.set_cons_zero, List.set_cons_succ]
  refine take_d (some 37) (i := 13) (v := ?_) rfl rfl (by kernel_rfl) (by kernel_rfl) (by kernel_rfl) (fun _ _ _ h => h) (Or.inl ⟨by rfl, ?_⟩) (by assumption) ?_
  rotate_left
  · intro w hSw; (try dsimp only at hSw); go_simp; (try with_reducible rfl)
  try simp only [Act.put, List.setIfInBounds_toArray, List.set_cons_zero, List.set_cons_succ]
  refine take_d (some 38) (i := 14) (v := ?_) rfl rfl (by kernel_rfl) (by kernel_rfl) (by kernel_rfl) (fun _ _ _ h => h) (Or.inl ⟨by rfl, ?_⟩) (by assumption) ?_
  rotate_left
  · intro w hSw; (try dsimp only at hSw); go_simp; (try with_reducible rfl)
  try simp only [Act.put, List.setIfInBounds_toArray, List.set_cons_zero, List.set_cons_succ]
  refine take_d (some 39) (i := 15) (v := ?_) rfl rfl (by kernel_rfl) (by kernel_rfl) (by kernel_rfl) (fun _ _ _ h => h) (Or.inl ⟨by rfl, ?_⟩) (by assumption) ?_
  rotate_left
  · intro w hSw; (try dsimp only at hSw); go_simp; (try with_reducible rfl)
  try simp only [Act.put, List.setIfInBounds_toArray, List.set_cons_zero, List.set_cons_succ]
  refine take_d (some 40) (i := 16) (v := ?_) rfl rfl (by kernel_rfl) (by kernel_rfl) (by kernel_rfl) (fun _ _ _ h => h) (Or.inl ⟨by rfl, ?_⟩) (by assumption) ?_
  rotate_left
  · intro w hSw; (try dsimp only at hSw); go_simp; (try with_reducible rfl)
  try simp only [Act.put, List.setIfInBounds_toArray, List.set_cons_zero, List.set_cons_succ]
  refine take_d (some 41) (i := 17) (v := ?_) rfl rfl (by kernel_rfl) (by kernel_rfl) (by kernel_rfl) (fun _ _ _ h => h) (Or.inl ⟨by rfl, ?_⟩) (by assumption) ?_
  rotate_left
  · intro w hSw; (try dsimp only at hSw); go_simp; (try with_reducible rfl)
  try simp only [Act.put, List.setIfInBounds_toArray, List.set_cons_zero, List.set_cons_succ]
  refine take_d (some 42) (i := 18) (v := ?_) rfl rfl (by kernel_rfl) (by kernel_rfl) (by kernel_rfl) (fun _ _ _ h => h) (Or.inl ⟨by rfl, ?_⟩) (by assumption) ?_
  rotate_left
  · intro w hSw; (try dsimp only at hSw); go_simp; (try with_reducible rfl)
  try simp only [Act.put, List.setIfInBounds_toArray, List.set_cons_zero, List.set_cons_succ]
  refine take_d (some 43) (i := 19) (v := ?_) rfl rfl (by kernel_rfl) (by kernel_rfl) (by kernel_rfl) (fun _ _ _ h => h) (Or.inl ⟨by rfl, ?_⟩) (by assumption) ?_
  rotate_left
  · intro w hSw; (try dsimp only at hSw); go_simp; (try with_reducible rfl)
  try simp only [Act.put, List.setIfInBounds_toArray, List.set_cons_zero, List.set_cons_succ]
  refine take_d (some 44) (i := 20) (v := ?_) rfl rfl (by kernel_rfl) (by kernel_rfl) (by kernel_rfl) (fun _ _ _ h => h) (Or.inl ⟨by rfl, ?_⟩) (by assumption) ?_
  rotate_left
  · intro w hSw; (try dsimp only at hSw); go_simp; (try with_reducible rfl)
  try simp only [Act.put, List.setIfInBounds_toArray, List.set_cons_zero, List.set_cons_succ]
  refine take_d (some 45) (i := 21) (v := ?_) rfl rfl (by kernel_rfl) (by kernel_rfl) (by kernel_rfl) (fun _ _ _ h => h) (Or.inl ⟨by rfl, ?_⟩) (by assumption) ?_
  rotate_left
  · intro w hSw; (try dsimp only at hSw); go_simp; (try with_reducible rfl)
  try simp only [Act.put, List.setIfInBounds_toArray, List.set_cons_zero, List.set_cons_succ]
  refine take_d (some 47) (i := 23) (v := ?_) rfl rfl (by kernel_rfl) (by kernel_rfl) (by kernel_rfl) (fun _ _ _ h => h) (Or.inl ⟨by rfl, ?_⟩) (by assumption) ?_
  rotate_left
  · intro w hSw; (try dsimp only at hSw); go_simp; (try with_reducible rfl)
  try simp only [Act.put, List.setIfInBounds_toArray, List.set_cons_zero, List.set_cons_succ]
  refine wpAnyH_ready (rs := [22]) (by kernel_rfl) (by simp) ?_
  refine AllReadyH.cons rfl (fun K hK => ?_) AllReadyH.nil
  go_simp
  refine (same12_run 3 2 (by omega) (by omega) _).mono ?_; rintro e WK ⟨vs, rfl, hm7, hbK⟩; have hSK := keepW (by assumption) hbK
  go_wp2_with fail
  refine hK.out _ _ ?_ (fun hHeld => ?_)
  · first | exact hSK2 | exact hSK1 | exact hSK
  clear hK K
  try simp only [Act.put, List.setIfInBounds_toArray, List.set_cons_zero, List.set_cons_succ]
  refine wpAnyH_ready (rs := [24]) (by kernel_rfl) (by simp) ?_
  refine AllReadyH.cons rfl (fun K hK => ?_) AllReadyH.nil
  go_simp
  refine (check12_run _ _ (uniM 3 2 3) _ T _ _ _ _ (by decide) hm7.up HOK2.out hSK.2.2.2 HRT.out).mono ?_; rintro e WK1 ⟨rfl, hbK1⟩; have hSK1 := keepW hSK hbK1
  go_wp2_with fail
  refine hK.out _ _ ?_ (fun hHeld => ?_)
  · first | exact hSK2 | exact hSK1 | exact hSK
  clear hK K
  try simp only [Act.put, List.setIfInBounds_toArray, List.set_cons_zero, List.set_cons_succ]
  refine take_d (some 49) (i := 25) (v := ?_) rfl rfl (by kernel_rfl) (by kernel_rfl) (by kernel_rfl) (fun _ _ _ h => h) (Or.inl ⟨by rfl, ?_⟩) (by assumption) ?_
  rotate_left
  · intro w hSw; (try dsimp only at hSw); go_simp; (try with_reducible rfl)
  try simp only [Act.put, List.setIfInBounds_toArray, List.set_cons_zero, List.set_cons_succ]
  refine take_d (some 50) (i := 26) (v := ?_) rfl rfl (by kernel_rfl) (by kernel_rfl) (by kernel_rfl) (fun _ _ _ h => h) (Or.inl ⟨by rfl, ?_⟩) (by assumption) ?_
  rotate_left
  · intro w hSw; (try dsimp only at hSw); go_simp; (try with_reducible rfl)
  try simp only [Act.put, List.setIfInBounds_toArray, List.set_cons_zero, List.set_cons_succ]
  refine take_d (some 51) (i := 27) (v := ?_) rfl rfl (by kernel_rfl) (by kernel_rfl) (by kernel_rfl) (fun _ _ _ h => h) (Or.inl ⟨by rfl, ?_⟩) (by assumption) ?_
  rotate_left
  · intro w hSw; (try dsimp only at hSw); go_simp; (try with_reducible rfl)
  try simp only [Act.put, List.setIfInBounds_toArray, List.set_cons_zero, List.set_cons_succ]
  refine wpAnyH_ready (rs := [28]) (by kernel_rfl) (by simp) ?_
  refine AllReadyH.cons rfl (fun K hK => ?_) AllReadyH.nil
  go_simp
  refine (size12_run _ T _ _ _ _ (by omega) hSK1.2.2.2).mono ?_; rintro e WK2 ⟨rfl, hbK2⟩; have hSK2 := keepW hSK1 hbK2
  go_wp2_with fail
  refine hK.out _ _ ?_ (fun hHeld => ?_)
  · first | exact hSK2 | exact hSK1 | exact hSK
  clear hK K
  try simp only [Act.put, List.setIfInBounds_toArray, List.set_cons_zero, List.set_cons_succ]
  refine take_d (some 53) (i := 29) (v := ?_) rfl rfl (by kernel_rfl) (by kernel_rfl) (by kernel_rfl) (fun _ _ _ h => h) (Or.inl ⟨by rfl, ?_⟩) (by assumption) ?_
  rotate_left
  · intro w hSw; (try dsimp only at hSw); go_simp; (try with_reducible rfl)
  try simp only [Act.put, List.setIfInBounds_toArray, List.set_cons_zero, List.set_cons_succ]
  refine take_d (some 54) (i := 30) (v := ?_) rfl rfl (by kernel_rfl) (by kernel_rfl) (by kernel_rfl) (fun _ _ _ h => h) (Or.inl ⟨by rfl, ?_⟩) (by assumption) ?_
  rotate_left
  · intro w hSw; (try dsimp only at hSw); go_simp; (try with_reducible rfl)
  try simp only [Act.put, List.setIfInBounds_toArray, List.set_cons_zero, List.set_cons_succ]
  refine take_d (some 0) (i := 31) (v := ?_) rfl rfl (by kernel_rfl) (by kernel_rfl) (by kernel_rfl) (fun _ _ _ h => h) (Or.inl ⟨by rfl, ?_⟩) (by assumption) ?_
  rotate_left
  · intro w hSw; (try dsimp only at hSw); go_simp; (try with_reducible rfl)
  try simp only [Act.put, List.setIfInBounds_toArray, List.set_cons_zero, List.set_cons_succ]
  refine wpAnyH_done (by kernel_rfl) ?_ _
  refine NoPanic.normal ?_
  have HZ := Lib.hid (bstep (bstep (bstep (bstep HBA.out (bdrewT W7)) hbK) hbK1) hbK2)
  clear hSK hSK1 hSK2 hHeld hS hm7 hbK hbK1 hbK2
  go_wp2_with fail
  go_ret
  exact ⟨rfl, HZ.out⟩
end Go.Proofs.Ytbbdmaakphoofaa
