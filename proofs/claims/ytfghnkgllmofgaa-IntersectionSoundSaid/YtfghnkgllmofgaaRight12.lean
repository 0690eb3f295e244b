/- The contracts of intersection.right and intersection.Size. -/
import Derived.Test.YtfghnkgllmofgaaSearch
namespace Go.Proofs.Ytfghnkgllmofgaa
set_option linter.unusedVariables false
set_option linter.unusedSimpArgs false
open Go.RowKit

theorem keep9 {W W' : World} {a0 a1 a2 a3 a4 a5 a6 a7 a8 : Addr} {v0 v1 v2 v3 v4 v5 v6 v7 v8 : Value} (h : W.cell? a0 = some v0 ∧ W.cell? a1 = some v1 ∧ W.cell? a2 = some v2 ∧ W.cell? a3 = some v3 ∧ W.cell? a4 = some v4 ∧ W.cell? a5 = some v5 ∧ W.cell? a6 = some v6 ∧ W.cell? a7 = some v7 ∧ W.cell? a8 = some v8) (hb : Below W.heap.size W W') : W'.cell? a0 = some v0 ∧ W'.cell? a1 = some v1 ∧ W'.cell? a2 = some v2 ∧ W'.cell? a3 = some v3 ∧ W'.cell? a4 = some v4 ∧ W'.cell? a5 = some v5 ∧ W'.cell? a6 = some v6 ∧ W'.cell? a7 = some v7 ∧ W'.cell? a8 = some v8 :=
  ⟨(hb.cell (cell_lt h.1)).trans h.1, (hb.cell (cell_lt h.2.1)).trans h.2.1, (hb.cell (cell_lt h.2.2.1)).trans h.2.2.1, (hb.cell (cell_lt h.2.2.2.1)).trans h.2.2.2.1, (hb.cell (cell_lt h.2.2.2.2.1)).trans h.2.2.2.2.1, (hb.cell (cell_lt h.2.2.2.2.2.1)).trans h.2.2.2.2.2.1, (hb.cell (cell_lt h.2.2.2.2.2.2.1)).trans h.2.2.2.2.2.2.1, (hb.cell (cell_lt h.2.2.2.2.2.2.2.1)).trans h.2.2.2.2.2.2.2.1, (hb.cell (cell_lt h.2.2.2.2.2.2.2.2)).trans h.2.2.2.2.2.2.2.2⟩

set_option maxRecDepth 100000 in
set_option maxHeartbeats 8000000 in
theorem right12_run (P Q : Nat → Prop) (d : Nat) (ms : List Mem) (v : Value) (hl : ms.length ≤ 10) : ∀ (T : Tr) (x0 x1 x2 : Value) (R X : Nat) (w : World), R < 1024 → X < 1024 → MemsAt P d w v ms → TrAt Q w T x0 x1 x2 → RightT d ms T R X →
    Calls Try.prog 24 #[.agg #[v], .agg #[x0, x1, x2], .int .i64 (R : Int), .int .i64 (X : Int)] w fun e w' => e = .returned (.bool true) ∧ Below w.heap.size w w' := by
  intro T
  induction T with
  | none =>
    intro x0 x1 x2 R X w hR hX h hT hr
    obtain ⟨rfl, rfl, rfl⟩ := hT
    obtain ⟨A, c, rfl⟩ := h.slice
    have hb1 : Below w.heap.size w ((w.alloc (.cells #[.slice A ms.length c] 27)).alloc (.cells #[.int .i64 1, .int .i64 0, .slice none 0 0] 31)) := balloc (balloc (bref w) _) _
    have H := Lib.hid (h.below hb1)
    have HB := Lib.hid hb1
    have HR := Lib.hid hr
    clear h hb1 hr
    go_enter Try.func24, Try.ntmps24
    go_wp2_with fail
    refine (none_run _ d ms _ R X _ hl hR hX H.out).mono ?_
    rintro e W2 ⟨G, rfl, hGl, hgr, hb2⟩
    rw [noneB_iff.2 (HR.out G ⟨hgr, hGl⟩)]
    have HB2 := Lib.hid (bstep HB.out hb2)
    clear hgr hb2
    go_wp2_with fail
    go_ret
    exact ⟨rfl, HB2.out⟩
  | alone =>
    intro x0 x1 x2 R X w hR hX h hT hr
    obtain ⟨rfl, rfl, rfl⟩ := hT
    obtain ⟨A, c, rfl⟩ := h.slice
    have hb1 : Below w.heap.size w ((w.alloc (.cells #[.slice A ms.length c] 27)).alloc (.cells #[.int .i64 2, .int .i64 0, .slice none 0 0] 31)) := balloc (balloc (bref w) _) _
    have H := Lib.hid (h.below hb1)
    have HB := Lib.hid hb1
    have HR := Lib.hid hr
    clear h hb1 hr
    go_enter Try.func24, Try.ntmps24
    go_wp2_with fail
    refine (alone_run _ d ms _ R _ hl hR H.out).mono ?_
    rintro e W2 ⟨G, rfl, hGl, hgr, hb2⟩
    have hG0 : G = 0 := HR.out G ⟨hgr, hGl⟩
    subst hG0
    have HB2 := Lib.hid (bstep HB.out hb2)
    clear hgr hb2
    go_wp2_with fail
    go_ret
    exact ⟨rfl, HB2.out⟩
  | split nd a b iha ihb =>
    intro x0 x1 x2 R X w hR hX h hT hr
    obtain ⟨rfl, rfl, q, off, u0, u1, u2, y0, y1, y2, rfl, hQ, e0, e1, e2, e3, e4, e5, ha, hb⟩ := hT
    obtain ⟨K1, N1, A1, m1, c1, rfl, rfl, rfl⟩ := ha.form
    obtain ⟨K2, N2, A2, m2, c2, rfl, rfl, rfl⟩ := hb.form
    obtain ⟨hnd, hRb, hXb, hr1, hr2⟩ := hr
    obtain ⟨A, c, rfl⟩ := h.slice
    have hb1 : Below w.heap.size w ((w.alloc (.cells #[.slice A ms.length c] 27)).alloc (.cells #[.int .i64 3, .int .i64 (nd : Int), .slice (some ⟨q, off, none⟩) 2 2] 31)) := balloc (balloc (bref w) _) _
    have k0 : ((w.alloc (.cells #[.slice A ms.length c] 27)).alloc (.cells #[.int .i64 3, .int .i64 (nd : Int), .slice (some ⟨q, off, none⟩) 2 2] 31)).heap[w.heap.size]? = some (.cells #[.slice A ms.length c] 27 (0, 0)) := alloc_on (alloc_at rfl)
    have k1 : ((w.alloc (.cells #[.slice A ms.length c] 27)).alloc (.cells #[.int .i64 3, .int .i64 (nd : Int), .slice (some ⟨q, off, none⟩) 2 2] 31)).heap[w.heap.size + 1]? = some (.cells #[.int .i64 3, .int .i64 (nd : Int), .slice (some ⟨q, off, none⟩) 2 2] 31 (0, 0)) := alloc_at (alloc_sz _ _)
    have H := Lib.hid (h.below hb1)
    have hTa := ha.below hb1
    have hTb := hb.below hb1
    have E0 := (hb1.cell (cell_lt e0)).trans e0
    have E1 := (hb1.cell (cell_lt e1)).trans e1
    have E2 := (hb1.cell (cell_lt e2)).trans e2
    have E3 := (hb1.cell (cell_lt e3)).trans e3
    have E4 := (hb1.cell (cell_lt e4)).trans e4
    have E5 := (hb1.cell (cell_lt e5)).trans e5
    have HB := Lib.hid hb1
    have K0 := Lib.hid k0
    have K1' := Lib.hid k1
    have IHA := Lib.hid (fun R X w => iha (.int .i64 K1) (.int .i64 N1) (.slice A1 m1 c1) R X w)
    have IHB := Lib.hid (fun R X w => ihb (.int .i64 K2) (.int .i64 N2) (.slice A2 m2 c2) R X w)
    have HTA := Lib.hid hTa
    have HTB := Lib.hid hTb
    have HR1 := Lib.hid hr1
    have HR2 := Lib.hid hr2
    have hnd10 : nd < 10 := by omega
    have hp10 : 2 ^ nd < 2 ^ 10 := Nat.pow_lt_pow_right (by omega) hnd10
    have hX2 : X ||| 2 ^ nd < 1024 := Nat.or_lt_two_pow (n := 10) hX hp10
    have hR2 : R ||| 2 ^ nd < 1024 := Nat.or_lt_two_pow (n := 10) hR hp10
    have hoX := or_factT X nd hX hnd10
    have hoR := or_factT R nd hR hnd10
    have hk0 : (0 : Int) ≤ (nd : Int) := by omega
    have hk64 : ¬ (64 : Int) ≤ (nd : Int) := by omega
    clear h hb1 k0 k1 iha ihb ha hb e0 e1 e2 e3 e4 e5 hTa hTb hr1 hr2
    go_enter Try.func24, Try.ntmps24
    go_upto_region 1 with fail
    generalize ((w.alloc (.cells #[.slice A ms.length c] 27)).alloc (.cells #[.int .i64 3, .int .i64 (nd : Int), .slice (some ⟨q, off, none⟩) 2 2] 31)) = W1 at *
    generalize hg : w.heap.size = g at *
    have HG := Lib.hid hg
    clear hg
    have c0 : W1.cell? ⟨g, 0, none⟩ = some (.slice A ms.length c) := cell_of_row _ _ 0 _ _ (0, 0) K0.out
    have t0 : W1.cell? ⟨g + 1, 0, none⟩ = some (.int .i64 3) := cell_of_row _ _ 0 _ _ (0, 0) K1'.out
    have t1 : W1.cell? ⟨g + 1, 1, none⟩ = some (.int .i64 (nd : Int)) := cell_of_row _ _ 1 _ _ (0, 0) K1'.out
    have t2 : W1.cell? ⟨g + 1, 2, none⟩ = some (.slice (some ⟨q, off, none⟩) 2 2) := cell_of_row _ _ 2 _ _ (0, 0) K1'.out
    have hS := Lib.hid (keep9 ⟨c0, t1, t2, E0, E1, E2, E3, E4, E5⟩ (bdrewT W1))
    have HBw := Lib.hid (show Below w.heap.size w W1 by rw [HG.out]; exact HB.out)
    go_upto_region 2 with fail
    clear c0 t0 t1 t2 E0 E1 E2 E3 E4 E5
    obtain ⟨n1, hn1⟩ : ∃ n1, 2 ^ ms.length - 1 = n1 := ⟨_, rfl⟩
    have HN1 := Lib.hid hn1
    have hpL : 2 ^ ms.length ≤ 2 ^ 10 := Nat.pow_le_pow_right (by omega) hl
    have hn1l : n1 < 1024 := by omega
    have hO := andNot_nat n1 R hn1l (by omega)
    have hOl := outS_lt ms.length R hl
    obtain ⟨O, hOq⟩ : ∃ O, outS ms.length R = O := ⟨_, rfl⟩
    have HO := Lib.hid hOq
    rw [show n1 ^^^ (n1 &&& R) = O by rw [← hOq, ← hn1]; rfl] at hO
    rw [hOq] at hOl
    clear hn1 hOq hpL
    have HOB := Lib.hid (fun j => outS_bit ms.length R j)
    rw [HO.out] at HOB
    have hO2 := andNot_nat O X hOl hX
    have hQl : O ^^^ (O &&& X) < 1024 := Nat.lt_of_le_of_lt (xor_and_le O X) hOl
    have HHAS := Lib.hid (show hasB ((O ^^^ (O &&& X) : Nat) : Int) (nd : Int) = true by
      rw [hasB_bit hQl hnd10, minus_bitT, HOB.out, decide_eq_true hnd, hRb, hXb]; rfl)
    generalize O ^^^ (O &&& X) = OQ at *
    have hTa := HTA.out
    have hTb := HTB.out
    have hr1 := HR1.out
    have hr2 := HR2.out
    refine wp_region_noPanic ?_
    refine wp_region_held_drew (S := fun W => W.cell? ⟨g, 0, none⟩ = some (.slice A ms.length c) ∧ W.cell? ⟨g + 1, 1, none⟩ = some (.int .i64 (nd : Int)) ∧ W.cell? ⟨g + 1, 2, none⟩ = some (.slice (some ⟨q, off, none⟩) 2 2) ∧ W.cell? ⟨q, off, none⟩ = some (.int .i64 K1) ∧ W.cell? ⟨q, off + 1, none⟩ = some (.int .i64 N1) ∧ W.cell? ⟨q, off + 2, none⟩ = some (.slice A1 m1 c1) ∧ W.cell? ⟨q, off + 3, none⟩ = some (.int .i64 K2) ∧ W.cell? ⟨q, off + 4, none⟩ = some (.int .i64 N2) ∧ W.cell? ⟨q, off + 5, none⟩ = some (.slice A2 m2 c2)) (by kernel_rfl) hS.out (fun hHeld => ?_)
    refine take_d (some 12) (i := 0) (v := ?_) rfl rfl (by kernel_rfl) (by kernel_rfl) (by kernel_rfl) (fun _ _ _ h => h) (Or.inl ⟨by rfl, ?_⟩) (by assumption) ?_
    rotate_left
    · intro w hSw; (try dsimp only at hSw); go_simp; (try with_reducible rfl)
    try simp only [Act.put, List.setIfInBounds_toArray, List.set_cons_zero, List.set_cons_succ]
    refine take_d (some 13) (i := 1) (v := ?_) rfl rfl (by kernel_rfl) (by kernel_rfl) (by kernel_rfl) (fun _ _ _ h => h) (Or.inl ⟨by rfl, ?_⟩) (by assumption) ?_
    rotate_left
    · intro w hSw; (try dsimp only at hSw); go_simp; (try with_reducible rfl)
    try simp only [Act.put, List.setIfInBounds_toArray, List.set_cons_zero, List.set_cons_succ]
    refine take_d (some 14) (i := 2) (v := ?_) rfl rfl (by kernel_rfl) (by kernel_rfl) (by kernel_rfl) (fun _ _ _ h => h) (Or.inl ⟨by rfl, ?_⟩) (by assumption) ?_
    rotate_left
    · intro w hSw; (try dsimp only at hSw); go_simp; (try with_reducible rfl)
    try simp only [Act.put, List.setIfInBounds_toArray, List.set_cons_zero, List.set_cons_succ]
    refine take_d (some 15) (i := 3) (v := ?_) rfl rfl (by kernel_rfl) (by kernel_rfl) (by kernel_rfl) (fun _ _ _ h => h) (Or.inl ⟨by rfl, ?_⟩) (by assumption) ?_
    rotate_left
    · intro w hSw; (try dsimp only at hSw); go_simp; (try with_reducible rfl)
    try simp only [Act.put, List.setIfInBounds_toArray, List.set_cons_zero, List.set_cons_succ]
    refine take_d (some 16) (i := 4) (v := ?_) rfl rfl (by kernel_rfl) (by kernel_rfl) (by kernel_rfl) (fun _ _ _ h => h) (Or.inl ⟨by rfl, ?_⟩) (by assumption) ?_
    rotate_left
    · intro w hSw; (try dsimp only at hSw); go_simp; (try with_reducible rfl)
    try simp only [Act.put, List.setIfInBounds_toArray, List.set_cons_zero, List.set_cons_succ]
    refine take_d (some 17) (i := 5) (v := ?_) rfl rfl (by kernel_rfl) (by kernel_rfl) (by kernel_rfl) (fun _ _ _ h => h) (Or.inl ⟨by rfl, ?_⟩) (by assumption) ?_
    rotate_left
    · intro w hSw; (try dsimp only at hSw); go_simp; (try with_reducible rfl)
    try simp only [Act.put, List.setIfInBounds_toArray, List.set_cons_zero, List.set_cons_succ]
    refine take_d (some 19) (i := 7) (v := ?_) rfl rfl (by kernel_rfl) (by kernel_rfl) (by kernel_rfl) (fun _ _ _ h => h) (Or.inl ⟨by rfl, ?_⟩) (by assumption) ?_
    rotate_left
    · intro w hSw; (try dsimp only at hSw); go_simp; (try with_reducible rfl)
    try simp only [Act.put, List.setIfInBounds_toArray, List.set_cons_zero, List.set_cons_succ]
    refine take_d (some 21) (i := 9) (v := ?_) rfl rfl (by kernel_rfl) (by kernel_rfl) (by kernel_rfl) (fun _ _ _ h => h) (Or.inl ⟨by rfl, ?_⟩) (by assumption) ?_
    rotate_left
    · intro w hSw; (try dsimp only at hSw); go_simp; (try with_reducible rfl)
    try simp only [Act.put, List.setIfInBounds_toArray, List.set_cons_zero, List.set_cons_succ]
    refine take_d (some 23) (i := 11) (v := ?_) rfl rfl (by kernel_rfl) (by kernel_rfl) (by kernel_rfl) (fun _ _ _ h => h) (Or.inl ⟨by rfl, ?_⟩) (by assumption) ?_
    rotate_left
    · intro w hSw; (try dsimp only at hSw); go_simp; (try with_reducible rfl)
    try simp only [Act.put, List.setIfInBounds_toArray, List.set_cons_zero, List.set_cons_succ]
    refine take_d (some 24) (i := 12) (v := ?_) rfl rfl (by kernel_rfl) (by kernel_rfl) (by kernel_rfl) (fun _ _ _ h => h) (Or.inl ⟨by rfl, ?_⟩) (by assumption) ?_
    rotate_left
    · intro w hSw; (try dsimp only at hSw); go_simp; (try with_reducible rfl)
    try simp only [Act.put, List.setIfInBounds_toArray, List.set_cons_zero, List.set_cons_succ]
    refine wpAnyH_ready (rs := [6]) (by kernel_rfl) (by simp) ?_
    refine AllReadyH.cons rfl (fun K hK => ?_) AllReadyH.nil
    go_simp
    refine (members_run A ms.length c hl _).mono ?_; rintro e WK ⟨rfl, hbK⟩; rw [HN1.out]; have hSK := keep9 (by assumption) hbK; have hbd1 := bstep (bdrewT W1) hbK
    go_wp2_with fail
    refine hK.out _ _ ?_ (fun hHeld => ?_)
    · first | exact hSK2 | exact hSK1 | exact hSK
    clear hK K
    try simp only [Act.put, List.setIfInBounds_toArray, List.set_cons_zero, List.set_cons_succ]
    refine take_d (some 20) (i := 8) (v := ?_) rfl rfl (by kernel_rfl) (by kernel_rfl) (by kernel_rfl) (fun _ _ _ h => h) (Or.inl ⟨by rfl, ?_⟩) (by assumption) ?_
    rotate_left
    · intro w hSw; (try dsimp only at hSw); go_simp; (try with_reducible rfl)
    try simp only [Act.put, List.setIfInBounds_toArray, List.set_cons_zero, List.set_cons_succ]
    refine take_d (some 22) (i := 10) (v := ?_) rfl rfl (by kernel_rfl) (by kernel_rfl) (by kernel_rfl) (fun _ _ _ h => h) (Or.inl ⟨by rfl, ?_⟩) (by assumption) ?_
    rotate_left
    · intro w hSw; (try dsimp only at hSw); go_simp; (try with_reducible rfl)
    try simp only [Act.put, List.setIfInBounds_toArray, List.set_cons_zero, List.set_cons_succ]
    refine wpAnyH_ready (rs := [13]) (by kernel_rfl) (by simp) ?_
    refine AllReadyH.cons rfl (fun K hK => ?_) AllReadyH.nil
    go_simp
    refine (has_run _ _ _).mono ?_; rintro e WH ⟨rfl, hWH⟩; subst hWH; rw [HHAS.out]
    go_wp2_with fail
    refine hK.out _ _ ?_ (fun hHeld => ?_)
    · first | exact hSK2 | exact hSK1 | exact hSK
    clear hK K
    try simp only [Act.put, List.setIfInBounds_toArray, List.set_cons_zero, List.set_cons_succ]
    refine take_d (some 26) (i := 14) (v := ?_) rfl rfl (by kernel_rfl) (by kernel_rfl) (by kernel_rfl) (fun _ _ _ h => h) (Or.inl ⟨by rfl, ?_⟩) (by assumption) ?_
    rotate_left
    · intro w hSw; (try dsimp only at hSw); go_simp; (try with_reducible rfl)
    try simp only [Act.put, List.setIfInBounds_toArray, List.set_cons_zero, List.set_cons_succ]
    refine take_d (some 27) (i := 15) (v := ?_) rfl rfl (by kernel_rfl) (by kernel_rfl) (by kernel_rfl) (fun _ _ _ h => h) (Or.inl ⟨by rfl, ?_⟩) (by assumption) ?_
    rotate_left
    · intro w hSw; (try dsimp only at hSw); go_simp; (try with_reducible rfl)
    try simp only [Act.put, List.setIfInBounds_toArray, List.set_cons_zero, List.set_cons_succ]
    refine take_d (some 28) (i := 16) (v := ?_) rfl rfl (by kernel_rfl) (by kernel_rfl) (by kernel_rfl) (fun _ _ _ h => h) (Or.inl ⟨by rfl, ?_⟩) (by assumption) ?_
    rotate_left
    · intro w hSw; (try dsimp only at hSw); go_simp; (try with_reducible rfl)
    try simp only [Act.put, List.setIfInBounds_toArray, List.set_cons_zero, List.set_cons_succ]
    refine take_d (some 29) (i := 17) (v := ?_) rfl rfl (by kernel_rfl) (by kernel_rfl) (by kernel_rfl) (fun _ _ _ h => h) (Or.inl ⟨by rfl, ?_⟩) (by assumption) ?_
    rotate_left
    · intro w hSw; (try dsimp only at hSw); go_simp; (try with_reducible rfl)
    try simp only [Act.put, List.setIfInBounds_toArray, List.set_cons_zero, List.set_cons_succ]
    refine take_d (some 30) (i := 18) (v := ?_) rfl rfl (by kernel_rfl) (by kernel_rfl) (by kernel_rfl) (fun _ _ _ h => h) (Or.inl ⟨by rfl, ?_⟩) (by assumption) ?_
    rotate_left
    · intro w hSw; (try dsimp only at hSw); go_simp; (try with_reducible rfl)
    try simp only [Act.put, List.setIfInBounds_toArray, List.set_cons_zero, List.set_cons_succ]
    refine take_d (some 31) (i := 19) (v := ?_) rfl rfl (by kernel_rfl) (by kernel_rfl) (by kernel_rfl) (fun _ _ _ h => h) (Or.inl ⟨by rfl, ?_⟩) (by assumption) ?_
    rotate_left
    · intro w hSw; (try dsimp only at hSw); go_simp; (try with_reducible rfl)
    try simp only [Act.put, List.setIfInBounds_toArray, List.set_cons_zero, List.set_cons_succ]
    refine take_d (some 32) (i := 20) (v := ?_) rfl rfl (by kernel_rfl) (by kernel_rfl) (by kernel_rfl) (fun _ _ _ h => h) (Or.inl ⟨by rfl, ?_⟩) (by assumption) ?_
    rotate_left
    · intro w hSw; (try dsimp only at hSw); go_simp; (try with_reducible rfl)
    try simp only [Act.put, List.setIfInBounds_toArray, List.set_cons_zero, List.set_cons_succ]
    refine take_d (some 33) (i := 21) (v := ?_) rfl rfl (by kernel_rfl) (by kernel_rfl) (by kernel_rfl) (fun _ _ _ h => h) (Or.inl ⟨by rfl, ?_⟩) (by assumption) ?_
    rotate_left
    · intro w hSw; (try dsimp only at hSw); go_simp; (try with_reducible rfl)
    try simp only [Act.put, List.setIfInBounds_toArray, List.set_cons_zero, List.set_cons_succ]
    refine take_d (some 34) (i := 22) (v := ?_) rfl rfl (by kernel_rfl) (by kernel_rfl) (by kernel_rfl) (fun _ _ _ h => h) (Or.inl ⟨by rfl, ?_⟩) (by assumption) ?_
    rotate_left
    · intro w hSw; (try dsimp only at hSw); go_simp; (try with_reducible rfl)
    try simp only [Act.put, List.setIfInBounds_toArray, List.set_cons_zero, List.set_cons_succ]
    refine take_d (some 35) (i := 23) (v := ?_) rfl rfl (by kernel_rfl) (by kernel_rfl) (by kernel_rfl) (fun _ _ _ h => h) (Or.inl ⟨by rfl, ?_⟩) (by assumption) ?_
    rotate_left
    · intro w hSw; (try dsimp only at hSw); go_simp; (try with_reducible rfl)
    try simp only [Act.put, List.setIfInBounds_toArray, List.set_cons_zero, List.set_cons_succ]
    refine take_d (some 36) (i := 24) (v := ?_) rfl rfl (by kernel_rfl) (by kernel_rfl) (by kernel_rfl) (fun _ _ _ h => h) (Or.inl ⟨by rfl, ?_⟩) (by assumption) ?_
    rotate_left
    · intro w hSw; (try dsimp only at hSw); go_simp; (try with_reducible rfl)
    try simp only [Act.put, List.setIfInBounds_toArray, List.set_cons_zero, List.set_cons_succ]
    refine take_d (some 37) (i := 25) (v := ?_) rfl rfl (by kernel_rfl) (by kernel_rfl) (by kernel_rfl) (fun _ _ _ h => h) (Or.inl ⟨by rfl, ?_⟩) (by assumption) ?_
    rotate_left
    · intro w hSw; (try dsimp only at hSw); go_simp; (try with_reducible rfl)
    try simp only [Act.put, List.setIfInBounds_toArray, List.set_cons_zero, List.set_cons_succ]
    refine take_d (some 38) (i := 26) (v := ?_) rfl rfl (by kernel_rfl) (by kernel_rfl) (by kernel_rfl) (fun _ _ _ h => h) (Or.inl ⟨by rfl, ?_⟩) (by assumption) ?_
    rotate_left
    · intro w hSw; (try dsimp only at hSw); go_simp; (try with_reducible rfl)
    try simp only [Act.put, List.setIfInBounds_toArray, List.set_cons_zero, List.set_cons_succ]
    refine wpAnyH_ready (rs := [27]) (by kernel_rfl) (by simp) ?_
    refine AllReadyH.cons rfl (fun K hK => ?_) AllReadyH.nil
    go_simp
    refine (IHA.out R (X ||| 2 ^ nd) _ hR hX2 (H.out.below hbd1) (hTa.below hbd1) hr1).mono ?_; rintro e WK1 ⟨rfl, hbK1⟩; have hSK1 := keep9 (by assumption) hbK1; have hbd2 := bstep hbd1 hbK1
    go_wp2_with fail
    refine hK.out _ _ ?_ (fun hHeld => ?_)
    · first | exact hSK2 | exact hSK1 | exact hSK
    clear hK K
    try simp only [Act.put, List.setIfInBounds_toArray, List.set_cons_zero, List.set_cons_succ]
    refine take_d (some 40) (i := 28) (v := ?_) rfl rfl (by kernel_rfl) (by kernel_rfl) (by kernel_rfl) (fun _ _ _ h => h) (Or.inl ⟨by rfl, ?_⟩) (by assumption) ?_
    rotate_left
    · intro w hSw; (try dsimp only at hSw); go_simp; (try with_reducible rfl)
    try simp only [Act.put, List.setIfInBounds_toArray, List.set_cons_zero, List.set_cons_succ]
    refine take_d (some 41) (i := 29) (v := ?_) rfl rfl (by kernel_rfl) (by kernel_rfl) (by kernel_rfl) (fun _ _ _ h => h) (Or.inl ⟨by rfl, ?_⟩) (by assumption) ?_
    rotate_left
    · intro w hSw; (try dsimp only at hSw); go_simp; (try with_reducible rfl)
    try simp only [Act.put, List.setIfInBounds_toArray, List.set_cons_zero, List.set_cons_succ]
    refine take_d (some 42) (i := 30) (v := ?_) rfl rfl (by kernel_rfl) (by kernel_rfl) (by kernel_rfl) (fun _ _ _ h => h) (Or.inl ⟨by rfl, ?_⟩) (by assumption) ?_
    rotate_left
    · intro w hSw; (try dsimp only at hSw); go_simp; (try with_reducible rfl)
    try simp only [Act.put, List.setIfInBounds_toArray, List.set_cons_zero, List.set_cons_succ]
    refine take_d (some 43) (i := 31) (v := ?_) rfl rfl (by kernel_rfl) (by kernel_rfl) (by kernel_rfl) (fun _ _ _ h => h) (Or.inl ⟨by rfl, ?_⟩) (by assumption) ?_
    rotate_left
    · intro w hSw; (try dsimp only at hSw); go_simp; (try with_reducible rfl)
    try simp only [Act.put, List.setIfInBounds_toArray, List.set_cons_zero, List.set_cons_succ]
    refine take_d (some 44) (i := 32) (v := ?_) rfl rfl (by kernel_rfl) (by kernel_rfl) (by kernel_rfl) (fun _ _ _ h => h) (Or.inl ⟨by rfl, ?_⟩) (by assumption) ?_
    rotate_left
    · intro w hSw; (try dsimp only at hSw); go_simp; (try with_reducible rfl)
    try simp only [Act.put, List.setIfInBounds_toArray, List.set_cons_zero, List.set_cons_succ]
    refine take_d (some 45) (i := 33) (v := ?_) rfl rfl (by kernel_rfl) (by kernel_rfl) (by kernel_rfl) (fun _ _ _ h => h) (Or.inl ⟨by rfl, ?_⟩) (by assumption) ?_
    rotate_left
    · intro w hSw; (try dsimp only at hSw); go_simp; (try with_reducible rfl)
    try simp only [Act.put, List.setIfInBounds_toArray, List.set_cons_zero, List.set_cons_succ]
    refine take_d (some 46) (i := 34) (v := ?_) rfl rfl (by kernel_rfl) (by kernel_rfl) (by kernel_rfl) (fun _ _ _ h => h) (Or.inl ⟨by rfl, ?_⟩) (by assumption) ?_
    rotate_left
    · intro w hSw; (try dsimp only at hSw); go_simp; (try with_reducible rfl)
    try simp only [Act.put, List.setIfInBounds_toArray, List.set_cons_zero, List.set_cons_succ]
    refine take_d (some 47) (i := 35) (v := ?_) rfl rfl (by kernel_rfl) (by kernel_rfl) (by kernel_rfl) (fun _ _ _ h => h) (Or.inl ⟨by rfl, ?_⟩) (by assumption) ?_
    rotate_left
    · intro w hSw; (try dsimp only at hSw); go_simp; (try with_reducible rfl)
    try simp only [Act.put, List.setIfInBounds_toArray, List.set_cons_zero, List.set_cons_succ]
    refine take_d (some 48) (i := 36) (v := ?_) rfl rfl (by kernel_rfl) (by kernel_rfl) (by kernel_rfl) (fun _ _ _ h => h) (Or.inl ⟨by rfl, ?_⟩) (by assumption) ?_
    rotate_left
    · intro w hSw; (try dsimp only at hSw); go_simp; (try with_reducible rfl)
    try simp only [Act.put, List.setIfInBounds_toArray, List.set_cons_zero, List.set_cons_succ]
    refine take_d (some 49) (i := 37) (v := ?_) rfl rfl (by kernel_rfl) (by kernel_rfl) (by kernel_rfl) (fun _ _ _ h => h) (Or.inl ⟨by rfl, ?_⟩) (by assumption) ?_
    rotate_left
    · intro w hSw; (try dsimp only at hSw); go_simp; (try with_reducible rfl)
    try simp only [Act.put, List.setIfInBounds_toArray, List.set_cons_zero, List.set_cons_succ]
    refine take_d (some 50) (i := 38) (v := ?_) rfl rfl (by kernel_rfl) (by kernel_rfl) (by kernel_rfl) (fun _ _ _ h => h) (Or.inl ⟨by rfl, ?_⟩) (by assumption) ?_
    rotate_left
    · intro w hSw; (try dsimp only at hSw); go_simp; (try with_reducible rfl)
    try simp only [Act.put, List.setIfInBounds_toArray, List.set_cons_zero, List.set_cons_succ]
    refine take_d (some 51) (i := 39) (v := ?_) rfl rfl (by kernel_rfl) (by kernel_rfl) (by kernel_rfl) (fun _ _ _ h => h) (Or.inl ⟨by rfl, ?_⟩) (by assumption) ?_
    rotate_left
    · intro w hSw; (try dsimp only at hSw); go_simp; (try with_reducible rfl)
    try simp only [Act.put, List.setIfInBounds_toArray, List.set_cons_zero, List.set_cons_succ]
    refine take_d (some 52) (i := 40) (v := ?_) rfl rfl (by kernel_rfl) (by kernel_rfl) (by kernel_rfl) (fun _ _ _ h => h) (Or.inl ⟨by rfl, ?_⟩) (by assumption) ?_
    rotate_left
    · intro w hSw; (try dsimp only at hSw); go_simp; (try with_reducible rfl)
    try simp only [Act.put, List.setIfInBounds_toArray, List.set_cons_zero, List.set_cons_succ]
    refine wpAnyH_ready (rs := [41]) (by kernel_rfl) (by simp) ?_
    refine AllReadyH.cons rfl (fun K hK => ?_) AllReadyH.nil
    go_simp
    refine (IHB.out (R ||| 2 ^ nd) X _ hR2 hX (H.out.below hbd2) (hTb.below hbd2) hr2).mono ?_; rintro e WK2 ⟨rfl, hbK2⟩; have hSK2 := keep9 (by assumption) hbK2
    go_wp2_with fail
    refine hK.out _ _ ?_ (fun hHeld => ?_)
    · first | exact hSK2 | exact hSK1 | exact hSK
    clear hK K
    try simp only [Act.put, List.setIfInBounds_toArray, List.set_cons_zero, List.set_cons_succ]
    refine take_d (some 54) (i := 42) (v := ?_) rfl rfl (by kernel_rfl) (by kernel_rfl) (by kernel_rfl) (fun _ _ _ h => h) (Or.inl ⟨by rfl, ?_⟩) (by assumption) ?_
    rotate_left
    · intro w hSw; (try dsimp only at hSw); go_simp; (try with_reducible rfl)
    try simp only [Act.put, List.setIfInBounds_toArray, List.set_cons_zero, List.set_cons_succ]
    refine take_d (some 8) (i := 43) (v := ?_) rfl rfl (by kernel_rfl) (by kernel_rfl) (by kernel_rfl) (fun _ _ _ h => h) (Or.inl ⟨by rfl, ?_⟩) (by assumption) ?_
    rotate_left
    · intro w hSw; (try dsimp only at hSw); go_simp; (try with_reducible rfl)
    try simp only [Act.put, List.setIfInBounds_toArray, List.set_cons_zero, List.set_cons_succ]
    refine wpAnyH_done (by kernel_rfl) ?_ _
    refine NoPanic.normal ?_
    have HZ := Lib.hid (bstep HBw.out (bstep hbd2 hbK2))
    clear hSK hSK1 hSK2 hHeld hS hTa hTb hr1 hr2 hbd1 hbd2 hbK hbK1 hbK2
    go_wp2_with fail
    go_ret
    exact ⟨rfl, HZ.out⟩

theorem size_le2 : ∀ (T : Tr), 1 ≤ sizeTr T
  | .none => Nat.le_refl _
  | .alone => Nat.le_refl _
  | .split _ a b => by show 1 ≤ 1 + sizeTr a + sizeTr b; omega

end Go.Proofs.Ytfghnkgllmofgaa
