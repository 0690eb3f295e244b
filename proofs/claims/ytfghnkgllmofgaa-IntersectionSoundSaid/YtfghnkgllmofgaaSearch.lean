/- The contract of intersection.search. -/
import Derived.Test.YtfghnkgllmofgaaTrace
namespace Go.Proofs.Ytfghnkgllmofgaa
set_option linter.unusedVariables false
set_option linter.unusedSimpArgs false
open Go.RowKit

theorem keepT {W W' : World} {P : Nat → Prop} {d g : Nat} {v : Value} {u : Obj} {ms : List Mem} (h : W.cell? ⟨g, 0, none⟩ = some v ∧ W.heap[g + 1]? = some u ∧ MemsAt P d W v ms) (hb : Below W.heap.size W W') : W'.cell? ⟨g, 0, none⟩ = some v ∧ W'.heap[g + 1]? = some u ∧ MemsAt P d W' v ms := by
  refine ⟨(hb.cell (cell_lt h.1)).trans h.1, (hb.block _ ?_).trans h.2.1, h.2.2.below hb⟩
  rcases Nat.lt_or_ge (g + 1) W.heap.size with h1 | h1
  · exact h1
  · have := h.2.1; rw [Array.getElem?_eq_none h1] at this; cases this

theorem memsT {W : World} {P : Nat → Prop} {d g : Nat} {v : Value} {u : Obj} {ms : List Mem} (h : W.cell? ⟨g, 0, none⟩ = some v ∧ W.heap[g + 1]? = some u ∧ MemsAt P d W v ms) : MemsAt P d W v ms := h.2.2

/-- A search tree in a box. -/
def TOut (W : World) (g : Nat) (k n s : Value) : Prop := W.heap[g]? = some (.cells #[k, n, s] 31 (0, 0))

theorem TOut.cs {W : World} {g : Nat} {k n s : Value} (h : TOut W g k n s) : W.cell? ⟨g, 0, none⟩ = some k ∧ W.cell? ⟨g, 1, none⟩ = some n ∧ W.cell? ⟨g, 2, none⟩ = some s := ⟨cell_of_row _ _ 0 _ _ (0, 0) h, cell_of_row _ _ 1 _ _ (0, 0) h, cell_of_row _ _ 2 _ _ (0, 0) h⟩

theorem TOut.fr {W : World} {g : Nat} {k n s : Value} (h : TOut W g k n s) (o : Nat) : W.frozen? ⟨g, o, none⟩ = false := by
  unfold TOut at h; simp [World.frozen?, h]

theorem TOut.set {W : World} {g : Nat} {k n s : Value} (h : TOut W g k n s) (k' n' s' : Value) : TOut (((W.setCell ⟨g, 0, none⟩ k').setCell ⟨g, 1, none⟩ n').setCell ⟨g, 2, none⟩ s') g k' n' s' := by
  unfold TOut at h ⊢
  simp [World.setCell, Array.getElem?_modify, h]

theorem TOut.far {W : World} {g : Nat} (k' n' s' : Value) (q : Nat) (hq : q ≠ g) : (((W.setCell ⟨g, 0, none⟩ k').setCell ⟨g, 1, none⟩ n').setCell ⟨g, 2, none⟩ s').heap[q]? = W.heap[q]? :=
  (Below.heap_setCell _ _ _ _ (by simpa using hq)).trans ((Below.heap_setCell _ _ _ _ (by simpa using hq)).trans (Below.heap_setCell _ _ _ _ (by simpa using hq)))

theorem TrAt.both {P Q : Nat → Prop} {w w' : World} (hk : ∀ q, q < w.heap.size → P q → w'.heap[q]? = w.heap[q]?) (hq : ∀ q, P q → Q q) : ∀ {T : Tr} {k n s : Value}, TrAt P w T k n s → TrAt Q w' T k n s
  | .none, _, _, _, h => h
  | .alone, _, _, _, h => h
  | .split nd a b, k, n, s, h => by
    obtain ⟨h1, h2, q, off, x0, x1, x2, y0, y1, y2, h3, hP, e0, e1, e2, e3, e4, e5, ha, hb'⟩ := h
    have lw := hk q (cell_lt e0) hP
    exact ⟨h1, h2, q, off, x0, x1, x2, y0, y1, y2, h3, hq q hP, (World.cell?_of_block (a := ⟨q, off, none⟩) lw).trans e0, (World.cell?_of_block (a := ⟨q, off + 1, none⟩) lw).trans e1, (World.cell?_of_block (a := ⟨q, off + 2, none⟩) lw).trans e2, (World.cell?_of_block (a := ⟨q, off + 3, none⟩) lw).trans e3, (World.cell?_of_block (a := ⟨q, off + 4, none⟩) lw).trans e4, (World.cell?_of_block (a := ⟨q, off + 5, none⟩) lw).trans e5, TrAt.both hk hq ha, TrAt.both hk hq hb'⟩

theorem minus_bitT (a b j : Nat) : (a ^^^ (a &&& b)).testBit j = (a.testBit j && !b.testBit j) := by
  rw [Nat.testBit_xor, Nat.testBit_and]
  cases a.testBit j <;> cases b.testBit j <;> rfl

theorem xor_and_le (a b : Nat) : a ^^^ (a &&& b) ≤ a := by
  have e : (a ^^^ (a &&& b)) &&& a = a ^^^ (a &&& b) := by
    apply Nat.eq_of_testBit_eq
    intro j
    rw [Nat.testBit_and, minus_bitT]
    cases a.testBit j <;> cases b.testBit j <;> rfl
  rw [← e]
  exact Nat.and_le_right

theorem or_factT (s K : Nat) (hs : s < 1024) (hK : K < 10) : bits .or .i64 (s : Int) (IntKind.i64.wrap (2 ^ K)) = ((s ||| 2 ^ K : Nat) : Int) := by
  have all : ∀ S : Fin 1024, ∀ K : Fin 10, bits .or .i64 (S.val : Int) (IntKind.i64.wrap (2 ^ K.val)) = ((S.val ||| 2 ^ K.val : Nat) : Int) := by decide +kernel
  exact all ⟨s, hs⟩ ⟨K, hK⟩

theorem bdrewT (W : World) : Below W.heap.size W W.drew := ⟨rfl, rfl, rfl, Nat.le_refl _, fun _ _ => rfl⟩

set_option maxRecDepth 100000 in
set_option maxHeartbeats 2000000 in
theorem pnodes_run (s : Nat) (w : World) (hs : s < 1024) :
    Calls Try.prog 40 #[.int .i64 (s : Int)] w fun e w' => ∃ v, e = .returned v ∧ NodesAt (fun b => w.heap.size ≤ b) w' v (nodL s 10) ∧ Below w.heap.size w w' := by
  obtain ⟨i0, hin, hz0, hz1, hz2⟩ := info_parts infoInt
  go_enter Try.func40, Try.ntmps40
  go_wp2_with fail
  go_loopw [3, 5] (fun v t W => ∃ (k : Nat) (vv : Value), k ≤ 10 ∧ v = vv ∧ t = .int .i64 k ∧ W.ownsRow w.heap.size 3 1 vv (nodL s k).length ((nodL s k).map (Value.int .i64)) ∧ Hid (Below w.heap.size w W)) (fun _ t _ => 10 - (intOf t).toNat)
  case atStart => exact ⟨0, .slice none 0 0, by omega, rfl, rfl, World.ownsRow_nil _ _ _ _, Lib.hid (bref _)⟩
  case round =>
    obtain ⟨k, v, hk, rfl, rfl, hown, hB⟩ := hrel
    have hlen := nodL_len s k
    by_cases hlt : k < 10
    · have hbs := hB.out.size
      have hbit := hasB_bit hs hlt
      cases hb : s.testBit k
      · rw [hb] at hbit
        have hn := Lib.hid (show nodL s (k + 1) = nodL s k by show (if s.testBit k then _ else _) = _; rw [hb]; rfl)
        have HOWN := Lib.hid hown
        go_wp2_with fail
        refine (has_run _ _ _).mono ?_
        rintro e w2 ⟨rfl, rfl⟩
        rw [hbit]
        go_wp2_with fail
        go_roundw
        case rel => exact ⟨k + 1, _, by omega, rfl, by go_num, by rw [hn.out]; exact HOWN.out, hB⟩
        case measure => simp [intOf]; omega
      · rw [hb] at hbit
        have hn := Lib.hid (show nodL s (k + 1) = nodL s k ++ [(k : Int)] by show (if s.testBit k then _ else _) = _; rw [hb]; rfl)
        go_wp2_with fail
        refine (has_run _ _ _).mono ?_
        rintro e w2 ⟨rfl, rfl⟩
        rw [hbit]
        go_wp2_with (at_builtin; refine wpList_append_own _ rfl _ _ 22 rfl w.heap.size 3 i0 (.int .i64 0) 1 8 Try.underlying22 hin hz0 hz1 hz2 rfl (by decide) _ _ _ rfl (hown.alloc _) ⟨wr.heap.size, 0, none⟩ 1 1 [.int .i64 (k : Int)] rfl rfl (cell_one_new _ _ _) (fun u hu => by simp at hu; subst hu; rfl) (by unfold maxLen; omega) (by omega) (by simp; omega) ?_; intro v' w1 hown' hgrow hnil)
        have HO := Lib.hid (own_snoc hown')
        have HB4 := Lib.hid (Below.grown (balloc hB.out (.cells #[.int .i64 (k : Int)] 3)) hgrow (by simp; omega) (fun j hj => (hown.lt j hj).1))
        clear hown' hgrow hnil hown
        go_roundw
        case rel => exact ⟨k + 1, _, by omega, rfl, by go_num, by rw [hn.out]; simpa using HO.out, HB4⟩
        case measure => simp [intOf]; omega
    · obtain rfl : k = 10 := by omega
      have HN := Lib.hid (NodesAt.of_own hown)
      obtain ⟨Av, cv, hv⟩ := own_slice hown
      subst hv
      clear hown
      go_wp2_with fail
      go_ret
      exact ⟨_, rfl, HN.out, hB.out⟩

theorem bit_lt {s k n : Nat} (h : s.testBit k = true) (hs : s < 2 ^ n) : k < n := by
  rcases Nat.lt_or_ge k n with h1 | h1
  · exact h1
  · rw [Nat.testBit_lt_two_pow (Nat.lt_of_lt_of_le hs (Nat.pow_le_pow_right (by omega) h1))] at h; cases h

set_option maxRecDepth 100000 in
set_option maxHeartbeats 8000000 in
theorem search_run (P : Nat → Prop) (d : Nat) (ms : List Mem) (v : Value) (hl : ms.length ≤ 10) (hno : ∀ t, t < 2 ^ ms.length → ¬ Apart d ms t) : ∀ (m : Nat) (w : World) (R X : Nat), R < 1024 → X < 1024 → und ms.length R X < m → MemsAt P d w v ms →
    Calls Try.prog 20 #[.agg #[v], .int .i64 (R : Int), .int .i64 (X : Int)] w fun e w' => ∃ (x0 x1 x2 : Value) (T : Tr), e = .returned (.agg #[x0, x1, x2]) ∧ TrAt (fun b => w.heap.size ≤ b) w' T x0 x1 x2 ∧ RightT d ms T R X ∧ Below w.heap.size w w' := by
  intro m
  induction m with
  | zero => intro w R X _ _ h; omega
  | succ m ih =>
    intro w R X hR hX hu h
    obtain ⟨A, c, rfl⟩ := h.slice
    have hb1 : Below w.heap.size w ((w.alloc (.cells #[.slice A ms.length c] 27)).alloc (.cells #[.int .i64 0, .int .i64 0, .slice none 0 0] 31)) := balloc (balloc (bref w) _) _
    have k0 : ((w.alloc (.cells #[.slice A ms.length c] 27)).alloc (.cells #[.int .i64 0, .int .i64 0, .slice none 0 0] 31)).heap[w.heap.size]? = some (.cells #[.slice A ms.length c] 27 (0, 0)) := alloc_on (alloc_at rfl)
    have k1 : ((w.alloc (.cells #[.slice A ms.length c] 27)).alloc (.cells #[.int .i64 0, .int .i64 0, .slice none 0 0] 31)).heap[w.heap.size + 1]? = some (.cells #[.int .i64 0, .int .i64 0, .slice none 0 0] 31 (0, 0)) := alloc_at (alloc_sz _ _)
    have H := Lib.hid (h.below hb1)
    have HB := Lib.hid hb1
    have K0 := Lib.hid k0
    have K1 := Lib.hid k1
    have IH := Lib.hid ih
    have HNO := Lib.hid hno
    clear h hb1 k0 k1 ih
    go_enter Try.func20, Try.ntmps20
    go_upto_region 1 with fail
    generalize ((w.alloc (.cells #[.slice A ms.length c] 27)).alloc (.cells #[.int .i64 0, .int .i64 0, .slice none 0 0] 31)) = W1 at *
    generalize hg : w.heap.size = g at *
    have HG := Lib.hid hg
    clear hg
    have c0 : W1.cell? ⟨g, 0, none⟩ = some (.slice A ms.length c) := cell_of_row _ _ 0 _ _ (0, 0) K0.out
    have hgl := cell_lt c0
    have HBw := Lib.hid (show Below w.heap.size w W1 by rw [HG.out]; exact HB.out)
    go_wp2_with fail
    refine (none_run _ d ms _ R X _ hl hR hX H.out).mono ?_
    rintro e W2 ⟨G, rfl, hGl, hgr, hb2⟩
    have HGR := Lib.hid hgr
    have HB2 := Lib.hid (bstep HBw.out hb2)
    have hK2 := keepT ⟨c0, K1.out, H.out⟩ hb2
    have HK2 := Lib.hid hK2
    clear hgr hb2 c0 hK2
    cases hnb : noneB R G
    · have HNB := Lib.hid (show ¬ (G = 0 ∨ ¬ Sub R G) from fun h => by rw [noneB_iff.2 h] at hnb; cases hnb)
      clear hnb
      have c2 := HK2.out.1
      go_wp2_with fail
      refine (alone_run _ d ms _ R _ hl hR (memsT HK2.out)).mono ?_
      rintro e W3 ⟨GA, rfl, hGAl, hgrA, hb3⟩
      have HGA := Lib.hid hgrA
      have HB3 := Lib.hid (bstep HB2.out hb3)
      have HK3 := Lib.hid (keepT HK2.out hb3)
      clear hgrA hb3 c2
      by_cases hga : GA = 0
      · have HRT := Lib.hid (show RightT d ms .alone R X from fun H hH => by rw [av_uniq hH ⟨HGA.out, hGAl⟩]; exact hga)
        have hz : (GA == 0) = true := by simpa using hga
        rw [hz]
        clear hga hz
        have zo : TOut W3 (g + 1) (.int .i64 0) (.int .i64 0) (.slice none 0 0) := HK3.out.2.1
        obtain ⟨z0, z1, z2⟩ := zo.cs
        have f0 := zo.fr 0
        have f1 := zo.fr 1
        have f2 := zo.fr 2
        have hq := (zo.set (.int .i64 2) (.int .i64 0) (.slice none 0 0)).cs
        have HQ := Lib.hid hq
        have HZ := Lib.hid (bset (bset (bset HB3.out (p := ⟨g + 1, 0, none⟩) (by rw [HG.out]; show g ≤ g + 1; omega) (.int .i64 2)) (p := ⟨g + 1, 1, none⟩) (by rw [HG.out]; show g ≤ g + 1; omega) (.int .i64 0)) (p := ⟨g + 1, 2, none⟩) (by rw [HG.out]; show g ≤ g + 1; omega) (.slice none 0 0))
        clear hq zo
        go_wp2_with fail
        obtain ⟨q0, q1, q2⟩ := HQ.out
        refine bodyPost_ret (v := .agg #[.int .i64 2, .int .i64 0, .slice none 0 0]) ?_ rfl ⟨_, _, _, .alone, rfl, ⟨rfl, rfl, rfl⟩, HRT.out, HZ.out⟩
        simp [results, Try.results20, go_sem, q0, q1, q2]
      · have HNA := Lib.hid (show ¬ AloneP d ms R from fun h => hga (h GA ⟨HGA.out, hGAl⟩))
        have hz : (GA == 0) = false := by simpa using hga
        rw [hz]
        clear hga hz
        go_upto_region 5 with fail
        obtain ⟨n1, hn1⟩ : ∃ n1, 2 ^ ms.length - 1 = n1 := ⟨_, rfl⟩
        have HN1 := Lib.hid hn1
        have hpL : 2 ^ ms.length ≤ 2 ^ 10 := Nat.pow_le_pow_right (by omega) hl
        have hn1l : n1 < 1024 := by omega
        have hO := andNot_nat n1 X hn1l (by omega)
        have hOl := outS_lt ms.length X hl
        obtain ⟨O, hOq⟩ : ∃ O, outS ms.length X = O := ⟨_, rfl⟩
        have HO := Lib.hid hOq
        rw [show n1 ^^^ (n1 &&& X) = O by rw [← hOq, ← hn1]; rfl] at hO
        rw [hOq] at hOl
        clear hn1 hOq hpL
        have hS := Lib.hid (keepT HK3.out (bdrewT W3))
        refine wp_region_noPanic ?_
        refine wp_region_held_drew (S := fun W => W.cell? ⟨g, 0, none⟩ = some (.slice A ms.length c) ∧ W.heap[g + 1]? = some (.cells #[.int .i64 0, .int .i64 0, .slice none 0 0] 31 (0, 0)) ∧ MemsAt P d W (.slice A ms.length c) ms) (by kernel_rfl) hS.out (fun hHeld => ?_)
        refine take_d (some 18) (i := 0) (v := ?_) rfl rfl (by kernel_rfl) (by kernel_rfl) (by kernel_rfl) (fun _ _ _ h => h) (Or.inl ⟨by rfl, ?_⟩) (by assumption) ?_
        rotate_left
        · intro w hSw; (try dsimp only at hSw); go_simp; (try with_reducible rfl)
        try simp only [Act.put, List.setIfInBounds_toArray, List.set_cons_zero, List.set_cons_succ]
        refine take_d (some 19) (i := 1) (v := ?_) rfl rfl (by kernel_rfl) (by kernel_rfl) (by kernel_rfl) (fun _ _ _ h => h) (Or.inl ⟨by rfl, ?_⟩) (by assumption) ?_
        rotate_left
        · intro w hSw; (try dsimp only at hSw); go_simp; (try with_reducible rfl)
        try simp only [Act.put, List.setIfInBounds_toArray, List.set_cons_zero, List.set_cons_succ]
        refine take_d (some 21) (i := 3) (v := ?_) rfl rfl (by kernel_rfl) (by kernel_rfl) (by kernel_rfl) (fun _ _ _ h => h) (Or.inl ⟨by rfl, ?_⟩) (by assumption) ?_
        rotate_left
        · intro w hSw; (try dsimp only at hSw); go_simp; (try with_reducible rfl)
        try simp only [Act.put, List.setIfInBounds_toArray, List.set_cons_zero, List.set_cons_succ]
        refine take_d (some 24) (i := 6) (v := ?_) rfl rfl (by kernel_rfl) (by kernel_rfl) (by kernel_rfl) (fun _ _ _ h => h) (Or.inl ⟨by rfl, ?_⟩) (by assumption) ?_
        rotate_left
        · intro w hSw; (try dsimp only at hSw); go_simp; (try with_reducible rfl)
        try simp only [Act.put, List.setIfInBounds_toArray, List.set_cons_zero, List.set_cons_succ]
        refine wpAnyH_ready (rs := [2]) (by kernel_rfl) (by simp) ?_
        refine AllReadyH.cons rfl (fun K hK => ?_) AllReadyH.nil
        go_simp
        refine (members_run A ms.length c hl _).mono ?_; rintro e WK ⟨rfl, hbK⟩; rw [HN1.out]; have hSK := keepT (by assumption) hbK
        go_wp2_with fail
        refine hK.out _ _ ?_ (fun hHeld => ?_)
        · exact hSK
        clear hK K
        try simp only [Act.put, List.setIfInBounds_toArray, List.set_cons_zero, List.set_cons_succ]
        refine take_d (some 22) (i := 4) (v := ?_) rfl rfl (by kernel_rfl) (by kernel_rfl) (by kernel_rfl) (fun _ _ _ h => h) (Or.inl ⟨by rfl, ?_⟩) (by assumption) ?_
        rotate_left
        · intro w hSw; (try dsimp only at hSw); go_simp; (try with_reducible rfl)
        try simp only [Act.put, List.setIfInBounds_toArray, List.set_cons_zero, List.set_cons_succ]
        refine wpAnyH_ready (rs := [5]) (by kernel_rfl) (by simp) ?_
        refine AllReadyH.cons rfl (fun K hK => ?_) AllReadyH.nil
        go_simp
        refine (greatest_run _ d ms _ O _ hl hOl (memsT (by assumption))).mono ?_; rintro e WK2 ⟨G', rfl, hGl', hgr', hbK2⟩; have hSK := keepT (by assumption) hbK2; rw [HO.out.symm] at hgr'; obtain rfl : G' = G := gr_uniq hGl' hGl hgr' HGR.out; have hand2 := andNot_nat G' R hGl hR
        go_wp2_with fail
        refine hK.out _ _ ?_ (fun hHeld => ?_)
        · exact hSK
        clear hK K
        try simp only [Act.put, List.setIfInBounds_toArray, List.set_cons_zero, List.set_cons_succ]
        refine take_d (some 25) (i := 7) (v := ?_) rfl rfl (by kernel_rfl) (by kernel_rfl) (by kernel_rfl) (fun _ _ _ h => h) (Or.inl ⟨by rfl, ?_⟩) (by assumption) ?_
        rotate_left
        · intro w hSw; (try dsimp only at hSw); go_simp; (try with_reducible rfl)
        try simp only [Act.put, List.setIfInBounds_toArray, List.set_cons_zero, List.set_cons_succ]
        refine take_d (some 7) (i := 8) (v := ?_) rfl rfl (by kernel_rfl) (by kernel_rfl) (by kernel_rfl) (fun _ _ _ h => h) (Or.inl ⟨by rfl, ?_⟩) (by assumption) ?_
        rotate_left
        · intro w hSw; (try dsimp only at hSw); go_simp; (try with_reducible rfl)
        try simp only [Act.put, List.setIfInBounds_toArray, List.set_cons_zero, List.set_cons_succ]
        refine wpAnyH_done (by kernel_rfl) ?_ _
        refine NoPanic.normal ?_
        have HB5 := Lib.hid (bstep HB3.out (bstep (bstep (bdrewT W3) hbK) hbK2))
        have HK5 := Lib.hid hSK
        have HOPB := Lib.hid (fun j => minus_bitT G' R j)
        have hopl : G' ^^^ (G' &&& R) < 1024 := Nat.lt_of_le_of_lt (xor_and_le G' R) hGl
        clear hSK hHeld hgr' hS hO hbK hbK2
        generalize hop : G' ^^^ (G' &&& R) = Op at *
        clear hop
        go_wp2_with fail
        refine (pnodes_run Op _ hopl).mono ?_
        rintro e W6 ⟨nv, rfl, hN, hb6⟩
        have HB6 := Lib.hid (bstep HB5.out hb6)
        have HK6 := Lib.hid (keepT HK5.out hb6)
        obtain ⟨kk, hk1, hk2⟩ := split_node hl HNO.out ⟨HGR.out, hGl⟩ HNB.out HNA.out
        have hkk10 : kk < 10 := bit_lt (n := 10) hk1 (by omega)
        have hmem : (kk : Int) ∈ nodL Op 10 := (nodL_mem Op 10 _).2 ⟨kk, rfl, hkk10, by rw [HOPB.out, hk1, hk2]; rfl⟩
        obtain ⟨nl, hnq⟩ : ∃ nl, nodL Op 10 = nl := ⟨_, rfl⟩
        have HNL := Lib.hid hnq
        rw [hnq] at hN hmem
        have hpos : 0 < nl.length := List.length_pos_of_mem hmem
        obtain ⟨An, cn, rfl, hNc⟩ := hN
        obtain ⟨b, off, rfl, _, hc⟩ := hNc 0 hpos
        have hx0 : nl[0]? = some (nl.getD 0 0) := by rw [List.getD_eq_getElem?_getD, List.getElem?_eq_getElem hpos]; rfl
        obtain ⟨k, hk, hk10, hbit⟩ := (nodL_mem Op 10 (nl.getD 0 0)).1 (by rw [HNL.out]; exact List.mem_of_getElem? hx0)
        rw [hk, Nat.add_zero] at hc
        rw [HOPB.out, Bool.and_eq_true, Bool.not_eq_true'] at hbit
        have hGk := sub_and.1 HGR.out.sub
        have hout := hGk.1 k hbit.1
        rw [outS_bit, Bool.and_eq_true, decide_eq_true_eq, Bool.not_eq_true'] at hout
        have HSPL := Lib.hid (And.intro hout.1 (And.intro hbit.2 hout.2))
        have hu1 : und ms.length R (X ||| 2 ^ k) < m := by have := und_X hout.1 hbit.2 hout.2; omega
        have hu2 : und ms.length (R ||| 2 ^ k) X < m := by have := und_R hout.1 hbit.2 hout.2; omega
        have hp10 : 2 ^ k < 2 ^ 10 := Nat.pow_lt_pow_right (by omega) hk10
        have hX2 : X ||| 2 ^ k < 1024 := Nat.or_lt_two_pow (n := 10) hX hp10
        have hR2 : R ||| 2 ^ k < 1024 := Nat.or_lt_two_pow (n := 10) hR hp10
        have hoX := or_factT X k hX hk10
        have hoR := or_factT R k hR hk10
        have hk0 : (0 : Int) ≤ (k : Int) := by omega
        have hk64 : ¬ (64 : Int) ≤ (k : Int) := by omega
        have hposI : (0 : Int) < (nl.length : Int) := by omega
        clear hNc hmem hx0 hk hbit hGk hout hb6 hnq hk1 hk2
        go_upto_region 7 with fail
        clear hc
        have hS := Lib.hid (keepT HK6.out (bdrewT W6)).1
        refine wp_region_noPanic ?_
        refine wp_region_held_drew (S := fun W => W.cell? ⟨g, 0, none⟩ = some (.slice A ms.length c)) (by kernel_rfl) hS.out (fun hHeld => ?_)
        refine take_d (some 30) (i := 0) (v := ?_) rfl rfl (by kernel_rfl) (by kernel_rfl) (by kernel_rfl) (fun _ _ _ h => h) (Or.inl ⟨by rfl, ?_⟩) (by assumption) ?_
        rotate_left
        · intro w hSw; (try dsimp only at hSw); go_simp; (try with_reducible rfl)
        try simp only [Act.put, List.setIfInBounds_toArray, List.set_cons_zero, List.set_cons_succ]
        refine take_d (some 31) (i := 1) (v := ?_) rfl rfl (by kernel_rfl) (by kernel_rfl) (by kernel_rfl) (fun _ _ _ h => h) (Or.inl ⟨by rfl, ?_⟩) (by assumption) ?_
        rotate_left
        · intro w hSw; (try dsimp only at hSw); go_simp; (try with_reducible rfl)
        try simp only [Act.put, List.setIfInBounds_toArray, List.set_cons_zero, List.set_cons_succ]
        refine take_d (some 32) (i := 2) (v := ?_) rfl rfl (by kernel_rfl) (by kernel_rfl) (by kernel_rfl) (fun _ _ _ h => h) (Or.inl ⟨by rfl, ?_⟩) (by assumption) ?_
        rotate_left
        · intro w hSw; (try dsimp only at hSw); go_simp; (try with_reducible rfl)
        try simp only [Act.put, List.setIfInBounds_toArray, List.set_cons_zero, List.set_cons_succ]
        refine take_d (some 33) (i := 3) (v := ?_) rfl rfl (by kernel_rfl) (by kernel_rfl) (by kernel_rfl) (fun _ _ _ h => h) (Or.inl ⟨by rfl, ?_⟩) (by assumption) ?_
        rotate_left
        · intro w hSw; (try dsimp only at hSw); go_simp; (try with_reducible rfl)
        try simp only [Act.put, List.setIfInBounds_toArray, List.set_cons_zero, List.set_cons_succ]
        refine take_d (some 34) (i := 4) (v := ?_) rfl rfl (by kernel_rfl) (by kernel_rfl) (by kernel_rfl) (fun _ _ _ h => h) (Or.inl ⟨by rfl, ?_⟩) (by assumption) ?_
        rotate_left
        · intro w hSw; (try dsimp only at hSw); go_simp; (try with_reducible rfl)
        try simp only [Act.put, List.setIfInBounds_toArray, List.set_cons_zero, List.set_cons_succ]
        refine take_d (some 35) (i := 5) (v := ?_) rfl rfl (by kernel_rfl) (by kernel_rfl) (by kernel_rfl) (fun _ _ _ h => h) (Or.inl ⟨by rfl, ?_⟩) (by assumption) ?_
        rotate_left
        · intro w hSw; (try dsimp only at hSw); go_simp; (try with_reducible rfl)
        try simp only [Act.put, List.setIfInBounds_toArray, List.set_cons_zero, List.set_cons_succ]
        refine take_d (some 36) (i := 6) (v := ?_) rfl rfl (by kernel_rfl) (by kernel_rfl) (by kernel_rfl) (fun _ _ _ h => h) (Or.inl ⟨by rfl, ?_⟩) (by assumption) ?_
        rotate_left
        · intro w hSw; (try dsimp only at hSw); go_simp; (try with_reducible rfl)
        try simp only [Act.put, List.setIfInBounds_toArray, List.set_cons_zero, List.set_cons_succ]
        refine take_d (some 38) (i := 8) (v := ?_) rfl rfl (by kernel_rfl) (by kernel_rfl) (by kernel_rfl) (fun _ _ _ h => h) (Or.inl ⟨by rfl, ?_⟩) (by assumption) ?_
        rotate_left
        · intro w hSw; (try dsimp only at hSw); go_simp; (try with_reducible rfl)
        try simp only [Act.put, List.setIfInBounds_toArray, List.set_cons_zero, List.set_cons_succ]
        refine take_d (some 39) (i := 9) (v := ?_) rfl rfl (by kernel_rfl) (by kernel_rfl) (by kernel_rfl) (fun _ _ _ h => h) (Or.inl ⟨by rfl, ?_⟩) (by assumption) ?_
        rotate_left
        · intro w hSw; (try dsimp only at hSw); go_simp; (try with_reducible rfl)
        try simp only [Act.put, List.setIfInBounds_toArray, List.set_cons_zero, List.set_cons_succ]
        refine take_d (some 40) (i := 10) (v := ?_) rfl rfl (by kernel_rfl) (by kernel_rfl) (by kernel_rfl) (fun _ _ _ h => h) (Or.inl ⟨by rfl, ?_⟩) (by assumption) ?_
        rotate_left
        · intro w hSw; (try dsimp only at hSw); go_simp; (try with_reducible rfl)
        try simp only [Act.put, List.setIfInBounds_toArray, List.set_cons_zero, List.set_cons_succ]
        refine take_d (some 41) (i := 11) (v := ?_) rfl rfl (by kernel_rfl) (by kernel_rfl) (by kernel_rfl) (fun _ _ _ h => h) (Or.inl ⟨by rfl, ?_⟩) (by assumption) ?_
        rotate_left
        · intro w hSw; (try dsimp only at hSw); go_simp; (try with_reducible rfl)
        try simp only [Act.put, List.setIfInBounds_toArray, List.set_cons_zero, List.set_cons_succ]
        refine take_d (some 42) (i := 12) (v := ?_) rfl rfl (by kernel_rfl) (by kernel_rfl) (by kernel_rfl) (fun _ _ _ h => h) (Or.inl ⟨by rfl, ?_⟩) (by assumption) ?_
        rotate_left
        · intro w hSw; (try dsimp only at hSw); go_simp; (try with_reducible rfl)
        try simp only [Act.put, List.setIfInBounds_toArray, List.set_cons_zero, List.set_cons_succ]
        refine take_d (some 43) (i := 13) (v := ?_) rfl rfl (by kernel_rfl) (by kernel_rfl) (by kernel_rfl) (fun _ _ _ h => h) (Or.inl ⟨by rfl, ?_⟩) (by assumption) ?_
        rotate_left
        · intro w hSw; (try dsimp only at hSw); go_simp; (try with_reducible rfl)
        try simp only [Act.put, List.setIfInBounds_toArray, List.set_cons_zero, List.set_cons_succ]
        refine wpAnyH_ready (rs := [7]) (by kernel_rfl) (by simp) ?_
        refine AllReadyH.cons rfl (fun K hK => ?_) AllReadyH.nil
        go_simp
        refine (IH.out _ R (X ||| 2 ^ k) hR hX2 hu1 (memsT (keepT HK6.out (bdrewT W6)))).mono ?_; rintro e WK ⟨x0, x1, x2, T1, rfl, hT1, hR1, hbK⟩; obtain ⟨K1, N1, A1, m1, c1, rfl, rfl, rfl⟩ := hT1.form; have hSK := (hbK.cell (cell_lt hS.out)).trans hS.out; have hK7 := keepT (keepT HK6.out (bdrewT W6)) hbK
        go_wp2_with fail
        refine hK.out _ _ ?_ (fun hHeld => ?_)
        · first | exact hSK2 | exact hSK
        clear hK K
        try simp only [Act.put, List.setIfInBounds_toArray, List.set_cons_zero, List.set_cons_succ]
        refine wpAnyH_ready (rs := [14]) (by kernel_rfl) (by simp) ?_
        refine AllReadyH.cons rfl (fun K hK => ?_) AllReadyH.nil
        go_simp
        refine (IH.out _ (R ||| 2 ^ k) X hR2 hX hu2 (memsT hK7)).mono ?_; rintro e WK2 ⟨y0, y1, y2, T2, rfl, hT2, hR2', hbK2⟩; obtain ⟨K2, N2, A2, m2, c2, rfl, rfl, rfl⟩ := hT2.form; have hSK2 := (hbK2.cell (cell_lt hSK)).trans hSK; have hK8 := keepT hK7 hbK2
        go_wp2_with fail
        refine hK.out _ _ ?_ (fun hHeld => ?_)
        · first | exact hSK2 | exact hSK
        clear hK K
        try simp only [Act.put, List.setIfInBounds_toArray, List.set_cons_zero, List.set_cons_succ]
        refine wpAnyH_ready (rs := [15]) (by kernel_rfl) (by simp) ?_
        refine AllReadyH.cons rfl (fun K hK => ?_) AllReadyH.nil
        go_simp
        refine hK.out _ _ ((World.cell?_alloc_lt _ _ _ (cell_lt hSK2)).trans hSK2) (fun hHeld => ?_)
        clear hK K
        try simp only [Act.put, List.setIfInBounds_toArray, List.set_cons_zero, List.set_cons_succ]
        have zo : TOut (WK2.alloc (.cells #[.int .i64 K1, .int .i64 N1, .slice A1 m1 c1, .int .i64 K2, .int .i64 N2, .slice A2 m2 c2] 31)) (g + 1) (.int .i64 0) (.int .i64 0) (.slice none 0 0) := alloc_on hK8.2.1
        obtain ⟨z0, z1, z2⟩ := zo.cs
        have f0 := zo.fr 0
        have f1 := zo.fr 1
        have f2 := zo.fr 2
        have HSET := Lib.hid (zo.set (.int .i64 3) (.int .i64 (k : Int)) (.slice (some ⟨WK2.heap.size, 0, none⟩) 2 2))
        have hS9 : ((((WK2.alloc (.cells #[.int .i64 K1, .int .i64 N1, .slice A1 m1 c1, .int .i64 K2, .int .i64 N2, .slice A2 m2 c2] 31)).setCell ⟨g + 1, 0, none⟩ (.int .i64 3)).setCell ⟨g + 1, 1, none⟩ (.int .i64 (k : Int))).setCell ⟨g + 1, 2, none⟩ (.slice (some ⟨WK2.heap.size, 0, none⟩) 2 2)).cell? ⟨g, 0, none⟩ = some (.slice A ms.length c) :=
          (World.cell?_of_block (a := ⟨g, 0, none⟩) (TOut.far _ _ _ g (by omega))).trans ((World.cell?_alloc_lt _ _ _ (cell_lt hSK2)).trans hSK2)
        have HZO := Lib.hid zo
        clear zo
        refine take_d (some 46) (i := 16) (v := ?_) rfl rfl (by kernel_rfl) (by kernel_rfl) (by kernel_rfl) (fun _ _ _ h => h) (Or.inl ⟨by rfl, ?_⟩) (by assumption) ?_
        rotate_left
        · intro w hSw; (try dsimp only at hSw); go_simp; (try with_reducible rfl)
        try simp only [Act.put, List.setIfInBounds_toArray, List.set_cons_zero, List.set_cons_succ]
        refine wpAnyH_ready (rs := [17]) (by kernel_rfl) (by simp) ?_
        refine AllReadyH.cons rfl (fun K hK => ?_) AllReadyH.nil
        go_simp
        refine hK.out _ _ hS9 (fun hHeld => ?_)
        clear hK K
        try simp only [Act.put, List.setIfInBounds_toArray, List.set_cons_zero, List.set_cons_succ]
        refine wpAnyH_done (by kernel_rfl) ?_ _
        refine NoPanic.normal ?_
        have hnew : (WK2.alloc (.cells #[.int .i64 K1, .int .i64 N1, .slice A1 m1 c1, .int .i64 K2, .int .i64 N2, .slice A2 m2 c2] 31)).heap[WK2.heap.size]? = some (.cells #[.int .i64 K1, .int .i64 N1, .slice A1 m1 c1, .int .i64 K2, .int .i64 N2, .slice A2 m2 c2] 31 (0, 0)) := heap_alloc_new _ _
        have hz1 := hbK.size
        have hz2 := hbK2.size
        have hz6 := HB6.out.size
        have hzT : w.heap.size + 2 ≤ W6.heap.size := by
          have h1 := HZO.out
          have h2 := HK6.out.2.1
          rcases Nat.lt_or_ge (g + 1) W6.heap.size with h3 | h3
          · have := HG.out; omega
          · rw [Array.getElem?_eq_none h3] at h2; cases h2
        have hzd : W6.drew.heap.size = W6.heap.size := rfl
        have far9 : ∀ q, q ≠ g + 1 → ((((WK2.alloc (.cells #[.int .i64 K1, .int .i64 N1, .slice A1 m1 c1, .int .i64 K2, .int .i64 N2, .slice A2 m2 c2] 31)).setCell ⟨g + 1, 0, none⟩ (.int .i64 3)).setCell ⟨g + 1, 1, none⟩ (.int .i64 (k : Int))).setCell ⟨g + 1, 2, none⟩ (.slice (some ⟨WK2.heap.size, 0, none⟩) 2 2)).heap[q]? = (WK2.alloc (.cells #[.int .i64 K1, .int .i64 N1, .slice A1 m1 c1, .int .i64 K2, .int .i64 N2, .slice A2 m2 c2] 31)).heap[q]? := fun q hq => TOut.far _ _ _ q hq
        have hTT : TrAt (fun b => w.heap.size ≤ b) ((((WK2.alloc (.cells #[.int .i64 K1, .int .i64 N1, .slice A1 m1 c1, .int .i64 K2, .int .i64 N2, .slice A2 m2 c2] 31)).setCell ⟨g + 1, 0, none⟩ (.int .i64 3)).setCell ⟨g + 1, 1, none⟩ (.int .i64 (k : Int))).setCell ⟨g + 1, 2, none⟩ (.slice (some ⟨WK2.heap.size, 0, none⟩) 2 2)) (.split k T1 T2) (.int .i64 3) (.int .i64 (k : Int)) (.slice (some ⟨WK2.heap.size, 0, none⟩) 2 2) := by
          have hgw := HG.out
          have lw := far9 WK2.heap.size (by omega)
          refine ⟨rfl, rfl, WK2.heap.size, 0, _, _, _, _, _, _, rfl, by omega, (World.cell?_of_block (a := ⟨WK2.heap.size, 0, none⟩) lw).trans (cell_of_row _ _ 0 _ _ (0, 0) hnew), (World.cell?_of_block (a := ⟨WK2.heap.size, 1, none⟩) lw).trans (cell_of_row _ _ 1 _ _ (0, 0) hnew), (World.cell?_of_block (a := ⟨WK2.heap.size, 2, none⟩) lw).trans (cell_of_row _ _ 2 _ _ (0, 0) hnew), (World.cell?_of_block (a := ⟨WK2.heap.size, 3, none⟩) lw).trans (cell_of_row _ _ 3 _ _ (0, 0) hnew), (World.cell?_of_block (a := ⟨WK2.heap.size, 4, none⟩) lw).trans (cell_of_row _ _ 4 _ _ (0, 0) hnew), (World.cell?_of_block (a := ⟨WK2.heap.size, 5, none⟩) lw).trans (cell_of_row _ _ 5 _ _ (0, 0) hnew), ?_, ?_⟩
          · exact TrAt.both (fun q hq hP => (far9 q (by omega)).trans (Below.heap_alloc _ _ _ hq)) (fun q hP => by omega) (hT1.below hbK2)
          · exact TrAt.both (fun q hq hP => (far9 q (by omega)).trans (Below.heap_alloc _ _ _ hq)) (fun q hP => by omega) hT2
        have HTT := Lib.hid hTT
        have HRT := Lib.hid (show RightT d ms (.split k T1 T2) R X from ⟨HSPL.out.1, HSPL.out.2.1, HSPL.out.2.2, hR1, hR2'⟩)
        have HZ := Lib.hid (bset (bset (bset (balloc (bstep (bstep (bstep HB6.out (bdrewT W6)) hbK) hbK2) (.cells #[.int .i64 K1, .int .i64 N1, .slice A1 m1 c1, .int .i64 K2, .int .i64 N2, .slice A2 m2 c2] 31)) (p := ⟨g + 1, 0, none⟩) (by rw [HG.out]; show g ≤ g + 1; omega) (.int .i64 3)) (p := ⟨g + 1, 1, none⟩) (by rw [HG.out]; show g ≤ g + 1; omega) (.int .i64 (k : Int))) (p := ⟨g + 1, 2, none⟩) (by rw [HG.out]; show g ≤ g + 1; omega) (.slice (some ⟨WK2.heap.size, 0, none⟩) 2 2))
        clear hTT far9 hnew hT1 hT2 hbK hbK2 hSK hSK2 hK7 hK8 z0 z1 z2 f0 f1 f2 hS9 hHeld hS
        go_wp2_with fail
        obtain ⟨q0, q1, q2⟩ := HSET.out.cs
        refine bodyPost_ret (v := .agg #[.int .i64 3, .int .i64 (k : Int), .slice (some ⟨WK2.heap.size, 0, none⟩) 2 2]) ?_ rfl ⟨_, _, _, .split k T1 T2, rfl, HTT.out, HRT.out, HZ.out⟩
        simp [results, Try.results20, go_sem, q0, q1, q2]
    · have HRT := Lib.hid (show RightT d ms .none R X from fun H hH => by rw [av_uniq hH ⟨HGR.out, hGl⟩]; exact noneB_iff.1 hnb)
      clear hnb
      have zo : TOut W2 (g + 1) (.int .i64 0) (.int .i64 0) (.slice none 0 0) := HK2.out.2.1
      obtain ⟨z0, z1, z2⟩ := zo.cs
      have f0 := zo.fr 0
      have f1 := zo.fr 1
      have f2 := zo.fr 2
      have hq := (zo.set (.int .i64 1) (.int .i64 0) (.slice none 0 0)).cs
      have HQ := Lib.hid hq
      have HZ := Lib.hid (bset (bset (bset HB2.out (p := ⟨g + 1, 0, none⟩) (by rw [HG.out]; show g ≤ g + 1; omega) (.int .i64 1)) (p := ⟨g + 1, 1, none⟩) (by rw [HG.out]; show g ≤ g + 1; omega) (.int .i64 0)) (p := ⟨g + 1, 2, none⟩) (by rw [HG.out]; show g ≤ g + 1; omega) (.slice none 0 0))
      clear hq zo
      go_wp2_with fail
      obtain ⟨q0, q1, q2⟩ := HQ.out
      refine bodyPost_ret (v := .agg #[.int .i64 1, .int .i64 0, .slice none 0 0]) ?_ rfl ⟨_, _, _, .none, rfl, ⟨rfl, rfl, rfl⟩, HRT.out, HZ.out⟩
      simp [results, Try.results20, go_sem, q0, q1, q2]

end Go.Proofs.Ytfghnkgllmofgaa
