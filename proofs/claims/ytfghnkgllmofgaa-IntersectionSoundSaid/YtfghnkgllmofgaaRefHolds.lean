/- The contracts of the reference's Valid of configurations, and of its Holds. -/
import Derived.Test.YtfghnkgllmofgaaRefApart
import Derived.Test.YtfghnkgllmofgaaCValid
namespace Go.Proofs.Ytfghnkgllmofgaa
set_option linter.unusedVariables false
set_option linter.unusedSimpArgs false
open Go.RowKit

theorem pow11' (L : Nat) (hL : L ≤ 11) : IntKind.i64.wrap (2 ^ L) = ((2 ^ L : Nat) : Int) := by
  have all : ∀ L : Fin 12, IntKind.i64.wrap (2 ^ L.val) = ((2 ^ L.val : Nat) : Int) := by decide +kernel
  exact all ⟨L, by omega⟩

theorem ltpow_of_bits (U n : Nat) (h : ∀ k, U.testBit k = true → k < n) : U < 2 ^ n := Nat.lt_pow_two_of_testBit U (fun i hi => by
  cases hb : U.testBit i
  · rfl
  · have := h i hb; omega)

theorem stKeep {W1 W W' : World} {g b off m c r n1 c1 n2 c2 : Nat} {t : Int} {A1 A2 : Option Addr} {P : Nat → Prop} {T : Tree} (h : W.cell? ⟨g, 0, none⟩ = some (.slice (some ⟨b, off, none⟩) m c) ∧ W.cell? ⟨r, 1, none⟩ = some (.int .i64 t) ∧ W.cell? ⟨r, 2, none⟩ = some (.slice A1 n1 c1) ∧ W.cell? ⟨r, 3, none⟩ = some (.slice A2 n2 c2) ∧ TAt P 2 W (.int .i64 t) (.slice A1 n1 c1) (.slice A2 n2 c2) T ∧ Below W1.heap.size W1 W) (hb : Below W.heap.size W W') : W'.cell? ⟨g, 0, none⟩ = some (.slice (some ⟨b, off, none⟩) m c) ∧ W'.cell? ⟨r, 1, none⟩ = some (.int .i64 t) ∧ W'.cell? ⟨r, 2, none⟩ = some (.slice A1 n1 c1) ∧ W'.cell? ⟨r, 3, none⟩ = some (.slice A2 n2 c2) ∧ TAt P 2 W' (.int .i64 t) (.slice A1 n1 c1) (.slice A2 n2 c2) T ∧ Below W1.heap.size W1 W' :=
  ⟨(hb.cell (cell_lt h.1)).trans h.1, (hb.cell (cell_lt h.2.1)).trans h.2.1, (hb.cell (cell_lt h.2.2.1)).trans h.2.2.1, (hb.cell (cell_lt h.2.2.2.1)).trans h.2.2.2.1, h.2.2.2.2.1.below hb, bstep h.2.2.2.2.2 hb⟩

theorem stT {W1 W : World} {g b off m c r n1 c1 n2 c2 : Nat} {t : Int} {A1 A2 : Option Addr} {P : Nat → Prop} {T : Tree} (h : W.cell? ⟨g, 0, none⟩ = some (.slice (some ⟨b, off, none⟩) m c) ∧ W.cell? ⟨r, 1, none⟩ = some (.int .i64 t) ∧ W.cell? ⟨r, 2, none⟩ = some (.slice A1 n1 c1) ∧ W.cell? ⟨r, 3, none⟩ = some (.slice A2 n2 c2) ∧ TAt P 2 W (.int .i64 t) (.slice A1 n1 c1) (.slice A2 n2 c2) T ∧ Below W1.heap.size W1 W) : TAt P 2 W (.int .i64 t) (.slice A1 n1 c1) (.slice A2 n2 c2) T := h.2.2.2.2.1

set_option maxHeartbeats 400000 in
theorem rsame01_run (A A' : Option Addr) (c c' : Nat) (w : World) : Calls Try.prog 56 #[.slice A 0 c, .slice A' 0 c'] w fun e w' => e = .returned (.bool true) ∧ w = w' := by
  go_enter Try.func56, Try.ntmps56
  go_wp2_with fail
  go_loop [13] (fun t => t = .int .i64 0) (fun _ => 0)
  case atStart => rfl
  case round =>
    subst hrel
    go_wp2_with fail
    go_ret
    exact ⟨rfl, rfl⟩

set_option maxHeartbeats 1000000 in
theorem rsame0_run (A B A' B' : Option Addr) (c c' ca cb : Nat) (w : World) : Calls Try.prog 41 #[.agg #[.int .i64 0, .slice A 0 c, .slice B 0 c'], .agg #[.int .i64 0, .slice A' 0 ca, .slice B' 0 cb]] w fun e w' => e = .returned (.bool true) ∧ Below w.heap.size w w' := by
  have hb2 : Below w.heap.size w ((w.alloc (.cells #[.int .i64 0, .slice A 0 c, .slice B 0 c'] 49)).alloc (.cells #[.int .i64 0, .slice A' 0 ca, .slice B' 0 cb] 49)) := balloc (balloc (bref w) _) _
  have k0 : ((w.alloc (.cells #[.int .i64 0, .slice A 0 c, .slice B 0 c'] 49)).alloc (.cells #[.int .i64 0, .slice A' 0 ca, .slice B' 0 cb] 49)).heap[w.heap.size]? = some (.cells #[.int .i64 0, .slice A 0 c, .slice B 0 c'] 49 (0, 0)) := alloc_on (alloc_at rfl)
  have k1 : ((w.alloc (.cells #[.int .i64 0, .slice A 0 c, .slice B 0 c'] 49)).alloc (.cells #[.int .i64 0, .slice A' 0 ca, .slice B' 0 cb] 49)).heap[w.heap.size + 1]? = some (.cells #[.int .i64 0, .slice A' 0 ca, .slice B' 0 cb] 49 (0, 0)) := alloc_at (alloc_sz _ _)
  have HB := Lib.hid hb2
  have K0 := Lib.hid k0
  have K1 := Lib.hid k1
  clear hb2 k0 k1
  go_enter Try.func41, Try.ntmps41
  go_upto_region 1 with fail
  generalize ((w.alloc (.cells #[.int .i64 0, .slice A 0 c, .slice B 0 c'] 49)).alloc (.cells #[.int .i64 0, .slice A' 0 ca, .slice B' 0 cb] 49)) = W2 at *
  generalize hg : w.heap.size = g at *
  have HG := Lib.hid hg
  clear hg
  have c0 : W2.cell? ⟨g, 0, none⟩ = some (.int .i64 0) := cell_of_row _ _ 0 _ _ (0, 0) K0.out
  have c1 : W2.cell? ⟨g, 1, none⟩ = some (.slice A 0 c) := cell_of_row _ _ 1 _ _ (0, 0) K0.out
  have c2 : W2.cell? ⟨g, 2, none⟩ = some (.slice B 0 c') := cell_of_row _ _ 2 _ _ (0, 0) K0.out
  have d0 : W2.cell? ⟨g + 1, 0, none⟩ = some (.int .i64 0) := cell_of_row _ _ 0 _ _ (0, 0) K1.out
  have d1 : W2.cell? ⟨g + 1, 1, none⟩ = some (.slice A' 0 ca) := cell_of_row _ _ 1 _ _ (0, 0) K1.out
  have d2 : W2.cell? ⟨g + 1, 2, none⟩ = some (.slice B' 0 cb) := cell_of_row _ _ 2 _ _ (0, 0) K1.out
  go_wp2_with fail
  refine (rsame01_run _ _ _ _ _).mono ?_
  rintro e w3 ⟨rfl, rfl⟩
  go_wp2_with fail
  go_loop [31] (fun t => t = .int .i64 0) (fun _ => 0)
  case atStart => rfl
  case round =>
    subst hrel
    go_wp2_with fail
    go_ret
    rw [← HG.out] at HB ⊢
    exact ⟨rfl, HB.out⟩

set_option maxRecDepth 100000 in
set_option maxHeartbeats 2000000 in
theorem rtvalid_run (P : Nat → Prop) (n : Int) (hn10 : n ≤ 10) (d : Nat) (hd : d ≤ 4) (T : Tree) (v0 v1 v2 : Value) (w : World) (h : TAt P d w v0 v1 v2 T) (hW : WF n d T) (hz0 : sizeT d T ≤ 200) :
    Calls Try.prog 33 #[.agg #[v0, v1, v2]] w fun e w' => e = .returned (.int .i64 0) ∧ Below w.heap.size w w' := by
  obtain ⟨t', A', n', ca, B', m', cb, rfl, rfl, rfl⟩ := h.form
  have hT := Lib.hid (h.below (balloc (bref w) (.cells #[.int .i64 t', .slice A' n' ca, .slice B' m' cb] 49)))
  have HW := Lib.hid hW
  have hdl := Nat.le_trans (depthT_le d T) hd
  have hsz := hW.size4 hd
  clear h hW
  go_enter Try.func33, Try.ntmps33
  have hbox : (w.alloc (.cells #[.int .i64 t', .slice A' n' ca, .slice B' m' cb] 49)).heap[w.heap.size]? = some (.cells #[.int .i64 t', .slice A' n' ca, .slice B' m' cb] 49 (0, 0)) := heap_alloc_new _ _
  have HBX := Lib.hid hbox
  have HB1 := Lib.hid (balloc (bref w) (.cells #[.int .i64 t', .slice A' n' ca, .slice B' m' cb] 49))
  clear hbox
  go_upto_region 1 with fail
  generalize w.alloc (.cells #[.int .i64 t', .slice A' n' ca, .slice B' m' cb] 49) = W1 at *
  generalize hg : w.heap.size = g at *
  have hgw := Lib.hid hg
  clear hg
  have c0 : W1.cell? ⟨g, 0, none⟩ = some (.int .i64 t') := cell_of_row _ _ 0 _ _ (0, 0) HBX.out
  have c1 : W1.cell? ⟨g, 1, none⟩ = some (.slice A' n' ca) := cell_of_row _ _ 1 _ _ (0, 0) HBX.out
  have c2 : W1.cell? ⟨g, 2, none⟩ = some (.slice B' m' cb) := cell_of_row _ _ 2 _ _ (0, 0) HBX.out
  have hgl : g < W1.heap.size := cell_lt c0
  generalize hdz : depthT d T = dz at *
  generalize hzz : sizeT d T = zz at *
  have HDZ := Lib.hid hdz
  have HZZ := Lib.hid hzz
  clear hdz hzz
  go_wp2_with fail
  refine (rdepth_run P d T _ _ _ _ (by omega) hT.out).mono ?_
  rintro e w2 ⟨rfl, hb2⟩
  rw [HDZ.out]
  have a0 := (hb2.cell (p := ⟨g, 0, none⟩) hgl).trans c0
  have a1 := (hb2.cell (p := ⟨g, 1, none⟩) hgl).trans c1
  have a2 := (hb2.cell (p := ⟨g, 2, none⟩) hgl).trans c2
  have hT2 := Lib.hid (hT.out.below hb2)
  have HB2 := Lib.hid hb2
  have hgl2 := cell_lt a0
  clear hb2
  go_wp2_with fail
  refine (rsize_run P d T _ _ _ _ hT2.out (by rw [HZZ.out]; omega)).mono ?_
  rintro e w3 ⟨rfl, hb3⟩
  rw [HZZ.out]
  have d0 := (hb3.cell (p := ⟨g, 0, none⟩) hgl2).trans a0
  have d1 := (hb3.cell (p := ⟨g, 1, none⟩) hgl2).trans a1
  have d2 := (hb3.cell (p := ⟨g, 2, none⟩) hgl2).trans a2
  have hT3 := Lib.hid (hT2.out.below hb3)
  have HB3 := Lib.hid (bstep HB2.out hb3)
  have HBW : Hid (∀ x : World, Below W1.heap.size W1 x → Below w.heap.size w x) := Lib.hid (fun x hx => by have h1 := HB1.out; rw [← hgw.out] at h1; exact bstep h1 hx)
  clear hb3
  have hz2 : zz ≤ 200 := by have := HZZ.out; omega
  go_wp2_with fail
  refine (rcheck_run P n hn10 d T _ _ _ _ hT3.out HW.out).mono ?_
  rintro e w4 ⟨rfl, hb4⟩
  go_wp2_with fail
  go_ret
  rw [← hgw.out]
  exact ⟨rfl, HBW.out _ (bstep HB3.out hb4)⟩

set_option maxRecDepth 100000 in
set_option maxHeartbeats 2000000 in
theorem rcvalid_run (P : Nat → Prop) (ms : List Mem) (v : Value) (w : World) (hl : ms.length ≤ 10) (h : MemsAt P 2 w v ms) (hok : MemsOk ms.length ms) :
    Calls Try.prog 21 #[.agg #[v]] w fun e w' => e = .returned (.int .i64 0) ∧ Below w.heap.size w w' := by
  obtain ⟨A, c, rfl⟩ := h.slice
  have hb1 : Below w.heap.size w (w.alloc (.cells #[.slice A ms.length c] 27)) := balloc (bref w) _
  have k0 : (w.alloc (.cells #[.slice A ms.length c] 27)).heap[w.heap.size]? = some (.cells #[.slice A ms.length c] 27 (0, 0)) := alloc_at rfl
  have H := Lib.hid (h.below hb1)
  have HB := Lib.hid hb1
  have K0 := Lib.hid k0
  have HOK := Lib.hid hok
  clear h hb1 k0 hok
  go_enter Try.func21, Try.ntmps21
  go_upto_region 1 with fail
  generalize w.alloc (.cells #[.slice A ms.length c] 27) = W1 at *
  generalize hg : w.heap.size = g at *
  have HG := Lib.hid hg
  clear hg
  have c0 : W1.cell? ⟨g, 0, none⟩ = some (.slice A ms.length c) := cell_of_row _ _ 0 _ _ (0, 0) K0.out
  have hgl := cell_lt c0
  have hl10 : ¬ (10 : Int) < (ms.length : Int) := by omega
  go_wp2_with fail
  go_loopw [13] (fun t W => ∃ k : Nat, k ≤ ms.length ∧ t = .int .i64 k ∧ Hid (Below W1.heap.size W1 W)) (fun t _ => ms.length - (intOf t).toNat)
  case atStart => exact ⟨0, by omega, rfl, Lib.hid (bref _)⟩
  case round =>
    obtain ⟨k, hk, rfl, hB⟩ := hrel
    by_cases hlt : k < ms.length
    · obtain ⟨m, hm⟩ : ∃ m, ms[k]? = some m := ⟨_, List.getElem?_eq_getElem hlt⟩
      obtain ⟨b, off, t, A1, n1, c1, A2, n2, c2, rfl, hP, hbl, e0, e1, e2, e3, hT⟩ := memBox (H.out.below hB.out) hm
      have hmo := HOK.out m (List.mem_of_getElem? hm)
      have HM1 := Lib.hid hmo.1
      have HM2 := Lib.hid hmo.2
      obtain ⟨dec, T⟩ := m
      have hba := balloc (bref wr) (.cells #[.bool dec, .int .i64 t, .slice A1 n1 c1, .slice A2 n2 c2] 53)
      have k1 : (wr.alloc (.cells #[.bool dec, .int .i64 t, .slice A1 n1 c1, .slice A2 n2 c2] 53)).heap[wr.heap.size]? = some (.cells #[.bool dec, .int .i64 t, .slice A1 n1 c1, .slice A2 n2 c2] 53 (0, 0)) := alloc_at rfl
      have K1 := Lib.hid k1
      have hTA := hT.below hba
      have HBA := Lib.hid (bstep hB.out hba)
      clear hm hT hmo hba k1
      go_upto_region 6 with fail
      generalize wr.alloc (.cells #[.bool dec, .int .i64 t, .slice A1 n1 c1, .slice A2 n2 c2] 53) = W3 at *
      generalize wr.heap.size = r at *
      have c4 : W3.cell? ⟨g, 0, none⟩ = some (.slice (some ⟨b, off, none⟩) ms.length c) := (HBA.out.cell hgl).trans (cell_of_row _ _ 0 _ _ (0, 0) K0.out)
      have r0 : W3.cell? ⟨r, 0, none⟩ = some (.bool dec) := cell_of_row _ _ 0 _ _ (0, 0) K1.out
      have r1 : W3.cell? ⟨r, 1, none⟩ = some (.int .i64 t) := cell_of_row _ _ 1 _ _ (0, 0) K1.out
      have r2 : W3.cell? ⟨r, 2, none⟩ = some (.slice A1 n1 c1) := cell_of_row _ _ 2 _ _ (0, 0) K1.out
      have r3 : W3.cell? ⟨r, 3, none⟩ = some (.slice A2 n2 c2) := cell_of_row _ _ 3 _ _ (0, 0) K1.out
      clear e0 e1 e2 e3 c0
      cases dec
      · obtain rfl := HM2.out rfl
        obtain ⟨ht, _, _, hN, hL⟩ := hTA.parts
        obtain ⟨A3, c3, hv1⟩ := hN.slice
        obtain ⟨A4, c5, hv2⟩ := hL.slice
        cases ht
        cases hv1
        cases hv2
        clear hTA hN hL
        go_wp2_with fail
        refine (rsame0_run _ _ _ _ _ _ _ _ _).mono ?_
        rintro e w4 ⟨rfl, hb4⟩
        have HB4 := Lib.hid (bstep HBA.out hb4)
        clear hb4 c4 r0 r1 r2 r3
        go_wp2_with fail
        go_roundw
        case rel => exact ⟨k + 1, by omega, by go_num, HB4⟩
        case measure => simp [intOf]; omega
      · have HW := Lib.hid (HM1.out rfl)
        have HT := Lib.hid hTA
        have HU := Lib.hid (ltpow_of_bits _ ms.length (usesT_sub hl 2 T HW.out))
        have hul := usesT_lt 2 T
        have hpw : IntKind.i64.wrap (2 ^ ms.length) = ((2 ^ ms.length : Nat) : Int) := pow11' ms.length (by omega)
        have HPW := Lib.hid hpw
        clear hTA hpw
        go_wp2_with fail
        refine (rtvalid_run P ms.length (by omega) 2 (by omega) T _ _ _ _ HT.out HW.out (sizeT2_le HW.out)).mono ?_
        rintro e w4 ⟨rfl, hb4⟩
        have HS4 := Lib.hid (stKeep (⟨c4, r1, r2, r3, HT.out, HBA.out⟩) hb4)
        clear hb4 c4 r0 r1 r2 r3
        go_upto_region 12 with fail
        have hS := Lib.hid (stKeep HS4.out (bdrew' w4))
        have hpw := HPW.out
        obtain ⟨N, hN⟩ : ∃ N, 2 ^ ms.length = N := ⟨_, rfl⟩
        have HN := Lib.hid hN
        have huN := HU.out
        rw [hN] at hpw huN
        obtain ⟨U, hUq⟩ : ∃ U, usesT 2 T = U := ⟨_, rfl⟩
        have HUU := Lib.hid hUq
        rw [hUq] at huN hul
        have hge : ((N : Int) ≤ (U : Int)) = False := by simp; omega
        clear hN hUq huN
        refine wp_region_noPanic ?_
        refine wp_region_held_drew (S := fun W => W.cell? ⟨g, 0, none⟩ = some (.slice (some ⟨b, off, none⟩) ms.length c) ∧ W.cell? ⟨r, 1, none⟩ = some (.int .i64 t) ∧ W.cell? ⟨r, 2, none⟩ = some (.slice A1 n1 c1) ∧ W.cell? ⟨r, 3, none⟩ = some (.slice A2 n2 c2) ∧ TAt P 2 W (.int .i64 t) (.slice A1 n1 c1) (.slice A2 n2 c2) T ∧ Below W1.heap.size W1 W) (by kernel_rfl) hS.out (fun hHeld => ?_)
        refine take_d (some 31) (i := 0) (v := ?_) rfl rfl (by kernel_rfl) (by kernel_rfl) (by kernel_rfl) (fun _ _ _ h => h) (Or.inl ⟨by rfl, ?_⟩) (by assumption) ?_
        rotate_left
        · intro w hSw; (try dsimp only at hSw); go_simp; (try with_reducible rfl)
        try simp only [Act.put, List.setIfInBounds_toArray, List.set_cons_zero, List.set_cons_succ]
        refine take_d (some 32) (i := 1) (v := ?_) rfl rfl (by kernel_rfl) (by kernel_rfl) (by kernel_rfl) (fun _ _ _ h => h) (Or.inl ⟨by rfl, ?_⟩) (by assumption) ?_
        rotate_left
        · intro w hSw; (try dsimp only at hSw); go_simp; (try with_reducible rfl)
        try simp only [Act.put, List.setIfInBounds_toArray, List.set_cons_zero, List.set_cons_succ]
        refine take_d (some 34) (i := 3) (v := ?_) rfl rfl (by kernel_rfl) (by kernel_rfl) (by kernel_rfl) (fun _ _ _ h => h) (Or.inl ⟨by rfl, ?_⟩) (by assumption) ?_
        rotate_left
        · intro w hSw; (try dsimp only at hSw); go_simp; (try with_reducible rfl)
        try simp only [Act.put, List.setIfInBounds_toArray, List.set_cons_zero, List.set_cons_succ]
        refine take_d (some 35) (i := 4) (v := ?_) rfl rfl (by kernel_rfl) (by kernel_rfl) (by kernel_rfl) (fun _ _ _ h => h) (Or.inl ⟨by rfl, ?_⟩) (by assumption) ?_
        rotate_left
        · intro w hSw; (try dsimp only at hSw); go_simp; (try with_reducible rfl)
        try simp only [Act.put, List.setIfInBounds_toArray, List.set_cons_zero, List.set_cons_succ]
        refine take_d (some 36) (i := 5) (v := ?_) rfl rfl (by kernel_rfl) (by kernel_rfl) (by kernel_rfl) (fun _ _ _ h => h) (Or.inl ⟨by rfl, ?_⟩) (by assumption) ?_
        rotate_left
        · intro w hSw; (try dsimp only at hSw); go_simp; (try with_reducible rfl)
        try simp only [Act.put, List.setIfInBounds_toArray, List.set_cons_zero, List.set_cons_succ]
        refine take_d (some 37) (i := 6) (v := ?_) rfl rfl (by kernel_rfl) (by kernel_rfl) (by kernel_rfl) (fun _ _ _ h => h) (Or.inl ⟨by rfl, ?_⟩) (by assumption) ?_
        rotate_left
        · intro w hSw; (try dsimp only at hSw); go_simp; (try with_reducible rfl)
        try simp only [Act.put, List.setIfInBounds_toArray, List.set_cons_zero, List.set_cons_succ]
        refine wpAnyH_ready (rs := [2]) (by kernel_rfl) (by simp) ?_
        refine AllReadyH.cons rfl (fun K hK => ?_) AllReadyH.nil
        go_simp
        refine (ruses_run P 2 T _ _ _ _ (stT (by assumption))).mono ?_; rintro e WK ⟨rfl, hbK⟩; have hSK := stKeep (by assumption) hbK; rw [HUU.out]
        go_wp2_with fail
        refine hK.out _ _ ?_ (fun hHeld => ?_)
        · exact hSK
        clear hK K
        try simp only [Act.put, List.setIfInBounds_toArray, List.set_cons_zero, List.set_cons_succ]
        refine take_d (some 38) (i := 7) (v := ?_) rfl rfl (by kernel_rfl) (by kernel_rfl) (by kernel_rfl) (fun _ _ _ h => h) (Or.inl ⟨by rfl, ?_⟩) (by assumption) ?_
        rotate_left
        · intro w hSw; (try dsimp only at hSw); go_simp; (try with_reducible rfl)
        try simp only [Act.put, List.setIfInBounds_toArray, List.set_cons_zero, List.set_cons_succ]
        refine wpAnyH_done (by kernel_rfl) ?_ _
        refine NoPanic.normal ?_
        have HB6 := Lib.hid (hSK.2.2.2.2.2)
        clear hSK hHeld hS
        go_wp2_with fail
        go_roundw
        case rel => exact ⟨k + 1, by omega, by go_num, HB6⟩
        case measure => simp [intOf]; omega
    · obtain rfl : k = ms.length := by omega
      go_wp2_with fail
      go_ret
      exact ⟨rfl, by
        have h1 := HB.out
        rw [← HG.out] at h1
        exact bstep h1 hB.out⟩

/-- What the reference's Holds returns. -/
def RHolds (ms : List Mem) (e : Ending) : Prop := ∃ b : Bool, e = .returned (.tuple #[.bool b, .int .i64 0]) ∧ (b = true ↔ ∀ t, ¬ Apart 2 ms t)

set_option maxRecDepth 100000 in
set_option maxHeartbeats 1000000 in
theorem rholds_run (P : Nat → Prop) (ms : List Mem) (v : Value) (w : World) (hl : ms.length ≤ 10) (h : MemsAt P 2 w v ms) (hok : MemsOk ms.length ms) :
    Calls Try.prog 8 #[.agg #[v]] w fun e w' => RHolds ms e ∧ Below w.heap.size w w' := by
  obtain ⟨A, c, rfl⟩ := h.slice
  have hb1 : Below w.heap.size w (w.alloc (.cells #[.slice A ms.length c] 27)) := balloc (bref w) _
  have k0 : (w.alloc (.cells #[.slice A ms.length c] 27)).heap[w.heap.size]? = some (.cells #[.slice A ms.length c] 27 (0, 0)) := alloc_at rfl
  have H := Lib.hid (h.below hb1)
  have HB := Lib.hid hb1
  have K0 := Lib.hid k0
  have HOK := Lib.hid hok
  clear h hb1 k0 hok
  go_enter Try.func8, Try.ntmps8
  go_upto_region 1 with fail
  generalize w.alloc (.cells #[.slice A ms.length c] 27) = W1 at *
  generalize hg : w.heap.size = g at *
  have HG := Lib.hid hg
  clear hg
  have c0 : W1.cell? ⟨g, 0, none⟩ = some (.slice A ms.length c) := cell_of_row _ _ 0 _ _ (0, 0) K0.out
  have hgl := cell_lt c0
  have HBw := Lib.hid (show Below w.heap.size w W1 by rw [HG.out]; exact HB.out)
  go_wp2_with fail
  refine (rcvalid_run _ ms _ _ hl H.out HOK.out).mono ?_
  rintro e W2 ⟨rfl, hb2⟩
  have c2 := (hb2.cell hgl).trans c0
  have HB2 := Lib.hid hb2
  clear hb2 c0
  go_wp2_with fail
  refine (rapart_run _ 2 ms _ _ hl (H.out.below HB2.out)).mono ?_
  rintro e W3 ⟨hA, hb3⟩
  have HZ := Lib.hid (bstep HBw.out (bstep HB2.out hb3))
  clear hb3 c2
  rcases hA with ⟨a, b, rfl, hap⟩ | ⟨rfl, hno⟩
  · have ha0 : ((a : Int) == 0) = false := by rw [beq_eq_false_iff_ne]; have := hap.1.1; omega
    have HR := Lib.hid (show RHolds ms (.returned (.tuple #[.bool false, .int .i64 0])) from ⟨false, rfl, fun h => (by cases h), fun h => (h a hap).elim⟩)
    clear hap
    go_wp2_with fail
    go_ret2
    exact ⟨HR.out, HZ.out⟩
  · have HR := Lib.hid (show RHolds ms (.returned (.tuple #[.bool true, .int .i64 0])) from ⟨true, rfl, fun _ => hno, fun _ => rfl⟩)
    clear hno
    go_wp2_with fail
    go_ret2
    exact ⟨HR.out, HZ.out⟩

end Go.Proofs.Ytfghnkgllmofgaa
