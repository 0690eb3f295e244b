/- The contracts of the reference's pair of disjoint quorums. -/
import Derived.Test.YtfghnkgllmofgaaRefGr
import Derived.Test.YtfghnkgllmofgaaPair
import Derived.Test.YtfghnkgllmofgaaRefSub
namespace Go.Proofs.Ytfghnkgllmofgaa
set_option linter.unusedVariables false
set_option linter.unusedSimpArgs false
open Go.RowKit

set_option maxRecDepth 100000 in
set_option maxHeartbeats 400000 in
theorem rmembers_run (A : Option Addr) (n c : Nat) (hn : n ≤ 10) (w : World) : Calls Try.prog 44 #[.agg #[.slice A n c]] w fun e w' => e = .returned (.int .i64 ((2 ^ n - 1 : Nat) : Int)) ∧ Below w.heap.size w w' := by
  have hp := pow11 n (by omega)
  have hp1 : 1 ≤ 2 ^ n := Nat.one_le_pow _ _ (by omega)
  have hp2 : 2 ^ n ≤ 2 ^ 10 := Nat.pow_le_pow_right (by omega) hn
  obtain ⟨N, hN⟩ : ∃ N, 2 ^ n = N := ⟨_, rfl⟩
  rw [hN] at hp hp1 hp2 ⊢
  clear hN
  have hw1 : wrap64 ((N : Int) - 1) = (N : Int) - 1 := by unfold wrap64; omega
  have hn64 : (n : Int) < 64 := by omega
  have HE := Lib.hid (show ((N - 1 : Nat) : Int) = (N : Int) - 1 by omega)
  go_enter Try.func44, Try.ntmps44
  go_wp2_with fail
  go_ret
  exact ⟨by rw [HE.out]; rfl, balloc (bref _) _⟩

theorem outS_sub (n s : Nat) (hn : n ≤ 10) (hs : s ≤ 2 ^ n - 1) : IntKind.i64.wrap (((2 ^ n - 1 : Nat) : Int) - (s : Int)) = ((outS n s : Nat) : Int) := by
  have all : ∀ n : Fin 11, ∀ s : Fin 1024, s.val ≤ 2 ^ n.val - 1 → 2 ^ n.val - 1 - s.val = outS n.val s.val := by decide +kernel
  have hp2 : 2 ^ n ≤ 2 ^ 10 := Nat.pow_le_pow_right (by omega) hn
  have e : 2 ^ n - 1 - s = outS n s := all ⟨n, by omega⟩ ⟨s, by omega⟩ hs
  rw [← e]
  exact (IntWalk.i64_in _ (by omega)).trans (by omega)

theorem sub_ones {n s : Nat} (hn : n ≤ 10) : Sub s (2 ^ n - 1) → s ≤ 2 ^ n - 1 := fun h => by
  rw [← and_self_sub.2 h]; exact Nat.and_le_right

theorem sub_all {n s : Nat} (h : ∀ k, s.testBit k = true → k < n) : Sub s (2 ^ n - 1) := fun k hk => by
  rw [Nat.testBit_two_pow_sub_one, decide_eq_true (h k hk)]

/-- What the reference's apart returns. -/
def RApart (d : Nat) (ms : List Mem) (e : Ending) : Prop := (∃ a b : Nat, e = .returned (.tuple #[.int .i64 (a : Int), .int .i64 (b : Int)]) ∧ Apart d ms a) ∨
  (e = .returned (.tuple #[.int .i64 0, .int .i64 0]) ∧ ∀ t, ¬ Apart d ms t)

set_option maxRecDepth 100000 in
set_option maxHeartbeats 4000000 in
theorem rapart_run (P : Nat → Prop) (d : Nat) (ms : List Mem) (v : Value) (w : World) (hl : ms.length ≤ 10) (h : MemsAt P d w v ms) :
    Calls Try.prog 22 #[.agg #[v]] w fun e w' => RApart d ms e ∧ Below w.heap.size w w' := by
  obtain ⟨A, c, rfl⟩ := h.slice
  have hb1 : Below w.heap.size w (w.alloc (.cells #[.slice A ms.length c] 27)) := balloc (bref w) _
  have k0 : (w.alloc (.cells #[.slice A ms.length c] 27)).heap[w.heap.size]? = some (.cells #[.slice A ms.length c] 27 (0, 0)) := alloc_at rfl
  have H := Lib.hid (h.below hb1)
  have HB := Lib.hid hb1
  have K0 := Lib.hid k0
  clear h hb1 k0
  go_enter Try.func22, Try.ntmps22
  go_upto_region 1 with fail
  generalize w.alloc (.cells #[.slice A ms.length c] 27) = W1 at *
  generalize hg : w.heap.size = g at *
  have HG := Lib.hid hg
  clear hg
  have c0 : W1.cell? ⟨g, 0, none⟩ = some (.slice A ms.length c) := cell_of_row _ _ 0 _ _ (0, 0) K0.out
  have hgl := cell_lt c0
  have HBw := Lib.hid (show Below w.heap.size w W1 by rw [HG.out]; exact HB.out)
  have hp2 : 2 ^ ms.length ≤ 2 ^ 10 := Nat.pow_le_pow_right (by omega) hl
  obtain ⟨n1, hn1⟩ : ∃ n1, 2 ^ ms.length - 1 = n1 := ⟨_, rfl⟩
  have HN1 := Lib.hid hn1
  have hn1l : n1 < 1024 := by omega
  clear hn1 hp2
  go_wp2_with fail
  refine (rmembers_run A ms.length c hl _).mono ?_
  rintro e W2 ⟨rfl, hb2⟩
  rw [HN1.out]
  have HB2 := Lib.hid hb2
  clear hb2 c0
  go_wp2_with fail
  refine (rsubsets_run n1 _ hn1l).mono ?_
  rintro e W3 ⟨sv, l, rfl, hN, hll, hmem, hb3⟩
  have HB3 := Lib.hid (bstep HB2.out hb3)
  have HM := Lib.hid hmem
  obtain ⟨As, cs, rfl, hNc⟩ := hN
  have HNC := Lib.hid hNc
  clear hb3 hmem hNc
  go_wp2_with fail
  go_loopw [5, 6, 11] (fun _ _ t W => ∃ j : Nat, j ≤ l.length ∧ t = .int .i64 j ∧ Hid (∀ i q : Nat, i < j → l[i]? = some (q : Int) → ¬ Apart d ms q) ∧ Hid (Below W3.heap.size W3 W)) (fun _ _ t _ => l.length - (intOf t).toNat)
  case atStart => exact ⟨0, by omega, rfl, Lib.hid (fun i q hi => by omega), Lib.hid (bref _)⟩
  case round =>
    obtain ⟨j, hj, rfl, hNo, hB⟩ := hrel
    have c1 : wr.cell? ⟨g, 0, none⟩ = some (.slice A ms.length c) := ((bstep HB3.out hB.out).cell hgl).trans (cell_of_row _ _ 0 _ _ (0, 0) K0.out)
    by_cases hlt : j < l.length
    · obtain ⟨b, off, rfl, _, hc⟩ := HNC.out j hlt
      have hx0 : l[j]? = some (l.getD j 0) := by rw [List.getD_eq_getElem?_getD, List.getElem?_eq_getElem hlt]; rfl
      obtain ⟨s, hsx, hss⟩ := (HM.out _).1 (List.mem_of_getElem? hx0)
      rw [hsx] at hc hx0
      have hs1 : s ≤ n1 := by
        have := sub_ones (n := ms.length) (s := s) hl (by rw [HN1.out]; exact hss)
        rw [HN1.out] at this; exact this
      have HX0 := Lib.hid hx0
      have d1 := (hB.out.cell (cell_lt hc)).trans hc
      clear hsx hx0 hss hc
      go_wp2_with fail
      refine (rquorum_run _ d ms _ s _ hl (by omega) (H.out.below (bstep HB3.out hB.out))).mono ?_
      rintro e W4 ⟨q, rfl, hq, hb4⟩
      have HB4 := Lib.hid (bstep hB.out hb4)
      have c4 := (hb4.cell (cell_lt c1)).trans c1
      clear hb4 c1 d1
      cases q
      · have HNA := Lib.hid (show ¬ Apart d ms s from fun h => by
          have := hq.2 h.1; cases this)
        clear hq
        have HN2 := Lib.hid (show ∀ i q : Nat, i < j + 1 → l[i]? = some (q : Int) → ¬ Apart d ms q from fun i q hi hq => by
          rcases Nat.lt_or_ge i j with h1 | h1
          · exact hNo.out i q h1 hq
          · obtain rfl : i = j := by omega
            rw [HX0.out] at hq
            obtain rfl : s = q := by have := Option.some.inj hq; omega
            exact HNA.out)
        go_wp2_with fail
        go_roundw
        case rel => exact ⟨j + 1, by omega, by go_num, HN2, HB4⟩
        case measure => simp [intOf]; omega
      · have HQ := Lib.hid (show IsQ d ms s from hq.1 rfl)
        clear hq
        go_upto_region 5 with fail
        have hO := outS_sub ms.length s hl (by rw [HN1.out]; exact hs1)
        rw [HN1.out] at hO
        have hOl := outS_lt ms.length s hl
        obtain ⟨O, hOq⟩ : ∃ O, outS ms.length s = O := ⟨_, rfl⟩
        have HO := Lib.hid hOq
        rw [hOq] at hO hOl
        clear hOq
        have hS := Lib.hid (keepMP (⟨c4, H.out.below (bstep HB3.out HB4.out)⟩) (bdrew' W4))
        refine wp_region_noPanic ?_
        refine wp_region_held_drew (S := fun W => W.cell? ⟨g, 0, none⟩ = some (.slice A ms.length c) ∧ MemsAt P d W (.slice A ms.length c) ms) (by kernel_rfl) hS.out (fun hHeld => ?_)
        refine take_d (some 19) (i := 0) (v := ?_) rfl rfl (by kernel_rfl) (by kernel_rfl) (by kernel_rfl) (fun _ _ _ h => h) (Or.inl ⟨by rfl, ?_⟩) (by assumption) ?_
        rotate_left
        · intro w hSw; (try dsimp only at hSw); go_simp; (try with_reducible rfl)
        try simp only [Act.put, List.setIfInBounds_toArray, List.set_cons_zero, List.set_cons_succ]
        refine take_d (some 20) (i := 1) (v := ?_) rfl rfl (by kernel_rfl) (by kernel_rfl) (by kernel_rfl) (fun _ _ _ h => h) (Or.inl ⟨by rfl, ?_⟩) (by assumption) ?_
        rotate_left
        · intro w hSw; (try dsimp only at hSw); go_simp; (try with_reducible rfl)
        try simp only [Act.put, List.setIfInBounds_toArray, List.set_cons_zero, List.set_cons_succ]
        refine take_d (some 22) (i := 3) (v := ?_) rfl rfl (by kernel_rfl) (by kernel_rfl) (by kernel_rfl) (fun _ _ _ h => h) (Or.inl ⟨by rfl, ?_⟩) (by assumption) ?_
        rotate_left
        · intro w hSw; (try dsimp only at hSw); go_simp; (try with_reducible rfl)
        try simp only [Act.put, List.setIfInBounds_toArray, List.set_cons_zero, List.set_cons_succ]
        refine wpAnyH_ready (rs := [2]) (by kernel_rfl) (by simp) ?_
        refine AllReadyH.cons rfl (fun K hK => ?_) AllReadyH.nil
        go_simp
        refine (rmembers_run A ms.length c hl _).mono ?_; rintro e WK ⟨rfl, hbK⟩; rw [HN1.out]; have hSK := keepMP (by assumption) hbK
        go_wp2_with fail
        refine hK.out _ _ ?_ (fun hHeld => ?_)
        · exact hSK
        clear hK K
        try simp only [Act.put, List.setIfInBounds_toArray, List.set_cons_zero, List.set_cons_succ]
        refine take_d (some 23) (i := 4) (v := ?_) rfl rfl (by kernel_rfl) (by kernel_rfl) (by kernel_rfl) (fun _ _ _ h => h) (Or.inl ⟨by rfl, ?_⟩) (by assumption) ?_
        rotate_left
        · intro w hSw; (try dsimp only at hSw); go_simp; (try with_reducible rfl)
        try simp only [Act.put, List.setIfInBounds_toArray, List.set_cons_zero, List.set_cons_succ]
        refine wpAnyH_ready (rs := [5]) (by kernel_rfl) (by simp) ?_
        refine AllReadyH.cons rfl (fun K hK => ?_) AllReadyH.nil
        go_simp
        refine (rgreatest_run _ d ms _ O _ hl hOl (memsM (by assumption))).mono ?_; rintro e WK2 ⟨G, rfl, hGl, hgr, hbK2⟩; have hSK := keepMP (by assumption) hbK2
        go_wp2_with fail
        refine hK.out _ _ ?_ (fun hHeld => ?_)
        · exact hSK
        clear hK K
        try simp only [Act.put, List.setIfInBounds_toArray, List.set_cons_zero, List.set_cons_succ]
        refine take_d (some 6) (i := 6) (v := ?_) rfl rfl (by kernel_rfl) (by kernel_rfl) (by kernel_rfl) (fun _ _ _ h => h) (Or.inl ⟨by rfl, ?_⟩) (by assumption) ?_
        rotate_left
        · intro w hSw; (try dsimp only at hSw); go_simp; (try with_reducible rfl)
        try simp only [Act.put, List.setIfInBounds_toArray, List.set_cons_zero, List.set_cons_succ]
        refine wpAnyH_done (by kernel_rfl) ?_ _
        refine NoPanic.normal ?_
        rw [← HO.out] at hgr
        have HB5 := Lib.hid (bstep HB4.out (bstep (bstep (bdrew' W4) hbK) hbK2))
        have HAP := Lib.hid (apart_gr hGl hgr)
        have c5 := hSK.1
        clear hSK hHeld hgr hS hO hbK hbK2 c4
        by_cases hg0 : G = 0
        · have hz : ((G : Int) != 0) = false := by rw [hg0]; rfl
          have HNA := Lib.hid (show ¬ Apart d ms s from fun h => HAP.out.1 h.2 hg0)
          clear hg0
          have HN2 := Lib.hid (show ∀ i q : Nat, i < j + 1 → l[i]? = some (q : Int) → ¬ Apart d ms q from fun i q hi hq => by
            rcases Nat.lt_or_ge i j with h1 | h1
            · exact hNo.out i q h1 hq
            · obtain rfl : i = j := by omega
              rw [HX0.out] at hq
              obtain rfl : s = q := by have := Option.some.inj hq; omega
              exact HNA.out)
          go_wp2_with fail
          go_roundw
          case rel => exact ⟨j + 1, by omega, by go_num, HN2, HB5⟩
          case measure => simp [intOf]; omega
        · have hz : ((G : Int) != 0) = true := by simpa using hg0
          have HA := Lib.hid (show Apart d ms s from ⟨HQ.out, HAP.out.2 hg0⟩)
          have HZ := Lib.hid (bstep HBw.out (bstep HB3.out HB5.out))
          clear hg0
          go_wp2_with fail
          go_ret2
          exact ⟨Or.inl ⟨s, G, rfl, HA.out⟩, HZ.out⟩
    · obtain rfl : j = l.length := by omega
      have HALL := Lib.hid (show ∀ t, ¬ Apart d ms t from fun t h => by
        have hst : Sub t n1 := by rw [← HN1.out]; exact sub_all (fun k hk => declS_bit (h.1.2.1 k hk))
        obtain ⟨i, hi, he⟩ := List.getElem_of_mem ((HM.out (t : Int)).2 ⟨t, rfl, hst⟩)
        exact hNo.out i t hi (by rw [List.getElem?_eq_getElem hi, he]) h)
      have HZ := Lib.hid (bstep HBw.out (bstep HB3.out hB.out))
      go_wp2_with fail
      go_ret2
      exact ⟨Or.inr ⟨rfl, HALL.out⟩, HZ.out⟩

end Go.Proofs.Ytfghnkgllmofgaa
