/- The contracts of the reference's slices (layer 5): least, Slices. -/
import Derived.Test.YtnfdacfhhkahhaaRLeast2
import Derived.Test.YtnfdacfhhkahhaaB5
import Derived.Test.YtnfdacfhhkahhaaUsesMath
import Derived.Test.YtnfdacfhhkahhaaLFold
import Derived.Deep.RegionHeld3
namespace Go.Proofs.Ytnfdacfhhkahhaa
set_option linter.unusedVariables false
set_option linter.unusedSimpArgs false
open Go.RowKit

/-- What least returns. -/
def L05 (d : Nat) (T : Tree) (s : Nat) (e : Ending) : Prop := ∃ b : Bool, e = .returned (.bool b) ∧ (b = true ↔ ∀ k, k < 10 → s.testBit k = true → satB d T ((s - 2 ^ k : Nat) : Int) = false)
theorem wk_nat (k : Nat) (hk : k < 10) : IntKind.i64.wrap ((2 : Int) ^ k) = ((2 ^ k : Nat) : Int) := by
  have h : ∀ k : Fin 10, IntKind.i64.wrap ((2 : Int) ^ k.val) = ((2 ^ k.val : Nat) : Int) := by decide +kernel
  exact h ⟨k, hk⟩
set_option maxRecDepth 100000 in
set_option maxHeartbeats 4000000 in
theorem least05_run (P : Nat → Prop) (d : Nat) (T : Tree) (v0 v1 v2 : Value) (s : Nat) (w : World) (hs : s < 1024) (h : TAt P d w v0 v1 v2 T) :
    Calls Try.prog 29 #[.agg #[v0, v1, v2], .int .i64 (s : Int), .bool false] w fun e w' => L05 d T s e ∧ Below w.heap.size w w' := by
  obtain ⟨t', A', n', ca, B', m', cb, rfl, rfl, rfl⟩ := h.form
  have HT0 := Lib.hid (h.below (balloc (bref w) (.cells #[.int .i64 t', .slice A' n' ca, .slice B' m' cb] 32)))
  have HK0 := Lib.hid (show (w.alloc (.cells #[.int .i64 t', .slice A' n' ca, .slice B' m' cb] 32)).heap[w.heap.size]? = some (.cells #[.int .i64 t', .slice A' n' ca, .slice B' m' cb] 32 (0, 0)) from alloc_at rfl)
  have HB0 := Lib.hid (balloc (bref w) (.cells #[.int .i64 t', .slice A' n' ca, .slice B' m' cb] 32))
  clear h
  go_enter Try.func29, Try.ntmps29
  go_upto_region 1 with fail
  generalize (w.alloc (.cells #[.int .i64 t', .slice A' n' ca, .slice B' m' cb] 32)) = W0 at *
  generalize hg : w.heap.size = g at HK0 ⊢
  clear hg
  go_wp2_with fail
  refine (rnodes_run s _ hs).mono ?_
  rintro e W1 ⟨vn, rfl, hnv, hb1⟩
  have HT1 := Lib.hid (HT0.out.below hb1)
  have HK1 := Lib.hid ((hb1.block _ (Array.getElem?_eq_some_iff.1 HK0.out).1).trans HK0.out)
  have HBW := Lib.hid (bstep HB0.out hb1)
  obtain ⟨Nn, cn, rfl⟩ := hnv.slice
  obtain ⟨m, hm⟩ : ∃ m, (nodL s 10).length = m := ⟨_, rfl⟩
  have hnv2 := hnv.both (w' := W1) (Q := fun _ => True) (fun _ _ _ => rfl) (fun _ _ _ => trivial)
  have hm10 := nodL_len s 10
  rw [hm] at hnv2 hm10 ⊢
  have HNV := Lib.hid hnv2
  have HMm := Lib.hid hm
  clear hb1 hnv hnv2 hm
  have HST0 := Lib.hid (show ∀ W, Below W1.heap.size W1 W → (W.cell? ⟨g, 0, none⟩ = some (.int .i64 t') ∧ W.cell? ⟨g, 1, none⟩ = some (.slice A' n' ca) ∧ W.cell? ⟨g, 2, none⟩ = some (.slice B' m' cb) ∧ TAt P d W (.int .i64 t') (.slice A' n' ca) (.slice B' m' cb) T ∧ Below W1.heap.size W1 W) from fun W hb => by
    have hr := (hb.block g (Array.getElem?_eq_some_iff.1 HK1.out).1).trans HK1.out
    exact ⟨cell_of_row _ _ 0 _ _ (0, 0) hr, cell_of_row _ _ 1 _ _ (0, 0) hr, cell_of_row _ _ 2 _ _ (0, 0) hr, HT1.out.below hb, hb⟩)
  have HST := Lib.hid (show ∀ W W', (W.cell? ⟨g, 0, none⟩ = some (.int .i64 t') ∧ W.cell? ⟨g, 1, none⟩ = some (.slice A' n' ca) ∧ W.cell? ⟨g, 2, none⟩ = some (.slice B' m' cb) ∧ TAt P d W (.int .i64 t') (.slice A' n' ca) (.slice B' m' cb) T ∧ Below W1.heap.size W1 W) → Below W.heap.size W W' → _ from fun W W' h hb => HST0.out W' (bstep h.2.2.2.2 hb))
  go_wp2_with fail
  go_loopw [12] (fun t W => ∃ j : Nat, j ≤ m ∧ t = .int .i64 (j : Int) ∧ Hid (∀ i, i < j → ∀ k : Nat, (nodL s 10)[i]? = some (k : Int) → satB d T ((s - 2 ^ k : Nat) : Int) = false) ∧ Hid (Below W1.heap.size W1 W)) (fun t _ => m - (intOf t).toNat)
  case atStart => exact ⟨0, Nat.zero_le _, rfl, Lib.hid (fun i hi => absurd hi (by omega)), Lib.hid (bref _)⟩
  case round =>
    obtain ⟨j, hj, rfl, hAll, hBe⟩ := hrel
    by_cases hlt : j < m
    · obtain ⟨An, cn', hAn, hcl⟩ := HNV.out.below hBe.out
      injection hAn with q1 q2 q3
      subst q1
      obtain ⟨bn, on, hbn, _, hcn⟩ := hcl j (by rw [HMm.out]; exact hlt)
      subst hbn
      obtain ⟨k, hkk, hk10, hkb⟩ := (nodL_mem s 10 ((nodL s 10).getD j 0)).1 (by rw [List.getD_eq_getElem?_getD, List.getElem?_eq_getElem (by rw [HMm.out]; exact hlt)]; exact List.getElem_mem _)
      have HKJ := Lib.hid (show (nodL s 10)[j]? = some (k : Int) from by
        rw [List.getElem?_eq_getElem (by rw [HMm.out]; exact hlt)]
        rw [List.getD_eq_getElem?_getD, List.getElem?_eq_getElem (by rw [HMm.out]; exact hlt)] at hkk
        rw [← hkk]; rfl)
      rw [hkk] at hcn
      have HK := Lib.hid (⟨hk10, hkb⟩ : k < 10 ∧ s.testBit k = true)
      have hp2 : 2 ^ k ≤ s := Nat.ge_two_pow_of_testBit hkb
      obtain ⟨q, hq⟩ : ∃ q, s - 2 ^ k = q := ⟨_, rfl⟩
      have HQ := Lib.hid hq
      have hq10 : q < 1024 := Nat.lt_of_le_of_lt (hq ▸ Nat.sub_le _ _) hs
      obtain ⟨pk, hpk⟩ : ∃ pk, 2 ^ k = pk := ⟨_, rfl⟩
      have hwk : IntKind.i64.wrap ((2 : Int) ^ k) = (pk : Int) := by rw [← hpk]; exact wk_nat k hk10
      rw [hpk] at hq hp2
      have hqw : IntKind.i64.wrap ((s : Int) - (pk : Int)) = (q : Int) := by rw [show (s : Int) - (pk : Int) = (q : Int) by omega, IntKind.wrap_i64]; omega
      obtain ⟨x, hx⟩ : ∃ x, satB d T ((q : Nat) : Int) = x := ⟨_, rfl⟩
      have HX := Lib.hid hx
      have hki : (0 : Int) ≤ (k : Int) := by omega
      have hk64 : (k : Int) < 64 := by omega
      clear hcl hkk q2 q3 hkb hx hq hp2 hpk
      go_upto_region 4 with fail
      have hS := Lib.hid (HST0.out wr.drew (bstep hBe.out (bdrew (bref wr))))
      clear hcn
      refine wp_region_noPanic ?_
      refine wp_region_held_drew (S := fun W => W.cell? ⟨g, 0, none⟩ = some (.int .i64 t') ∧ W.cell? ⟨g, 1, none⟩ = some (.slice A' n' ca) ∧ W.cell? ⟨g, 2, none⟩ = some (.slice B' m' cb) ∧ TAt P d W (.int .i64 t') (.slice A' n' ca) (.slice B' m' cb) T ∧ Below W1.heap.size W1 W) (by kernel_rfl) hS.out (fun hSK => ?_)
      refine take_d (some 16) (i := 0) (v := ?_) rfl rfl (by kernel_rfl) (by kernel_rfl) (by kernel_rfl) (fun _ _ _ h => h) (Or.inl ⟨by rfl, ?_⟩) (by assumption) ?_
      rotate_left
      · intro w hSw; (try dsimp only at hSw); go_simp; (try with_reducible rfl)
      try simp only [Act.put, List.setIfInBounds_toArray, List.set_cons_zero, List.set_cons_succ]
      refine take_d (some 17) (i := 1) (v := ?_) rfl rfl (by kernel_rfl) (by kernel_rfl) (by kernel_rfl) (fun _ _ _ h => h) (Or.inl ⟨by rfl, ?_⟩) (by assumption) ?_
      rotate_left
      · intro w hSw; (try dsimp only at hSw); go_simp; (try with_reducible rfl)
      try simp only [Act.put, List.setIfInBounds_toArray, List.set_cons_zero, List.set_cons_succ]
      refine take_d (some 18) (i := 2) (v := ?_) rfl rfl (by kernel_rfl) (by kernel_rfl) (by kernel_rfl) (fun _ _ _ h => h) (Or.inl ⟨by rfl, ?_⟩) (by assumption) ?_
      rotate_left
      · intro w hSw; (try dsimp only at hSw); go_simp; (try with_reducible rfl)
      try simp only [Act.put, List.setIfInBounds_toArray, List.set_cons_zero, List.set_cons_succ]
      refine take_d (some 19) (i := 3) (v := ?_) rfl rfl (by kernel_rfl) (by kernel_rfl) (by kernel_rfl) (fun _ _ _ h => h) (Or.inl ⟨by rfl, ?_⟩) (by assumption) ?_
      rotate_left
      · intro w hSw; (try dsimp only at hSw); go_simp; (try with_reducible rfl)
      try simp only [Act.put, List.setIfInBounds_toArray, List.set_cons_zero, List.set_cons_succ]
      refine take_d (some 20) (i := 4) (v := ?_) rfl rfl (by kernel_rfl) (by kernel_rfl) (by kernel_rfl) (fun _ _ _ h => h) (Or.inl ⟨by rfl, ?_⟩) (by assumption) ?_
      rotate_left
      · intro w hSw; (try dsimp only at hSw); go_simp; (try with_reducible rfl)
      try simp only [Act.put, List.setIfInBounds_toArray, List.set_cons_zero, List.set_cons_succ]
      refine take_d (some 21) (i := 5) (v := ?_) rfl rfl (by kernel_rfl) (by kernel_rfl) (by kernel_rfl) (fun _ _ _ h => h) (Or.inl ⟨by rfl, ?_⟩) (by assumption) ?_
      rotate_left
      · intro w hSw; (try dsimp only at hSw); go_simp; (try with_reducible rfl)
      try simp only [Act.put, List.setIfInBounds_toArray, List.set_cons_zero, List.set_cons_succ]
      refine take_d (some 22) (i := 6) (v := ?_) rfl rfl (by kernel_rfl) (by kernel_rfl) (by kernel_rfl) (fun _ _ _ h => h) (Or.inl ⟨by rfl, ?_⟩) (by assumption) ?_
      rotate_left
      · intro w hSw; (try dsimp only at hSw); go_simp; (try with_reducible rfl)
      try simp only [Act.put, List.setIfInBounds_toArray, List.set_cons_zero, List.set_cons_succ]
      refine take_d (some 23) (i := 7) (v := ?_) rfl rfl (by kernel_rfl) (by kernel_rfl) (by kernel_rfl) (fun _ _ _ h => h) (Or.inl ⟨by rfl, ?_⟩) (by assumption) ?_
      rotate_left
      · intro w hSw; (try dsimp only at hSw); go_simp; (try with_reducible rfl)
      try simp only [Act.put, List.setIfInBounds_toArray, List.set_cons_zero, List.set_cons_succ]
      refine wpAnyH_ready (rs := [8]) (by kernel_rfl) (by simp) ?_
      refine AllReadyH.cons rfl (fun K hK => ?_) AllReadyH.nil
      go_simp
      refine (rsat_run P d T _ _ _ q _ hq10 (by exact (show (_ ∧ _ ∧ _ ∧ TAt P d _ _ _ _ T ∧ Below W1.heap.size W1 _) from by assumption).2.2.2.1)).mono ?_
      rintro e WK ⟨rfl, hbK⟩
      rw [HX.out]
      have hSK := HST.out _ _ (by assumption) hbK
      clear hbK
      go_wp2_with fail
      refine hK.out _ _ ?_ (fun hHeld => ?_)
      · exact hSK
      clear hSK
      have hSK := hHeld
      clear hHeld
      clear hK K
      try simp only [Act.put, List.setIfInBounds_toArray, List.set_cons_zero, List.set_cons_succ]
      refine take_d (some 25) (i := 9) (v := ?_) rfl rfl (by kernel_rfl) (by kernel_rfl) (by kernel_rfl) (fun _ _ _ h => h) (Or.inl ⟨by rfl, ?_⟩) (by assumption) ?_
      rotate_left
      · intro w hSw; (try dsimp only at hSw); go_simp; (try with_reducible rfl)
      try simp only [Act.put, List.setIfInBounds_toArray, List.set_cons_zero, List.set_cons_succ]
      refine take_d (some 26) (i := 10) (v := ?_) rfl rfl (by kernel_rfl) (by kernel_rfl) (by kernel_rfl) (fun _ _ _ h => h) (Or.inl ⟨by rfl, ?_⟩) (by assumption) ?_
      rotate_left
      · intro w hSw; (try dsimp only at hSw); go_simp; (try with_reducible rfl)
      try simp only [Act.put, List.setIfInBounds_toArray, List.set_cons_zero, List.set_cons_succ]
      cases x
      · refine take_d (some 27) (i := 11) (v := ?_) rfl rfl (by kernel_rfl) (by kernel_rfl) (by kernel_rfl) (fun _ _ _ h => h) (Or.inl ⟨by rfl, ?_⟩) (by assumption) ?_
        rotate_left
        · intro w hSw; (try dsimp only at hSw); go_simp; (try with_reducible rfl)
        try simp only [Act.put, List.setIfInBounds_toArray, List.set_cons_zero, List.set_cons_succ]
        refine take_d (some 28) (i := 12) (v := ?_) rfl rfl (by kernel_rfl) (by kernel_rfl) (by kernel_rfl) (fun _ _ _ h => h) (Or.inl ⟨by rfl, ?_⟩) (by assumption) ?_
        rotate_left
        · intro w hSw; (try dsimp only at hSw); go_simp; (try with_reducible rfl)
        try simp only [Act.put, List.setIfInBounds_toArray, List.set_cons_zero, List.set_cons_succ]
        refine take_d (some 29) (i := 13) (v := undef) rfl rfl (by kernel_rfl) (by kernel_rfl) (by kernel_rfl) (fun _ _ _ h => h) (Or.inr ⟨by rfl, rfl⟩) (by assumption) ?_
        try simp only [Act.put, List.setIfInBounds_toArray, List.set_cons_zero, List.set_cons_succ]
        refine take_d (some 30) (i := 14) (v := undef) rfl rfl (by kernel_rfl) (by kernel_rfl) (by kernel_rfl) (fun _ _ _ h => h) (Or.inr ⟨by rfl, rfl⟩) (by assumption) ?_
        try simp only [Act.put, List.setIfInBounds_toArray, List.set_cons_zero, List.set_cons_succ]
        refine take_d (some 31) (i := 15) (v := undef) rfl rfl (by kernel_rfl) (by kernel_rfl) (by kernel_rfl) (fun _ _ _ h => h) (Or.inr ⟨by rfl, rfl⟩) (by assumption) ?_
        try simp only [Act.put, List.setIfInBounds_toArray, List.set_cons_zero, List.set_cons_succ]
        refine take_d (some 32) (i := 16) (v := undef) rfl rfl (by kernel_rfl) (by kernel_rfl) (by kernel_rfl) (fun _ _ _ h => h) (Or.inr ⟨by rfl, rfl⟩) (by assumption) ?_
        try simp only [Act.put, List.setIfInBounds_toArray, List.set_cons_zero, List.set_cons_succ]
        refine take_d (some 33) (i := 17) (v := undef) rfl rfl (by kernel_rfl) (by kernel_rfl) (by kernel_rfl) (fun _ _ _ h => h) (Or.inr ⟨by rfl, rfl⟩) (by assumption) ?_
        try simp only [Act.put, List.setIfInBounds_toArray, List.set_cons_zero, List.set_cons_succ]
        refine take_d (some 34) (i := 18) (v := undef) rfl rfl (by kernel_rfl) (by kernel_rfl) (by kernel_rfl) (fun _ _ _ h => h) (Or.inr ⟨by rfl, rfl⟩) (by assumption) ?_
        try simp only [Act.put, List.setIfInBounds_toArray, List.set_cons_zero, List.set_cons_succ]
        refine take_d (some 35) (i := 19) (v := ?_) rfl rfl (by kernel_rfl) (by kernel_rfl) (by kernel_rfl) (fun _ _ _ h => h) (Or.inl ⟨by rfl, ?_⟩) (by assumption) ?_
        rotate_left
        · intro w hSw; (try dsimp only at hSw); go_simp; (try with_reducible rfl)
        try simp only [Act.put, List.setIfInBounds_toArray, List.set_cons_zero, List.set_cons_succ]
        refine take_d (some 36) (i := 20) (v := ?_) rfl rfl (by kernel_rfl) (by kernel_rfl) (by kernel_rfl) (fun _ _ _ h => h) (Or.inl ⟨by rfl, ?_⟩) (by assumption) ?_
        rotate_left
        · intro w hSw; (try dsimp only at hSw); go_simp; (try with_reducible rfl)
        try simp only [Act.put, List.setIfInBounds_toArray, List.set_cons_zero, List.set_cons_succ]
        refine wpAnyH_done (by kernel_rfl) ?_ _
        refine NoPanic.normal ?_
        have HB9 := Lib.hid hSK.2.2.2.2
        have HNX := Lib.hid (show ∀ i, i < j + 1 → ∀ k : Nat, (nodL s 10)[i]? = some (k : Int) → satB d T ((s - 2 ^ k : Nat) : Int) = false from fun i hi k2 hk2 => by
          by_cases hij : i < j
          · exact hAll.out i hij k2 hk2
          · have e1 : i = j := Nat.le_antisymm (Nat.lt_succ_iff.1 hi) (Nat.not_lt.1 hij)
            rw [e1, HKJ.out] at hk2
            have e2 : k = k2 := Int.ofNat.inj (Option.some.inj hk2)
            rw [← e2, HQ.out]; exact HX.out)
        clear hSK hS
        go_wp2_with fail
        go_roundw
        case rel => exact ⟨j + 1, by omega, by go_num, HNX, HB9⟩
        case measure => simp [intOf]; omega
      · refine take_d (some 27) (i := 11) (v := undef) rfl rfl (by kernel_rfl) (by kernel_rfl) (by kernel_rfl) (fun _ _ _ h => h) (Or.inr ⟨by rfl, rfl⟩) (by assumption) ?_
        try simp only [Act.put, List.setIfInBounds_toArray, List.set_cons_zero, List.set_cons_succ]
        refine take_d (some 28) (i := 12) (v := undef) rfl rfl (by kernel_rfl) (by kernel_rfl) (by kernel_rfl) (fun _ _ _ h => h) (Or.inr ⟨by rfl, rfl⟩) (by assumption) ?_
        try simp only [Act.put, List.setIfInBounds_toArray, List.set_cons_zero, List.set_cons_succ]
        refine take_d (some 29) (i := 13) (v := undef) rfl rfl (by kernel_rfl) (by kernel_rfl) (by kernel_rfl) (fun _ _ _ h => h) (Or.inr ⟨by rfl, rfl⟩) (by assumption) ?_
        try simp only [Act.put, List.setIfInBounds_toArray, List.set_cons_zero, List.set_cons_succ]
        refine take_d (some 30) (i := 14) (v := undef) rfl rfl (by kernel_rfl) (by kernel_rfl) (by kernel_rfl) (fun _ _ _ h => h) (Or.inr ⟨by rfl, rfl⟩) (by assumption) ?_
        try simp only [Act.put, List.setIfInBounds_toArray, List.set_cons_zero, List.set_cons_succ]
        refine take_d (some 31) (i := 15) (v := undef) rfl rfl (by kernel_rfl) (by kernel_rfl) (by kernel_rfl) (fun _ _ _ h => h) (Or.inr ⟨by rfl, rfl⟩) (by assumption) ?_
        try simp only [Act.put, List.setIfInBounds_toArray, List.set_cons_zero, List.set_cons_succ]
        refine take_d (some 32) (i := 16) (v := undef) rfl rfl (by kernel_rfl) (by kernel_rfl) (by kernel_rfl) (fun _ _ _ h => h) (Or.inr ⟨by rfl, rfl⟩) (by assumption) ?_
        try simp only [Act.put, List.setIfInBounds_toArray, List.set_cons_zero, List.set_cons_succ]
        refine take_d (some 33) (i := 17) (v := undef) rfl rfl (by kernel_rfl) (by kernel_rfl) (by kernel_rfl) (fun _ _ _ h => h) (Or.inr ⟨by rfl, rfl⟩) (by assumption) ?_
        try simp only [Act.put, List.setIfInBounds_toArray, List.set_cons_zero, List.set_cons_succ]
        refine take_d (some 34) (i := 18) (v := undef) rfl rfl (by kernel_rfl) (by kernel_rfl) (by kernel_rfl) (fun _ _ _ h => h) (Or.inr ⟨by rfl, rfl⟩) (by assumption) ?_
        try simp only [Act.put, List.setIfInBounds_toArray, List.set_cons_zero, List.set_cons_succ]
        refine take_d (some 35) (i := 19) (v := undef) rfl rfl (by kernel_rfl) (by kernel_rfl) (by kernel_rfl) (fun _ _ _ h => h) (Or.inr ⟨by rfl, rfl⟩) (by assumption) ?_
        try simp only [Act.put, List.setIfInBounds_toArray, List.set_cons_zero, List.set_cons_succ]
        refine take_d (some 36) (i := 20) (v := ?_) rfl rfl (by kernel_rfl) (by kernel_rfl) (by kernel_rfl) (fun _ _ _ h => h) (Or.inl ⟨by rfl, ?_⟩) (by assumption) ?_
        rotate_left
        · intro w hSw; (try dsimp only at hSw); go_simp; (try with_reducible rfl)
        try simp only [Act.put, List.setIfInBounds_toArray, List.set_cons_zero, List.set_cons_succ]
        refine wpAnyH_done (by kernel_rfl) ?_ _
        refine NoPanic.normal ?_
        have HB9 := Lib.hid hSK.2.2.2.2
        have HBF := Lib.hid (bstep HBW.out HB9.out)
        have HNO := Lib.hid (show (false = true ↔ ∀ k, k < 10 → s.testBit k = true → satB d T ((s - 2 ^ k : Nat) : Int) = false) from ⟨fun h => (by cases h), fun h => by have := h k HK.out.1 HK.out.2; rw [HQ.out, HX.out] at this; cases this⟩)
        clear hSK hS
        go_wp2_with fail
        go_ret
        exact ⟨⟨false, rfl, by simpa using HNO.out⟩, HBF.out⟩
    · obtain rfl : j = m := by omega
      have HYES := Lib.hid (show (true = true ↔ ∀ k, k < 10 → s.testBit k = true → satB d T ((s - 2 ^ k : Nat) : Int) = false) from ⟨fun _ k hk hb => by
        obtain ⟨i, hi⟩ := List.mem_iff_getElem?.1 ((nodL_mem s 10 (k : Int)).2 ⟨k, rfl, hk, hb⟩)
        have hil := (List.getElem?_eq_some_iff.1 hi).1
        exact hAll.out i (by rw [HMm.out] at hil; exact hil) k hi, fun _ => rfl⟩)
      have HBF := Lib.hid (bstep HBW.out hBe.out)
      go_wp2_with fail
      go_ret
      exact ⟨⟨true, rfl, by simpa using HYES.out⟩, HBF.out⟩
end Go.Proofs.Ytnfdacfhhkahhaa
