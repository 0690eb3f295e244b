/- The walk of ClosureRestricts: the quorums in a set are those of the configuration that is restricted to the set. -/
import Derived.Test.YtkpfjflemlmhfaaRestrictRun
import Derived.Test.YtkpfjflemlmhfaaHeld
import Derived.Deep.DeepCutAuto
import Derived.Deep.CutRange
namespace Go.Proofs.Ytkpfjflemlmhfaa
set_option linter.unusedVariables false
set_option linter.unusedSimpArgs false
open Go.RowKit

theorem and_eq_iff' {a b : Nat} : a &&& b = a ↔ Sub a b := by
  constructor
  · intro h k hk
    rw [← h, Nat.testBit_and, Bool.and_eq_true] at hk
    exact hk.2
  · intro h
    apply Nat.eq_of_testBit_eq
    intro k
    rw [Nat.testBit_and]
    cases hb : a.testBit k
    · rfl
    · rw [h k hb]; rfl

/-- Two configurations in a law's world. -/
structure RW (w : World) (g : Nat) (v : Value) (ms : List Mem) (gd : Nat) (v' : Value) (rs : List Mem) (W : World) : Prop where
  c : CMade w g v ms W
  out : W.heap[gd]? = some (.cells #[v'] 27 (0, 0))
  mems : MemsAt (fun _ => True) 2 W v' rs
theorem RW.lt {w W : World} {g gd : Nat} {v v' : Value} {ms rs : List Mem} (h : RW w g v ms gd v' rs W) : gd < W.heap.size := by
  rcases Nat.lt_or_ge gd W.heap.size with h1 | h1
  · exact h1
  · have := h.out; rw [Array.getElem?_eq_none h1] at this; cases this
theorem RW.bel {w W W' : World} {g gd : Nat} {v v' : Value} {ms rs : List Mem} (h : RW w g v ms gd v' rs W) (hb : Below W.heap.size W W') : RW w g v ms gd v' rs W' :=
  ⟨h.c.bel hb, (hb.block _ h.lt).trans h.out, h.mems.below hb⟩
theorem RW.keeps {w W : World} {g gd : Nat} {v v' : Value} {ms rs : List Mem} (h : RW w g v ms gd v' rs W) : W.cell? ⟨g, 0, none⟩ = some v ∧ W.cell? ⟨gd, 0, none⟩ = some v' ∧ RW w g v ms gd v' rs W := ⟨h.c.cell, cell_of_row _ _ 0 _ _ (0, 0) h.out, h⟩
theorem RW.drew {w W : World} {g gd : Nat} {v v' : Value} {ms rs : List Mem} (h : RW w g v ms gd v' rs W) : RW w g v ms gd v' rs W.drew := h.bel ⟨rfl, rfl, rfl, Nat.le_refl _, fun _ _ => rfl⟩
theorem keepR {w W W' : World} {g gd : Nat} {v v' : Value} {ms rs : List Mem} (h : W.cell? ⟨g, 0, none⟩ = some v ∧ W.cell? ⟨gd, 0, none⟩ = some v' ∧ RW w g v ms gd v' rs W) (hb : Below W.heap.size W W') : W'.cell? ⟨g, 0, none⟩ = some v ∧ W'.cell? ⟨gd, 0, none⟩ = some v' ∧ RW w g v ms gd v' rs W' := (h.2.2.bel hb).keeps
theorem memsR {w W : World} {g gd : Nat} {v v' : Value} {ms rs : List Mem} (h : W.cell? ⟨g, 0, none⟩ = some v ∧ W.cell? ⟨gd, 0, none⟩ = some v' ∧ RW w g v ms gd v' rs W) : MemsAt (fun _ => True) 2 W v' rs := h.2.2.mems
theorem memsRc {w W : World} {g gd : Nat} {v v' : Value} {ms rs : List Mem} (h : W.cell? ⟨g, 0, none⟩ = some v ∧ W.cell? ⟨gd, 0, none⟩ = some v' ∧ RW w g v ms gd v' rs W) : MemsAt (fun b => w.heap.size < b) 2 W v ms := h.2.2.c.mems

set_option maxRecDepth 100000 in
set_option maxHeartbeats 4000000 in
theorem walkClosureRestricts (a0 : Option Addr) (len0 cap0 : Nat) (z0 : List Int) (w : World) (w0 : IsRow .i64 w a0 len0 cap0 z0) :
    Calls Try.prog 5 #[.slice a0 len0 cap0] w fun e w' => e = .returned (.bool true) ∧ Below w.heap.size w w' := by
  have HR := Lib.hid w0
  clear w0
  go_enter Try.func5, Try.ntmps5
  go_wp2_with fail
  refine (TNew_run _ _ _ _ _ HR.out).mono ?_
  rintro e v0 ⟨rfl, hs0, hb0⟩
  have HS0 := Lib.hid hs0
  have HB0 := Lib.hid hb0
  have hsl := hs0.lt
  clear hs0 hb0
  go_wp2_with fail
  refine (config_run _ 8 (by omega) (by omega) _ HS0.out).mono ?_
  rintro e v2 ⟨cv, ms, rfl, hl1, hl2, hM, hok, hs2, hg2⟩
  have hM0 := id hM
  obtain ⟨A, c, hcv, _⟩ := hM0
  obtain ⟨L, hL⟩ : ∃ L, ms.length = L := ⟨_, rfl⟩
  rw [hL] at hcv
  subst hcv
  have hba := balloc (bref v2) (.cells #[.slice A L c] 27)
  have HM := Lib.hid (show CMade w v2.heap.size (.slice A L c) ms (v2.alloc (.cells #[.slice A L c] 27)) from
    ⟨hs2.alloc _, alloc_at rfl, (hM.both (Q := fun b => w.heap.size < b) (fun _ _ _ => rfl) (fun k _ hk => by omega)).below hba, hs2.lt, bstep (bgrownC HB0.out hg2 (Nat.le_refl _)) hba⟩)
  have HL := Lib.hid hL
  have hl10 : ms.length ≤ 10 := by omega
  clear hM hok hs2 hg2 hba HS0 HB0 hl1 hL
  go_upto_region 3 with fail
  generalize v2.alloc (.cells #[.slice A L c] 27) = W1 at *
  generalize v2.heap.size = g at *
  have c0 := HM.out.cell
  go_wp2_with fail
  refine (TN_run _ _ _ (by omega) (by omega) HM.out.tape).mono ?_
  rintro e W2 ⟨r, hr0, hr1, rfl, hs2, hg2⟩
  obtain ⟨x, rfl⟩ := Int.eq_ofNat_of_zero_le hr0
  have HM2 := Lib.hid (HM.out.grown hs2 hg2)
  clear hs2 hg2 HM c0
  go_wp2_with fail
  refine (TN_run _ _ _ (by omega) (by omega) HM2.out.tape).mono ?_
  rintro e W3 ⟨r, hr0', hr1', rfl, hs3, hg3⟩
  obtain ⟨y, rfl⟩ := Int.eq_ofNat_of_zero_le hr0'
  have HM3 := Lib.hid (HM2.out.grown hs3 hg3)
  clear hs3 hg3 HM2
  have hxl : x < 1024 := by omega
  have hyl : y < 1024 := by omega
  have c0 := HM3.out.cell
  go_wp2_with fail
  refine (restrict_run _ 1 ms _ x _ hl10 hxl HM3.out.mems).mono ?_
  rintro e W4 ⟨v', rfl, hR, hb4⟩
  have HRG := Lib.hid (fun (H G : Nat) (hH : H < 1024) (hG : G < 1024) (h1 : IsGr 2 (restM x ms ms.length) (y &&& declS (restM x ms ms.length) (restM x ms ms.length).length) H) (h2 : IsGr 2 ms ((x &&& y) &&& declS ms ms.length) G) => by
    rw [restM_len, restM_decl x ms _ rfl _ (Nat.le_refl _)] at h1
    exact (restM_gr hl10 hH hG h1 h2 : H = G))
  have HRQ := Lib.hid (show (y ≠ 0 ∧ Sub y (declS (restM x ms ms.length) (restM x ms ms.length).length) ∧ Closed 2 (restM x ms ms.length) y) ↔ ((y ≠ 0 ∧ Sub y (declS ms ms.length) ∧ Closed 2 ms y) ∧ Sub y x) by
    rw [restM_len, restM_decl x ms _ rfl _ (Nat.le_refl _)]
    constructor
    · rintro ⟨h0, h1, h2⟩
      exact ⟨⟨h0, (sub_and.1 h1).1, (restM_closed hl10 hyl (sub_and.1 h1).2).1 h2⟩, (sub_and.1 h1).2⟩
    · rintro ⟨⟨h0, h1, h2⟩, h3⟩
      exact ⟨h0, sub_and.2 ⟨h1, h3⟩, (restM_closed hl10 hyl h3).2 h2⟩)
  have HRL := Lib.hid (show (restM x ms ms.length).length = L by rw [restM_len]; exact HL.out)
  generalize restM x ms ms.length = rs at *
  obtain ⟨A', c', hv'⟩ : ∃ A' c', v' = .slice A' L c' := by
    obtain ⟨A', c', h1, _⟩ := hR
    exact ⟨A', c', by rw [h1, HRL.out]⟩
  subst hv'
  have hb5 := balloc hb4 (.cells #[.slice A' L c'] 27)
  have HW := Lib.hid (show RW w g (.slice A L c) ms W4.heap.size (.slice A' L c') rs (W4.alloc (.cells #[.slice A' L c'] 27)) from
    ⟨HM3.out.bel hb5, alloc_at rfl, hR.below (balloc (bref W4) _)⟩)
  clear hR hb4 hb5 HM3 c0
  have hrl : rs.length ≤ 10 := by have := HRL.out; have := HL.out; omega
  have hxy := i64_and_nat x y (by omega) (by omega)
  have key : (x &&& y = y ∧ (∀ b : Bool, (b = true ↔ y ≠ 0 ∧ Sub y (declS rs rs.length) ∧ Closed 2 rs y) → b = true) ∧ (∀ b : Bool, (b = true ↔ y ≠ 0 ∧ Sub y (declS ms ms.length) ∧ Closed 2 ms y) → b = true)) ∨
      (((x &&& y : Nat) : Int) == (y : Int)) = false ∧ (∀ b : Bool, (b = true ↔ y ≠ 0 ∧ Sub y (declS rs rs.length) ∧ Closed 2 rs y) → b = false) ∧ (∀ b : Bool, (b = true ↔ y ≠ 0 ∧ Sub y (declS ms ms.length) ∧ Closed 2 ms y) → b = true) ∨
      0 ≤ y ∧ (∀ b : Bool, (b = true ↔ y ≠ 0 ∧ Sub y (declS rs rs.length) ∧ Closed 2 rs y) → b = false) ∧ (∀ b : Bool, (b = true ↔ y ≠ 0 ∧ Sub y (declS ms ms.length) ∧ Closed 2 ms y) → b = false) := by
    rw [HRQ.out]
    by_cases hq : y ≠ 0 ∧ Sub y (declS ms ms.length) ∧ Closed 2 ms y
    · by_cases hs : Sub y x
      · exact .inl ⟨by rw [Nat.and_comm]; exact and_eq_iff'.2 hs, fun b h => h.2 ⟨hq, hs⟩, fun b h => h.2 hq⟩
      · refine .inr (.inl ⟨?_, fun b h => ?_, fun b h => h.2 hq⟩)
        · rw [beq_eq_false_iff_ne]
          intro h
          exact hs (and_eq_iff'.1 (by rw [Nat.and_comm]; omega))
        · cases b
          · rfl
          · exact (hs (h.1 rfl).2).elim
    · refine .inr (.inr ⟨Nat.zero_le _, fun b h => ?_, fun b h => ?_⟩)
      · cases b
        · rfl
        · exact (hq (h.1 rfl).1).elim
      · cases b
        · rfl
        · exact (hq (h.1 rfl)).elim
  have hzl : x &&& y < 1024 := Nat.lt_of_le_of_lt Nat.and_le_left hxl
  go_upto_region 5 with fail
  generalize W4.alloc (.cells #[.slice A' L c'] 27) = W5 at *
  generalize W4.heap.size = gd at *
  generalize hz : x &&& y = z at *
  clear hz
  have hS := Lib.hid HW.out.drew.keeps
  rcases key with ⟨hz, h1, h2⟩ | ⟨hz, h1, h2⟩ | ⟨hz, h1, h2⟩
  all_goals
    have H1 := Lib.hid h1
    have H2 := Lib.hid h2
    clear h1 h2
    try subst hz
  rotate_right
  · refine wp_region_noPanic ?_
    refine wp_region_held_drew (S := (fun W => W.cell? ⟨g, 0, none⟩ = some (.slice A L c) ∧ W.cell? ⟨gd, 0, none⟩ = some (.slice A' L c') ∧ RW w g (.slice A L c) ms gd (.slice A' L c') rs W)) (by kernel_rfl) hS.out (fun hHeld => ?_)
    refine take_d (some 19) (i := 0) (v := ?_) rfl rfl (by kernel_rfl) (by kernel_rfl) (by kernel_rfl) (fun _ _ _ h => h) (Or.inl ⟨by rfl, ?_⟩) (by assumption) ?_
    rotate_left
    · intro w hSw; (try dsimp only at hSw); go_simp; (try with_reducible rfl)
    try simp only [Act.put, List.setIfInBounds_toArray, List.set_cons_zero, List.set_cons_succ]
    refine take_d (some 20) (i := 1) (v := ?_) rfl rfl (by kernel_rfl) (by kernel_rfl) (by kernel_rfl) (fun _ _ _ h => h) (Or.inl ⟨by rfl, ?_⟩) (by assumption) ?_
    rotate_left
    · intro w hSw; (try dsimp only at hSw); go_simp; (try with_reducible rfl)
    try simp only [Act.put, List.setIfInBounds_toArray, List.set_cons_zero, List.set_cons_succ]
    refine take_d (some 22) (i := 3) (v := ?_) rfl rfl (by kernel_rfl) (by kernel_rfl) (by kernel_rfl) (fun _ _ _ h => h) (Or.inl ⟨by rfl, ?_⟩) (by assumption) ?_
    rotate_left
    · intro w hSw; (try dsimp only at hSw); go_simp; (try with_reducible rfl)
    try simp only [Act.put, List.setIfInBounds_toArray, List.set_cons_zero, List.set_cons_succ]
    refine take_d (some 23) (i := 4) (v := ?_) rfl rfl (by kernel_rfl) (by kernel_rfl) (by kernel_rfl) (fun _ _ _ h => h) (Or.inl ⟨by rfl, ?_⟩) (by assumption) ?_
    rotate_left
    · intro w hSw; (try dsimp only at hSw); go_simp; (try with_reducible rfl)
    try simp only [Act.put, List.setIfInBounds_toArray, List.set_cons_zero, List.set_cons_succ]
    refine take_d (some 24) (i := 5) (v := ?_) rfl rfl (by kernel_rfl) (by kernel_rfl) (by kernel_rfl) (fun _ _ _ h => h) (Or.inl ⟨by rfl, ?_⟩) (by assumption) ?_
    rotate_left
    · intro w hSw; (try dsimp only at hSw); go_simp; (try with_reducible rfl)
    try simp only [Act.put, List.setIfInBounds_toArray, List.set_cons_zero, List.set_cons_succ]
    refine take_d (some 25) (i := 6) (v := ?_) rfl rfl (by kernel_rfl) (by kernel_rfl) (by kernel_rfl) (fun _ _ _ h => h) (Or.inl ⟨by rfl, ?_⟩) (by assumption) ?_
    rotate_left
    · intro w hSw; (try dsimp only at hSw); go_simp; (try with_reducible rfl)
    try simp only [Act.put, List.setIfInBounds_toArray, List.set_cons_zero, List.set_cons_succ]
    refine wpAnyH_ready (rs := [2]) (by kernel_rfl) (by simp) ?_
    refine AllReadyH.cons rfl (fun K hK => ?_) AllReadyH.nil
    go_simp
    refine (greatest_run _ 2 rs _ _ _ (by exact hrl) (by assumption) (by exact memsR (by assumption))).mono ?_; rintro e WK ⟨H, rfl, hHl, hH, hbK⟩; have hSK := keepR (by assumption) hbK
    go_wp2_with fail
    refine hK.out _ _ ?_ (fun hHeld => ?_)
    · exact hSK
    clear hK K
    try simp only [Act.put, List.setIfInBounds_toArray, List.set_cons_zero, List.set_cons_succ]
    refine wpAnyH_ready (rs := [7]) (by kernel_rfl) (by simp) ?_
    refine AllReadyH.cons rfl (fun K hK => ?_) AllReadyH.nil
    go_simp
    refine (greatest_run _ 2 ms _ _ _ (by exact hl10) (by assumption) (by exact memsRc (by assumption))).mono ?_; rintro e WK ⟨G, rfl, hGl, hG, hbK⟩; have hSK := keepR (by assumption) hbK; obtain rfl : H = G := HRG.out H G hHl hGl hH hG
    go_wp2_with fail
    refine hK.out _ _ ?_ (fun hHeld => ?_)
    · exact hSK
    clear hK K
    try simp only [Act.put, List.setIfInBounds_toArray, List.set_cons_zero, List.set_cons_succ]
    refine take_d (some 27) (i := 8) (v := ?_) rfl rfl (by kernel_rfl) (by kernel_rfl) (by kernel_rfl) (fun _ _ _ h => h) (Or.inl ⟨by rfl, ?_⟩) (by assumption) ?_
    rotate_left
    · intro w hSw; (try dsimp only at hSw); go_simp; (try with_reducible rfl)
    try simp only [Act.put, List.setIfInBounds_toArray, List.set_cons_zero, List.set_cons_succ]
    refine take_d (some 28) (i := 9) (v := ?_) rfl rfl (by kernel_rfl) (by kernel_rfl) (by kernel_rfl) (fun _ _ _ h => h) (Or.inl ⟨by rfl, ?_⟩) (by assumption) ?_
    rotate_left
    · intro w hSw; (try dsimp only at hSw); go_simp; (try with_reducible rfl)
    try simp only [Act.put, List.setIfInBounds_toArray, List.set_cons_zero, List.set_cons_succ]
    refine take_d (some 29) (i := 10) (v := ?_) rfl rfl (by kernel_rfl) (by kernel_rfl) (by kernel_rfl) (fun _ _ _ h => h) (Or.inl ⟨by rfl, ?_⟩) (by assumption) ?_
    rotate_left
    · intro w hSw; (try dsimp only at hSw); go_simp; (try with_reducible rfl)
    try simp only [Act.put, List.setIfInBounds_toArray, List.set_cons_zero, List.set_cons_succ]
    refine take_d (some 30) (i := 11) (v := ?_) rfl rfl (by kernel_rfl) (by kernel_rfl) (by kernel_rfl) (fun _ _ _ h => h) (Or.inl ⟨by rfl, ?_⟩) (by assumption) ?_
    rotate_left
    · intro w hSw; (try dsimp only at hSw); go_simp; (try with_reducible rfl)
    try simp only [Act.put, List.setIfInBounds_toArray, List.set_cons_zero, List.set_cons_succ]
    refine take_d (some 32) (i := 13) (v := ?_) rfl rfl (by kernel_rfl) (by kernel_rfl) (by kernel_rfl) (fun _ _ _ h => h) (Or.inl ⟨by rfl, ?_⟩) (by assumption) ?_
    rotate_left
    · intro w hSw; (try dsimp only at hSw); go_simp; (try with_reducible rfl)
    try simp only [Act.put, List.setIfInBounds_toArray, List.set_cons_zero, List.set_cons_succ]
    refine take_d (some 33) (i := 14) (v := ?_) rfl rfl (by kernel_rfl) (by kernel_rfl) (by kernel_rfl) (fun _ _ _ h => h) (Or.inl ⟨by rfl, ?_⟩) (by assumption) ?_
    rotate_left
    · intro w hSw; (try dsimp only at hSw); go_simp; (try with_reducible rfl)
    try simp only [Act.put, List.setIfInBounds_toArray, List.set_cons_zero, List.set_cons_succ]
    refine wpAnyH_ready (rs := [12]) (by kernel_rfl) (by simp) ?_
    refine AllReadyH.cons rfl (fun K hK => ?_) AllReadyH.nil
    go_simp
    refine (quorum_run _ 2 rs _ _ _ (by exact hrl) (by exact hyl) (by exact memsR (by assumption))).mono ?_; rintro e WK ⟨b, rfl, hb, hbK⟩; have hSK := keepR (by assumption) hbK; obtain rfl := H1.out b hb; clear hb
    go_wp2_with fail
    refine hK.out _ _ ?_ (fun hHeld => ?_)
    · exact hSK
    clear hK K
    try simp only [Act.put, List.setIfInBounds_toArray, List.set_cons_zero, List.set_cons_succ]
    refine wpAnyH_ready (rs := [15]) (by kernel_rfl) (by simp) ?_
    refine AllReadyH.cons rfl (fun K hK => ?_) AllReadyH.nil
    go_simp
    refine (quorum_run _ 2 ms _ _ _ (by exact hl10) (by exact hyl) (by exact memsRc (by assumption))).mono ?_; rintro e WK ⟨b, rfl, hb, hbK⟩; have hSK := keepR (by assumption) hbK; obtain rfl := H2.out b hb; clear hb
    go_wp2_with fail
    refine hK.out _ _ ?_ (fun hHeld => ?_)
    · exact hSK
    clear hK K
    try simp only [Act.put, List.setIfInBounds_toArray, List.set_cons_zero, List.set_cons_succ]
    refine take_d (some 35) (i := 16) (v := ?_) rfl rfl (by kernel_rfl) (by kernel_rfl) (by kernel_rfl) (fun _ _ _ h => h) (Or.inl ⟨by rfl, ?_⟩) (by assumption) ?_
    rotate_left
    · intro w hSw; (try dsimp only at hSw); go_simp; (try with_reducible rfl)
    try simp only [Act.put, List.setIfInBounds_toArray, List.set_cons_zero, List.set_cons_succ]
    refine take_d (some 36) (i := 17) (v := undef) rfl rfl (by kernel_rfl) (by kernel_rfl) (by kernel_rfl) (fun _ _ _ h => h) (Or.inr ⟨by rfl, rfl⟩) (by assumption) ?_
    try simp only [Act.put, List.setIfInBounds_toArray, List.set_cons_zero, List.set_cons_succ]
    refine take_d (some 37) (i := 18) (v := undef) rfl rfl (by kernel_rfl) (by kernel_rfl) (by kernel_rfl) (fun _ _ _ h => h) (Or.inr ⟨by rfl, rfl⟩) (by assumption) ?_
    try simp only [Act.put, List.setIfInBounds_toArray, List.set_cons_zero, List.set_cons_succ]
    refine take_d (some 38) (i := 19) (v := undef) rfl rfl (by kernel_rfl) (by kernel_rfl) (by kernel_rfl) (fun _ _ _ h => h) (Or.inr ⟨by rfl, rfl⟩) (by assumption) ?_
    try simp only [Act.put, List.setIfInBounds_toArray, List.set_cons_zero, List.set_cons_succ]
    refine take_d (some 39) (i := 20) (v := undef) rfl rfl (by kernel_rfl) (by kernel_rfl) (by kernel_rfl) (fun _ _ _ h => h) (Or.inr ⟨by rfl, rfl⟩) (by assumption) ?_
    try simp only [Act.put, List.setIfInBounds_toArray, List.set_cons_zero, List.set_cons_succ]
    refine take_d (some 40) (i := 21) (v := undef) rfl rfl (by kernel_rfl) (by kernel_rfl) (by kernel_rfl) (fun _ _ _ h => h) (Or.inr ⟨by rfl, rfl⟩) (by assumption) ?_
    try simp only [Act.put, List.setIfInBounds_toArray, List.set_cons_zero, List.set_cons_succ]
    refine take_d (some 41) (i := 22) (v := ?_) rfl rfl (by kernel_rfl) (by kernel_rfl) (by kernel_rfl) (fun _ _ _ h => h) (Or.inl ⟨by rfl, ?_⟩) (by assumption) ?_
    rotate_left
    · intro w hSw; (try dsimp only at hSw); go_simp; (try with_reducible rfl)
    try simp only [Act.put, List.setIfInBounds_toArray, List.set_cons_zero, List.set_cons_succ]
    refine take_d (some 42) (i := 23) (v := ?_) rfl rfl (by kernel_rfl) (by kernel_rfl) (by kernel_rfl) (fun _ _ _ h => h) (Or.inl ⟨by rfl, ?_⟩) (by assumption) ?_
    rotate_left
    · intro w hSw; (try dsimp only at hSw); go_simp; (try with_reducible rfl)
    try simp only [Act.put, List.setIfInBounds_toArray, List.set_cons_zero, List.set_cons_succ]
    refine take_d (some 43) (i := 24) (v := ?_) rfl rfl (by kernel_rfl) (by kernel_rfl) (by kernel_rfl) (fun _ _ _ h => h) (Or.inl ⟨by rfl, ?_⟩) (by assumption) ?_
    rotate_left
    · intro w hSw; (try dsimp only at hSw); go_simp; (try with_reducible rfl)
    try simp only [Act.put, List.setIfInBounds_toArray, List.set_cons_zero, List.set_cons_succ]
    refine take_d (some 44) (i := 25) (v := ?_) rfl rfl (by kernel_rfl) (by kernel_rfl) (by kernel_rfl) (fun _ _ _ h => h) (Or.inl ⟨by rfl, ?_⟩) (by assumption) ?_
    rotate_left
    · intro w hSw; (try dsimp only at hSw); go_simp; (try with_reducible rfl)
    try simp only [Act.put, List.setIfInBounds_toArray, List.set_cons_zero, List.set_cons_succ]
    refine wpAnyH_ready (rs := [26]) (by kernel_rfl) (by simp) ?_
    refine AllReadyH.cons rfl (fun K hK => ?_) AllReadyH.nil
    go_simp
    refine (awake09 _).mono ?_; rintro e WK ⟨rfl, hbK⟩; have hSK := keepR (by assumption) hbK
    go_wp2_with fail
    refine hK.out _ _ ?_ (fun hHeld => ?_)
    · exact hSK
    clear hK K
    try simp only [Act.put, List.setIfInBounds_toArray, List.set_cons_zero, List.set_cons_succ]
    refine take_d (some 46) (i := 27) (v := ?_) rfl rfl (by kernel_rfl) (by kernel_rfl) (by kernel_rfl) (fun _ _ _ h => h) (Or.inl ⟨by rfl, ?_⟩) (by assumption) ?_
    rotate_left
    · intro w hSw; (try dsimp only at hSw); go_simp; (try with_reducible rfl)
    try simp only [Act.put, List.setIfInBounds_toArray, List.set_cons_zero, List.set_cons_succ]
    refine take_d (some 2) (i := 28) (v := ?_) rfl rfl (by kernel_rfl) (by kernel_rfl) (by kernel_rfl) (fun _ _ _ h => h) (Or.inl ⟨by rfl, ?_⟩) (by assumption) ?_
    rotate_left
    · intro w hSw; (try dsimp only at hSw); go_simp; (try with_reducible rfl)
    try simp only [Act.put, List.setIfInBounds_toArray, List.set_cons_zero, List.set_cons_succ]
    refine wpAnyH_done (by kernel_rfl) ?_ _
    refine NoPanic.normal ?_
    have HZ := Lib.hid hSK.2.2.c.below
    clear hSK
    go_wp2_with fail
    go_ret
    exact ⟨rfl, HZ.out⟩
  all_goals
    go_region_held3 (fun W => W.cell? ⟨g, 0, none⟩ = some (.slice A L c) ∧ W.cell? ⟨gd, 0, none⟩ = some (.slice A' L c') ∧ RW w g (.slice A L c) ms gd (.slice A' L c') rs W) (first | exact hS.out | exact hSK | exact keepR (by assumption) hbK | go_keep)
      (first
        | (go_at_call_of 14 A'; refine (greatest_run _ 2 rs _ _ _ (by exact hrl) (by assumption) (by exact memsR (by assumption))).mono ?_; rintro e WK ⟨H, rfl, hHl, hH, hbK⟩; have hSK := keepR (by assumption) hbK)
        | (go_at_call_of 14 A; refine (greatest_run _ 2 ms _ _ _ (by exact hl10) (by assumption) (by exact memsRc (by assumption))).mono ?_; rintro e WK ⟨G, rfl, hGl, hG, hbK⟩; have hSK := keepR (by assumption) hbK; obtain rfl : H = G := HRG.out H G hHl hGl hH hG)
        | (go_at_call_of 16 A'; refine (quorum_run _ 2 rs _ _ _ (by exact hrl) (by exact hyl) (by exact memsR (by assumption))).mono ?_; rintro e WK ⟨b, rfl, hb, hbK⟩; have hSK := keepR (by assumption) hbK; obtain rfl := H1.out b hb; clear hb)
        | (go_at_call_of 16 A; refine (quorum_run _ 2 ms _ _ _ (by exact hl10) (by exact hyl) (by exact memsRc (by assumption))).mono ?_; rintro e WK ⟨b, rfl, hb, hbK⟩; have hSK := keepR (by assumption) hbK; obtain rfl := H2.out b hb; clear hb)
        | (go_at_call 17; refine (awake09 _).mono ?_; rintro e WK ⟨rfl, hbK⟩; have hSK := keepR (by assumption) hbK))
    have HZ := Lib.hid hSK.2.2.c.below
    clear hSK
    go_wp2_with fail
    go_ret
    exact ⟨rfl, HZ.out⟩
end Go.Proofs.Ytkpfjflemlmhfaa
