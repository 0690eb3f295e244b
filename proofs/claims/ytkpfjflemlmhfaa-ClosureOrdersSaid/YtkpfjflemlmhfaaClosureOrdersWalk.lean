/- The walk of ClosureOrders: every right order of elimination is accepted and leads to the greatest quorum, and no shorter beginning of it is accepted. -/
import Derived.Test.YtkpfjflemlmhfaaOrdersMath
import Derived.Test.YtkpfjflemlmhfaaHeld
import Derived.Deep.DeepCutAuto
import Derived.Deep.CutRange
namespace Go.Proofs.Ytkpfjflemlmhfaa
set_option linter.unusedVariables false
set_option linter.unusedSimpArgs false
open Go.RowKit

theorem chk_ok {d : Nat} {ms : List Mem} {r : Nat} {P Q : Prop} (h : Closed d ms r ∧ P ∨ (∃ k, k < ms.length ∧ uns d ms r k = true) ∧ Q) (hc : Closed d ms r) : P := by
  rcases h with ⟨_, h⟩ | ⟨⟨k, hk, hu⟩, _⟩
  · exact h
  · rw [hc k hk] at hu; cases hu
theorem chk_bad {d : Nat} {ms : List Mem} {r k : Nat} {P Q : Prop} (h : Closed d ms r ∧ P ∨ (∃ k, k < ms.length ∧ uns d ms r k = true) ∧ Q) (hk : k < ms.length) (hu : uns d ms r k = true) : Q := by
  rcases h with ⟨hc, _⟩ | ⟨_, h⟩
  · rw [hc k hk] at hu; cases hu
  · exact h
theorem keepL {w W W' : World} {g : Nat} {v u : Value} {ms : List Mem} {P : Nat → Prop} {l : List Int} (h : W.cell? ⟨g, 0, none⟩ = some v ∧ CMade w g v ms W ∧ NodesAt P W u l) (hb : Below W.heap.size W W') : W'.cell? ⟨g, 0, none⟩ = some v ∧ CMade w g v ms W' ∧ NodesAt P W' u l :=
  ⟨(h.2.1.bel hb).cell, h.2.1.bel hb, nodes_bel h.2.2 hb⟩
theorem memsL {w W : World} {g : Nat} {v u : Value} {ms : List Mem} {P : Nat → Prop} {l : List Int} (h : W.cell? ⟨g, 0, none⟩ = some v ∧ CMade w g v ms W ∧ NodesAt P W u l) : MemsAt (fun b => w.heap.size < b) 2 W v ms := h.2.1.mems
theorem nodesL {w W : World} {g : Nat} {v u : Value} {ms : List Mem} {P : Nat → Prop} {l : List Int} (h : W.cell? ⟨g, 0, none⟩ = some v ∧ CMade w g v ms W ∧ NodesAt P W u l) : NodesAt P W u l := h.2.2
theorem left_sub64 (r k : Nat) (hr : r < 1024) (hk : k < 10) (hb : r.testBit k = true) : wrap64 ((r : Int) - wrap64 (2 ^ k)) = ((r - 2 ^ k : Nat) : Int) := by
  have all : ∀ r : Fin 1024, ∀ k : Fin 10, r.val.testBit k.val = true → wrap64 ((r.val : Int) - wrap64 (2 ^ k.val)) = ((r.val - 2 ^ k.val : Nat) : Int) := by decide +kernel
  exact all ⟨r, hr⟩ ⟨k, hk⟩ hb
theorem sub_lt {a b n : Nat} (h : Sub a b) (hb : b < n) : a < n := by
  have e : a &&& b = a := by
    apply Nat.eq_of_testBit_eq
    intro k
    rw [Nat.testBit_and]
    cases ha : a.testBit k
    · rfl
    · rw [h k ha]; rfl
  rw [← e]
  exact Nat.lt_of_le_of_lt Nat.and_le_right hb

set_option maxRecDepth 100000 in
set_option maxHeartbeats 4000000 in
theorem walkClosureOrders (a0 : Option Addr) (len0 cap0 : Nat) (z0 : List Int) (w : World) (w0 : IsRow .i64 w a0 len0 cap0 z0) :
    Calls Try.prog 6 #[.slice a0 len0 cap0] w fun e w' => e = .returned (.bool true) ∧ Below w.heap.size w w' := by
  obtain ⟨i0, hin, hz0, hz1, hz2⟩ := info_parts infoInt
  have HR := Lib.hid w0
  clear w0
  go_enter Try.func6, Try.ntmps6
  go_wp2_with fail
  refine (TNew_run _ _ _ _ _ HR.out).mono ?_
  rintro e v0 ⟨rfl, hs0, hb0⟩
  have HS0 := Lib.hid hs0
  have HB0 := Lib.hid hb0
  have hsl := hs0.lt
  clear hs0 hb0
  go_wp2_with fail
  refine (config_run _ 10 (by omega) (by omega) _ HS0.out).mono ?_
  rintro e v2 ⟨cv, ms, rfl, hl1, hl2, hM, hok, hs2, hg2⟩
  have hM0 := id hM
  obtain ⟨A, c, hcv, _⟩ := hM0
  obtain ⟨L, hL⟩ : ∃ L, ms.length = L := ⟨_, rfl⟩
  rw [hL] at hcv
  subst hcv
  have hba := balloc (bref v2) (.cells #[.slice A L c] 27)
  have HM := Lib.hid (show CMade w v2.heap.size (.slice A L c) ms (v2.alloc (.cells #[.slice A L c] 27)) from
    ⟨hs2.alloc _, alloc_at rfl, (hM.both (Q := fun b => w.heap.size < b) (fun _ _ _ => rfl) (fun k _ hk => by omega)).below hba, hs2.lt, bstep (bgrownC HB0.out hg2 (Nat.le_refl _)) hba⟩)
  have HL := Lib.hid hL
  have hl10 : ms.length ≤ 10 := by omega
  clear hM hok hs2 hg2 hba HS0 HB0 hl1 hL
  go_upto_region 3 with fail
  generalize v2.alloc (.cells #[.slice A L c] 27) = W1 at *
  generalize v2.heap.size = g at *
  have c0 := HM.out.cell
  go_wp2_with fail
  refine (TN_run _ _ _ (by omega) (by omega) HM.out.tape).mono ?_
  rintro e W2 ⟨r, hr0, hr1, rfl, hs2, hg2⟩
  obtain ⟨x, rfl⟩ := Int.eq_ofNat_of_zero_le hr0
  have HM2 := Lib.hid (HM.out.grown hs2 hg2)
  clear hs2 hg2 HM c0
  have hxl : x < 1024 := by omega
  have c0 := HM2.out.cell
  go_wp2_with fail
  refine (rdeclared_run _ 2 ms _ _ hl10 HM2.out.mems).mono ?_
  rintro e W3 ⟨rfl, hb3⟩
  have HM3 := Lib.hid (HM2.out.bel hb3)
  clear hb3 c0 HM2
  obtain ⟨D, hD⟩ : ∃ D, declS ms ms.length = D := ⟨_, rfl⟩
  have HD := Lib.hid hD
  have hdl := declS_lt ms ms.length hl10
  rw [hD] at hdl ⊢
  clear hD
  have HAND := Lib.hid (i64_and_nat x D (by omega) (by omega))
  have hSl : x &&& D < 1024 := Nat.lt_of_le_of_lt Nat.and_le_left hxl
  obtain ⟨S, hS⟩ : ∃ S, x &&& D = S := ⟨_, rfl⟩
  have HSS := Lib.hid hS
  rw [hS] at HAND hSl
  clear hS
  have hgW := HM3.out.lt
  have hgs := HM3.out.low
  obtain ⟨B1, hB1⟩ : ∃ B1, W3.heap.size = B1 := ⟨_, rfl⟩
  have HB1 := Lib.hid hB1
  rw [hB1] at hgW
  clear hB1
  go_wp2_with fail
  rw [HAND.out]
  go_loopw [6, 7] (fun lv gv W => ∃ (left : Nat) (gs : List Int) (gw : Value), lv = .int .i64 (left : Int) ∧ gv = gw ∧ W.ownsRow B1 3 1 gw gs.length (gs.map (Value.int .i64)) ∧ Hid (ElimAt 2 ms S gs left) ∧ Hid (TapeOk W w.heap.size) ∧ Hid (W3.grownBy W (some w.heap.size))) (fun lv _ _ => (intOf lv).toNat)
  case atStart => exact ⟨S, [], .slice none 0 0, rfl, rfl, World.ownsRow_nil _ _ _ _, Lib.hid (ElimAt.first hSl), Lib.hid HM3.out.tape, Lib.hid (World.grownBy.refl _ _)⟩
  case round =>
    obtain ⟨left, gs, gw, rfl, rfl, hown, hE, hTp, hGr⟩ := hrel
    have hC := Lib.hid (HM3.out.grown hTp.out hGr.out)
    have hsz : B1 ≤ wr.heap.size := by rw [← HB1.out]; exact hGr.out.size
    have hlen := hE.out.len
    have HOWN := Lib.hid hown
    clear hown
    have hll := hE.out.lt
    go_wp2_with fail
    refine (rnodes_run left _ hll).mono ?_
    rintro e W5 ⟨nv, rfl, hN, hb5⟩
    have HOWN5 := Lib.hid (own_bel HOWN.out hb5)
    have HC5 := Lib.hid (hC.out.bel hb5)
    have HG5 := Lib.hid (grown_trans hGr.out (grown_below (r := some w.heap.size) hb5))
    have hsz5 : B1 ≤ W5.heap.size := Nat.le_trans hsz hb5.size
    have hnl := nodL_len left 10
    obtain ⟨nl, hnq⟩ : ∃ nl, nodL left 10 = nl := ⟨_, rfl⟩
    have HNL := Lib.hid hnq
    rw [hnq] at hN hnl
    obtain ⟨An, cn, rfl, hNc⟩ := hN
    have HNC := Lib.hid hNc
    clear hb5 HOWN hC hNc hnq hTp hGr
    go_wp2_with fail
    go_loopw [8, 31] (fun cv t W => ∃ (j : Nat) (cs : List Int) (cw : Value), j ≤ nl.length ∧ cv = cw ∧ t = .int .i64 j ∧ W.ownsRow W5.heap.size 3 1 cw cs.length (cs.map (Value.int .i64)) ∧ cs.length ≤ j ∧ Hid (CanOk 2 ms left nl j cs) ∧ Hid (Below W5.heap.size W5 W)) (fun _ t _ => nl.length - (intOf t).toNat)
    case atStart => exact ⟨0, [], .slice none 0 0, by omega, rfl, rfl, World.ownsRow_nil _ _ _ _, by simp, Lib.hid ⟨fun x hx => by simp at hx, fun _ i k hi => by omega⟩, Lib.hid (bref _)⟩
    case round =>
      obtain ⟨j, cs, cw, hj, rfl, rfl, hownc, hcl, hcan, hB⟩ := hrel
      have c1 := (HC5.out.bel hB.out).cell
      by_cases hlt : j < nl.length
      · obtain ⟨b, off, rfl, _, hc⟩ := HNC.out j hlt
        have hx0 : nl[j]? = some (nl.getD j 0) := by rw [List.getD_eq_getElem?_getD, List.getElem?_eq_getElem hlt]; rfl
        obtain ⟨k, hk, hk10, hbit⟩ := (nodL_mem left 10 (nl.getD j 0)).1 (by rw [HNL.out]; exact List.mem_of_getElem? hx0)
        rw [hk] at hc hx0
        clear hk
        have HX0 := Lib.hid hx0
        clear hx0
        have hkm : k < ms.length := by
          have h1 := hE.out.sub k hbit
          rw [← HSS.out] at h1
          have h2 := (sub_and.1 (fun i (hi : (x &&& D).testBit i = true) => hi)).2 k h1
          rw [← HD.out] at h2
          exact declS_bit h2
        have hkL : k < L := by have := HL.out; omega
        obtain ⟨m, hm⟩ : ∃ m, ms[k]? = some m := ⟨_, List.getElem?_eq_getElem hkm⟩
        have d1 := (hB.out.cell (cell_lt hc)).trans hc
        have hmm := (HC5.out.bel hB.out).mems
        have hAL : (.slice A L c : Value) = .slice A ms.length c := by rw [HL.out]
        rw [hAL] at hmm
        obtain ⟨bm, om, t, A1, n1, c1', A2, n2, c2, hA, hP, hbl, e0, e1, e2, e3, hT⟩ := memBox hmm hm
        subst hA
        have htr : trOf ms k = m.2 := by unfold trOf; rw [List.getD_eq_getElem?_getD, hm]; rfl
        obtain ⟨dec, T⟩ := m
        have HUN := Lib.hid (show uns 2 ms left k = !satB 2 T (left : Int) by unfold uns; rw [htr, hasB_bit hll hk10, hbit]; rfl)
        have HTm := Lib.hid hT
        have HOC := Lib.hid hownc
        clear hm htr hT hbit hownc hmm hAL hc e0
        go_wp2_with fail
        refine (rsat_run _ 2 T _ _ _ left _ hll HTm.out).mono ?_
        rintro e W6 ⟨rfl, hb6⟩
        have HB6 := Lib.hid (bstep hB.out hb6)
        have hown6 := own_bel HOC.out hb6
        have hbs := HB6.out.size
        clear hb6 c1 HOC
        cases hsat : satB 2 T (left : Int)
        · have HU := Lib.hid (show uns 2 ms left k = true by rw [HUN.out, hsat]; rfl)
          clear hsat
          go_wp2_with (at_builtin; refine wpList_append_own _ rfl _ _ 22 rfl W5.heap.size 3 i0 (.int .i64 0) 1 8 Try.underlying22 hin hz0 hz1 hz2 rfl (by decide) _ _ _ rfl (hown6.alloc _) ⟨W6.heap.size, 0, none⟩ 1 1 [.int .i64 (k : Int)] rfl rfl (cell_one_new _ _ _) (fun u hu => by simp at hu; subst hu; rfl) (by unfold maxLen; omega) (by omega) (by simp; omega) ?_; intro v' w1 hown' hgrow hnil)
          have HO := Lib.hid (own_snoc hown')
          have HB7 := Lib.hid (Below.grown (balloc HB6.out (.cells #[.int .i64 (k : Int)] 3)) hgrow (by simp; omega) (fun j hj => (hown6.lt j hj).1))
          clear hown' hgrow hnil hown6
          go_roundw
          case rel => exact ⟨j + 1, cs ++ [(k : Int)], _, by omega, rfl, by go_num, by simpa using HO.out, by simp; omega, Lib.hid (hcan.out.add hkm HU.out), HB7⟩
          case measure => simp [intOf]; omega
        · have HU := Lib.hid (show uns 2 ms left k = false by rw [HUN.out, hsat]; rfl)
          clear hsat
          have HO := Lib.hid hown6
          clear hown6
          go_wp2_with fail
          go_roundw
          case rel => exact ⟨j + 1, cs, _, by omega, rfl, by go_num, HO.out, by omega, Lib.hid (hcan.out.skip HX0.out HU.out), HB6⟩
          case measure => simp [intOf]; omega
      · obtain rfl : j = nl.length := by omega
        have HC7 := Lib.hid (HC5.out.bel hB.out)
        have HOWN7 := Lib.hid (own_bel HOWN5.out hB.out)
        have hsz7 : B1 ≤ wr.heap.size := Nat.le_trans hsz5 hB.out.size
        have HG7 := Lib.hid (grown_trans HG5.out (grown_below (r := some w.heap.size) hB.out))
        by_cases hcs : cs = []
        · subst hcs
          have hclosed := CanOk.closed hl10 hll (by rw [HNL.out]; exact hcan.out)
          have HCL := Lib.hid hclosed
          have HOWN7' := HOWN7.out.2
          obtain ⟨Ac, cc, rfl⟩ := own_slice hownc
          obtain ⟨Al, cl, rfl⟩ := own_slice HOWN7.out
          have HNl := Lib.hid (NodesAt.of_own HOWN7.out)
          have hcap : gs.length ≤ cl := by
            rcases HOWN7' with ⟨e, h0⟩ | ⟨g', cap, cur, e, _, _, h1, _⟩
            · omega
            · cases e; exact h1
          have hel := hE.out.elim
          rw [← HSS.out, ← HD.out] at hel
          have HEL := Lib.hid hel
          have HGRL := Lib.hid (show IsGr 2 ms (x &&& declS ms ms.length) left by rw [HD.out, HSS.out]; exact hE.out.gr hclosed)
          clear hclosed hownc HOWN7' hel HC5 HG5 HOWN5
          go_wp2_with fail
          refine (check_run _ _ 2 ms _ _ gs x left _ hl10 hxl (by omega) HC7.out.mems HNl.out HEL.out).mono ?_
          rintro e W8 ⟨h8, hb8⟩
          obtain rfl := chk_ok h8 HCL.out
          have HC8 := Lib.hid (HC7.out.bel hb8)
          have HNl8 := Lib.hid (nodes_bel HNl.out hb8)
          clear h8 hb8 c1 HC7 HNl HG7
          go_upto_region 18 with fail
          have hS := Lib.hid (keepL ⟨HC8.out.cell, HC8.out, HNl8.out⟩ (⟨rfl, rfl, rfl, Nat.le_refl _, fun _ _ => rfl⟩ : Below W8.heap.size W8 W8.drew))
          refine wp_region_noPanic ?_
          refine wp_region_held_drew (S := fun W => W.cell? ⟨g, 0, none⟩ = some (.slice A L c) ∧ CMade w g (.slice A L c) ms W ∧ NodesAt (fun b => B1 ≤ b) W (.slice Al gs.length cl) gs) (by kernel_rfl) hS.out (fun hHeld => ?_)
          refine take_d (some 75) (i := 0) (v := ?_) rfl rfl (by kernel_rfl) (by kernel_rfl) (by kernel_rfl) (fun _ _ _ h => h) (Or.inl ⟨by rfl, ?_⟩) (by assumption) ?_
          rotate_left
          · intro w hSw; (try dsimp only at hSw); go_simp; (try with_reducible rfl)
          try simp only [Act.put, List.setIfInBounds_toArray, List.set_cons_zero, List.set_cons_succ]
          refine take_d (some 76) (i := 1) (v := ?_) rfl rfl (by kernel_rfl) (by kernel_rfl) (by kernel_rfl) (fun _ _ _ h => h) (Or.inl ⟨by rfl, ?_⟩) (by assumption) ?_
          rotate_left
          · intro w hSw; (try dsimp only at hSw); go_simp; (try with_reducible rfl)
          try simp only [Act.put, List.setIfInBounds_toArray, List.set_cons_zero, List.set_cons_succ]
          refine take_d (some 77) (i := 2) (v := ?_) rfl rfl (by kernel_rfl) (by kernel_rfl) (by kernel_rfl) (fun _ _ _ h => h) (Or.inl ⟨by rfl, ?_⟩) (by assumption) ?_
          rotate_left
          · intro w hSw; (try dsimp only at hSw); go_simp; (try with_reducible rfl)
          try simp only [Act.put, List.setIfInBounds_toArray, List.set_cons_zero, List.set_cons_succ]
          refine take_d (some 78) (i := 3) (v := ?_) rfl rfl (by kernel_rfl) (by kernel_rfl) (by kernel_rfl) (fun _ _ _ h => h) (Or.inl ⟨by rfl, ?_⟩) (by assumption) ?_
          rotate_left
          · intro w hSw; (try dsimp only at hSw); go_simp; (try with_reducible rfl)
          try simp only [Act.put, List.setIfInBounds_toArray, List.set_cons_zero, List.set_cons_succ]
          refine wpAnyH_ready (rs := [4]) (by kernel_rfl) (by simp) ?_
          refine AllReadyH.cons rfl (fun K hK => ?_) AllReadyH.nil
          go_simp
          refine (elimination_run _ 2 ms _ x _ hl10 hxl (memsL (by assumption))).mono ?_; rintro e WK ⟨gv, gs2, G2, rfl, hN2, hlen2, hel2, hgr2, hbK⟩; have hSK := keepL (by assumption) hbK
          go_wp2_with fail
          refine hK.out _ _ ?_ (fun hHeld => ?_)
          · exact hSK
          clear hK K
          try simp only [Act.put, List.setIfInBounds_toArray, List.set_cons_zero, List.set_cons_succ]
          refine wpAnyH_ready (rs := [5]) (by kernel_rfl) (by simp) ?_
          refine AllReadyH.cons rfl (fun K hK => ?_) AllReadyH.nil
          go_simp
          refine (check_run _ _ 2 ms _ _ gs2 x G2 _ hl10 hxl (by omega) (memsL (by assumption)) hN2 hel2).mono ?_; rintro e WK2 ⟨h9, hbK⟩; obtain rfl := chk_ok h9 hgr2.closed; have hSK := keepL (by assumption) hbK; clear h9
          go_wp2_with fail
          refine hK.out _ _ ?_ (fun hHeld => ?_)
          · exact hSK
          clear hK K
          try simp only [Act.put, List.setIfInBounds_toArray, List.set_cons_zero, List.set_cons_succ]
          refine take_d (some 74) (i := 6) (v := ?_) rfl rfl (by kernel_rfl) (by kernel_rfl) (by kernel_rfl) (fun _ _ _ h => h) (Or.inl ⟨by rfl, ?_⟩) (by assumption) ?_
          rotate_left
          · intro w hSw; (try dsimp only at hSw); go_simp; (try with_reducible rfl)
          try simp only [Act.put, List.setIfInBounds_toArray, List.set_cons_zero, List.set_cons_succ]
          refine take_d (some 81) (i := 7) (v := ?_) rfl rfl (by kernel_rfl) (by kernel_rfl) (by kernel_rfl) (fun _ _ _ h => h) (Or.inl ⟨by rfl, ?_⟩) (by assumption) ?_
          rotate_left
          · intro w hSw; (try dsimp only at hSw); go_simp; (try with_reducible rfl)
          try simp only [Act.put, List.setIfInBounds_toArray, List.set_cons_zero, List.set_cons_succ]
          refine take_d (some 82) (i := 8) (v := ?_) rfl rfl (by kernel_rfl) (by kernel_rfl) (by kernel_rfl) (fun _ _ _ h => h) (Or.inl ⟨by rfl, ?_⟩) (by assumption) ?_
          rotate_left
          · intro w hSw; (try dsimp only at hSw); go_simp; (try with_reducible rfl)
          try simp only [Act.put, List.setIfInBounds_toArray, List.set_cons_zero, List.set_cons_succ]
          refine take_d (some 14) (i := 9) (v := ?_) rfl rfl (by kernel_rfl) (by kernel_rfl) (by kernel_rfl) (fun _ _ _ h => h) (Or.inl ⟨by rfl, ?_⟩) (by assumption) ?_
          rotate_left
          · intro w hSw; (try dsimp only at hSw); go_simp; (try with_reducible rfl)
          try simp only [Act.put, List.setIfInBounds_toArray, List.set_cons_zero, List.set_cons_succ]
          refine take_d (some 15) (i := 10) (v := ?_) rfl rfl (by kernel_rfl) (by kernel_rfl) (by kernel_rfl) (fun _ _ _ h => h) (Or.inl ⟨by rfl, ?_⟩) (by assumption) ?_
          rotate_left
          · intro w hSw; (try dsimp only at hSw); go_simp; (try with_reducible rfl)
          try simp only [Act.put, List.setIfInBounds_toArray, List.set_cons_zero, List.set_cons_succ]
          refine wpAnyH_done (by kernel_rfl) ?_ _
          refine NoPanic.normal ?_
          have hdd : x &&& declS ms ms.length < 1024 := by rw [HD.out, HSS.out]; exact hSl
          obtain rfl : G2 = left := gr_uniq (sub_lt hgr2.sub hdd) hll hgr2 HGRL.out
          have HC9 := Lib.hid hSK.2.1
          have HNl9 := Lib.hid hSK.2.2
          clear hSK hHeld hN2 hel2 hgr2 hlen2 hS HC8 HNl8
          have c0 := HC9.out.cell
          go_wp2_with fail
          refine (greatest_run _ 2 ms _ x _ hl10 hxl HC9.out.mems).mono ?_
          rintro e W10 ⟨G3, rfl, hG3l, hgr3, hb10⟩
          obtain rfl : G3 = G2 := gr_uniq hG3l hll hgr3 HGRL.out
          have HC10 := Lib.hid (HC9.out.bel hb10)
          have HNl10 := Lib.hid (nodes_bel HNl9.out hb10)
          clear hgr3 hb10 c0 HC9 HNl9
          by_cases hg0 : gs = []
          · subst hg0
            go_wp2_with fail
            refine (awake09 _).mono ?_
            rintro e Z ⟨rfl, hbz⟩
            have HZ := Lib.hid (bstep HC10.out.below hbz)
            clear hbz
            go_wp2_with fail
            go_ret
            exact ⟨rfl, HZ.out⟩
          · obtain ⟨r', k', hel', hk', hu'⟩ := elim_cut gs _ _ HEL.out hg0
            obtain ⟨n, hn⟩ : ∃ n, gs.length = n + 1 := ⟨gs.length - 1, by have := List.length_pos_iff.2 hg0; omega⟩
            have HN := Lib.hid hn
            have HEL' := Lib.hid hel'
            have HU' := Lib.hid hu'
            have hlen' : gs.dropLast.length ≤ 1000000 := by rw [List.length_dropLast]; omega
            have HNP := Lib.hid (nodes_pre HNl10.out hn)
            rw [hn] at hcap hlen
            rw [hn]
            have hw1 : IntKind.i64.wrap ((n : Int) + 1 - 1) = (n : Int) := (IntWalk.i64_in _ (by omega)).trans (by omega)
            have hw2 : IntKind.i64.wrap (n : Int) = (n : Int) := IntWalk.i64_in _ (by omega)
            have hpos : (0 : Int) < (n : Int) + 1 := by omega
            have hn0 : (0 : Int) ≤ (n : Int) := by omega
            have hncl : (n : Int) ≤ (cl : Int) := by omega
            have hncl2 : n ≤ cl := by omega
            clear hn hel' hu' HNl10 hg0
            go_upto_region 22 with fail
            have hS := Lib.hid (keepL ⟨HC10.out.cell, HC10.out, HNP.out⟩ (⟨rfl, rfl, rfl, Nat.le_refl _, fun _ _ => rfl⟩ : Below W10.heap.size W10 W10.drew))
            refine wp_region_noPanic ?_
            refine wp_region_held_drew (S := fun W => W.cell? ⟨g, 0, none⟩ = some (.slice A L c) ∧ CMade w g (.slice A L c) ms W ∧ NodesAt (fun b => B1 ≤ b) W (.slice Al n cl) gs.dropLast) (by kernel_rfl) hS.out (fun hHeld => ?_)
            refine take_d (some 110) (i := 0) (v := ?_) rfl rfl (by kernel_rfl) (by kernel_rfl) (by kernel_rfl) (fun _ _ _ h => h) (Or.inl ⟨by rfl, ?_⟩) (by assumption) ?_
            rotate_left
            · intro w hSw; (try dsimp only at hSw); go_simp; (try with_reducible rfl)
            try simp only [Act.put, List.setIfInBounds_toArray, List.set_cons_zero, List.set_cons_succ]
            refine take_d (some 111) (i := 1) (v := ?_) rfl rfl (by kernel_rfl) (by kernel_rfl) (by kernel_rfl) (fun _ _ _ h => h) (Or.inl ⟨by rfl, ?_⟩) (by assumption) ?_
            rotate_left
            · intro w hSw; (try dsimp only at hSw); go_simp; (try with_reducible rfl)
            try simp only [Act.put, List.setIfInBounds_toArray, List.set_cons_zero, List.set_cons_succ]
            refine take_d (some 112) (i := 2) (v := ?_) rfl rfl (by kernel_rfl) (by kernel_rfl) (by kernel_rfl) (fun _ _ _ h => h) (Or.inl ⟨by rfl, ?_⟩) (by assumption) ?_
            rotate_left
            · intro w hSw; (try dsimp only at hSw); go_simp; (try with_reducible rfl)
            try simp only [Act.put, List.setIfInBounds_toArray, List.set_cons_zero, List.set_cons_succ]
            refine take_d (some 113) (i := 3) (v := ?_) rfl rfl (by kernel_rfl) (by kernel_rfl) (by kernel_rfl) (fun _ _ _ h => h) (Or.inl ⟨by rfl, ?_⟩) (by assumption) ?_
            rotate_left
            · intro w hSw; (try dsimp only at hSw); go_simp; (try with_reducible rfl)
            try simp only [Act.put, List.setIfInBounds_toArray, List.set_cons_zero, List.set_cons_succ]
            refine take_d (some 114) (i := 4) (v := ?_) rfl rfl (by kernel_rfl) (by kernel_rfl) (by kernel_rfl) (fun _ _ _ h => h) (Or.inl ⟨by rfl, ?_⟩) (by assumption) ?_
            rotate_left
            · intro w hSw; (try dsimp only at hSw); go_simp; (try with_reducible rfl)
            try simp only [Act.put, List.setIfInBounds_toArray, List.set_cons_zero, List.set_cons_succ]
            refine take_d (some 115) (i := 5) (v := ?_) rfl rfl (by kernel_rfl) (by kernel_rfl) (by kernel_rfl) (fun _ _ _ h => h) (Or.inl ⟨by rfl, ?_⟩) (by assumption) ?_
            rotate_left
            · intro w hSw; (try dsimp only at hSw); go_simp; (try with_reducible rfl)
            try simp only [Act.put, List.setIfInBounds_toArray, List.set_cons_zero, List.set_cons_succ]
            refine wpAnyH_ready (rs := [6]) (by kernel_rfl) (by simp) ?_
            refine AllReadyH.cons rfl (fun K hK => ?_) AllReadyH.nil
            go_simp
            refine hK.out _ _ (by assumption) (fun hHeld => ?_)
            clear hK K
            try simp only [Act.put, List.setIfInBounds_toArray, List.set_cons_zero, List.set_cons_succ]
            refine wpAnyH_ready (rs := [7]) (by kernel_rfl) (by simp) ?_
            refine AllReadyH.cons rfl (fun K hK => ?_) AllReadyH.nil
            go_simp
            refine (check_run _ _ 2 ms _ _ gs.dropLast x r' _ hl10 hxl hlen' (memsL (by assumption)) (nodesL (by assumption)) HEL'.out).mono ?_; rintro e WK2 ⟨h9, hbK⟩; obtain rfl := chk_bad h9 hk' HU'.out; have hSK := keepL (by assumption) hbK; clear h9
            go_wp2_with fail
            refine hK.out _ _ ?_ (fun hHeld => ?_)
            · exact hSK
            clear hK K
            try simp only [Act.put, List.setIfInBounds_toArray, List.set_cons_zero, List.set_cons_succ]
            refine take_d (some 109) (i := 8) (v := ?_) rfl rfl (by kernel_rfl) (by kernel_rfl) (by kernel_rfl) (fun _ _ _ h => h) (Or.inl ⟨by rfl, ?_⟩) (by assumption) ?_
            rotate_left
            · intro w hSw; (try dsimp only at hSw); go_simp; (try with_reducible rfl)
            try simp only [Act.put, List.setIfInBounds_toArray, List.set_cons_zero, List.set_cons_succ]
            refine take_d (some 118) (i := 9) (v := ?_) rfl rfl (by kernel_rfl) (by kernel_rfl) (by kernel_rfl) (fun _ _ _ h => h) (Or.inl ⟨by rfl, ?_⟩) (by assumption) ?_
            rotate_left
            · intro w hSw; (try dsimp only at hSw); go_simp; (try with_reducible rfl)
            try simp only [Act.put, List.setIfInBounds_toArray, List.set_cons_zero, List.set_cons_succ]
            refine take_d (some 119) (i := 10) (v := ?_) rfl rfl (by kernel_rfl) (by kernel_rfl) (by kernel_rfl) (fun _ _ _ h => h) (Or.inl ⟨by rfl, ?_⟩) (by assumption) ?_
            rotate_left
            · intro w hSw; (try dsimp only at hSw); go_simp; (try with_reducible rfl)
            try simp only [Act.put, List.setIfInBounds_toArray, List.set_cons_zero, List.set_cons_succ]
            refine take_d (some 16) (i := 11) (v := ?_) rfl rfl (by kernel_rfl) (by kernel_rfl) (by kernel_rfl) (fun _ _ _ h => h) (Or.inl ⟨by rfl, ?_⟩) (by assumption) ?_
            rotate_left
            · intro w hSw; (try dsimp only at hSw); go_simp; (try with_reducible rfl)
            try simp only [Act.put, List.setIfInBounds_toArray, List.set_cons_zero, List.set_cons_succ]
            refine take_d (some 17) (i := 12) (v := ?_) rfl rfl (by kernel_rfl) (by kernel_rfl) (by kernel_rfl) (fun _ _ _ h => h) (Or.inl ⟨by rfl, ?_⟩) (by assumption) ?_
            rotate_left
            · intro w hSw; (try dsimp only at hSw); go_simp; (try with_reducible rfl)
            try simp only [Act.put, List.setIfInBounds_toArray, List.set_cons_zero, List.set_cons_succ]
            refine wpAnyH_done (by kernel_rfl) ?_ _
            refine NoPanic.normal ?_
            have HZ0 := Lib.hid hSK.2.1.below
            clear hSK hHeld hS
            go_wp2_with fail
            refine (awake09 _).mono ?_
            rintro e Z ⟨rfl, hbz⟩
            have HZ := Lib.hid (bstep HZ0.out hbz)
            clear hbz
            go_wp2_with fail
            go_ret
            exact ⟨rfl, HZ.out⟩
        · have hcp : 1 ≤ cs.length := List.length_pos_iff.2 hcs
          obtain ⟨Ac, cc, rfl⟩ := own_slice hownc
          have HN := Lib.hid (NodesAt.of_own hownc)
          have hne : ((cs.length : Int) == 0) = false := by rw [beq_eq_false_iff_ne]; omega
          clear hownc hcs c1 HC5 HG5 HOWN5
          go_wp2_with fail
          refine (TN_run _ _ _ (by omega) (by omega) HC7.out.tape).mono ?_
          rintro e W8 ⟨r, hr2, hr3, rfl, hs8, hg8⟩
          obtain ⟨q, rfl⟩ := Int.eq_ofNat_of_zero_le hr2
          have hq : q < cs.length := by omega
          have HT8 := Lib.hid hs8
          have HG8 := Lib.hid (grown_trans HG7.out hg8)
          have hown8 := HOWN7.out.kept hg8 (own_below HOWN7.out (by omega))
          have hsz8 : B1 ≤ W8.heap.size := Nat.le_trans hsz7 hg8.size
          obtain ⟨A', c', hA', hNq⟩ := HN.out
          cases hA'
          obtain ⟨b, off, hb, hP, hc⟩ := hNq q hq
          subst hb
          have hc8 := (World.cell?_of_block (a := ⟨b, off + q, none⟩) (hg8.block b (cell_lt hc) (by simp; omega))).trans hc
          have hmem : cs.getD q 0 ∈ cs := by rw [List.getD_eq_getElem?_getD, List.getElem?_eq_getElem hq]; exact List.getElem_mem hq
          obtain ⟨k, hk, hkm, hu⟩ := hcan.out.1 _ hmem
          rw [hk] at hc8
          obtain ⟨hbit, hE2⟩ := hE.out.step hl10 hkm hu
          have HE2 := Lib.hid hE2
          have HSUB := Lib.hid (show wrap64 ((left : Int) - wrap64 (2 ^ k)) = ((left - 2 ^ k : Nat) : Int) from left_sub64 left k hll (by omega) hbit)
          have hle := bit_le hbit
          have hp : 1 ≤ 2 ^ k := Nat.one_le_pow _ _ (by omega)
          have hrn : left - 2 ^ k < left := by omega
          have hk0 : (0 : Int) ≤ (k : Int) := by omega
          have hqc : (q : Int) < (cs.length : Int) := by omega
          have HOW := Lib.hid (fun (j : Nat) (hj : _ = some j) => hown8.lt j hj)
          clear hs8 hg8 HOWN7 HN hNq hc hmem hk hu hbit hE2 HG7 HC7
          go_wp2_with (at_builtin; refine wpList_append_own _ rfl _ _ 22 rfl B1 3 i0 (.int .i64 0) 1 8 Try.underlying22 hin hz0 hz1 hz2 rfl (by decide) _ _ _ rfl (hown8.alloc _) ⟨W8.heap.size, 0, none⟩ 1 1 [.int .i64 (k : Int)] rfl rfl (cell_one_new _ _ _) (fun u hu => by simp at hu; subst hu; rfl) (by unfold maxLen; omega) (by omega) (by simp; omega) ?_; intro v' w1 hown' hgrow hnil)
          rw [HSUB.out]
          have hgB : (W8.alloc (.cells #[.int .i64 (k : Int)] 3)).grownBy w1 _ := ⟨hgrow.os, hgrow.tape, hgrow.output, hgrow.size, hgrow.block⟩
          have low : ∀ j, j < B1 → w1.heap[j]? = W8.heap[j]? := fun j hj => (hgB.block j (by rw [alloc_sz]; omega) (fun e => by have := (HOW.out _ e.symm).1; omega)).trans (Below.heap_alloc _ _ _ (by omega))
          have HT9 := Lib.hid (HT8.out.keepLow (fun j hj => low j (by omega)))
          have HG9 := Lib.hid (gown (grown_trans HG8.out (grown_below (r := some w.heap.size) (balloc (bref W8) (.cells #[.int .i64 (k : Int)] 3)))) hgB (fun j hj => by have := (HOW.out j hj).1; have := HB1.out; omega))
          have HO := Lib.hid (own_snoc hown')
          clear hown' hgrow hnil hown8 hgB low hc8
          go_roundw
          case rel => exact ⟨left - 2 ^ k, gs ++ [(k : Int)], _, rfl, rfl, by simpa using HO.out, HE2, HT9, HG9⟩
          case measure => simp [intOf]; omega
end Go.Proofs.Ytkpfjflemlmhfaa
