/- The walk of BlockingRest: the declared members outside of a cascade can do without it. -/
import Derived.Test.YtkpfjflemlmhfaaAwake11
import Derived.Test.YtkpfjflemlmhfaaHeld
import Derived.Test.YtkpfjflemlmhfaaRefQuor
namespace Go.Proofs.Ytkpfjflemlmhfaa
set_option linter.unusedVariables false
set_option linter.unusedSimpArgs false
open Go.RowKit

theorem declS_mem {ms : List Mem} : ∀ {n k : Nat}, (declS ms n).testBit k = true → (ms.getD k (false, .mk 0 [] [])).1 = true
  | 0, k, h => by simp [declS] at h
  | n + 1, k, h => by
    unfold declS at h
    split at h
    · rename_i hd
      rw [Nat.testBit_or, Bool.or_eq_true] at h
      rcases h with h | h
      · exact declS_mem h
      · rw [Nat.testBit_two_pow] at h
        obtain rfl : n = k := by simpa using h
        exact hd
    · exact declS_mem h
theorem holdsT_monoW {n : Int} {p q : Int → Bool} (h : ∀ x, 0 ≤ x → x < n → p x = true → q x = true) : ∀ (d : Nat) (T : Tree), WF n d T → holdsT d p T = true → holdsT d q T = true
  | 0, _, w, _ => w.elim
  | d + 1, .mk thr ns is, w, hh => by
    obtain ⟨_, _, _, _, hr, _, hi⟩ := w
    have h1 : cnt p ns ≤ cnt q ns := cnt_monoA ns (fun x hx => h x (hr x hx).1 (hr x hx).2)
    have h2 : cnt (holdsT d p) is ≤ cnt (holdsT d q) is := cnt_monoA is (fun T hT => holdsT_monoW h d T (hi T hT))
    have h3 : thr ≤ ((cnt p ns + cnt (holdsT d p) is : Nat) : Int) := of_decide_eq_true hh
    exact decide_eq_true (show thr ≤ ((cnt q ns + cnt (holdsT d q) is : Nat) : Int) by omega)
theorem minus_bit (a b j : Nat) : (a ^^^ (a &&& b)).testBit j = (a.testBit j && !b.testBit j) := by
  rw [Nat.testBit_xor, Nat.testBit_and]
  cases a.testBit j <;> cases b.testBit j <;> rfl
theorem rest_sat {ms : List Mem} {X k : Nat} (hl : ms.length ≤ 10) (hok : MemsOk ms.length ms) (hX : X < 1024) (hcl : CClosed 2 ms X) (hk : k < ms.length) (hd : (declS ms ms.length).testBit k = true) (hx : X.testBit k = false) :
    satB 2 (trOf ms k) (((2 ^ ms.length - 1) ^^^ ((2 ^ ms.length - 1) &&& X) : Nat) : Int) = true := by
  have h1 := hcl k hk hx
  unfold blkM at h1
  rw [hd, Bool.true_and] at h1
  have ho : offS X k = X := by
    apply Nat.eq_of_testBit_eq
    intro j
    rw [offS_bit]
    by_cases e : j = k
    · subst e; rw [hx]; rfl
    · have : (j != k) = true := by simpa using e
      rw [this, Bool.and_true]
  rw [ho] at h1
  have h2 : holdsT 2 (hasB (1023 - (X : Int))) (trOf ms k) = true := by
    unfold blkB at h1
    rw [setB_iff.2 ⟨by omega, by omega⟩, Bool.true_and] at h1
    simpa using h1
  have hp : 2 ^ ms.length ≤ 2 ^ 10 := Nat.pow_le_pow_right (by omega) hl
  have hYl : (2 ^ ms.length - 1) ^^^ ((2 ^ ms.length - 1) &&& X) < 1024 := lt_of_bits (b := 2 ^ ms.length - 1) (fun j hj => by rw [minus_bit, Bool.and_eq_true] at hj; exact hj.1) (by omega)
  have hW : WF ms.length 2 (trOf ms k) := by
    have h3 := declS_mem hd
    have h4 : ms[k]? = some (ms[k]) := List.getElem?_eq_getElem hk
    have h5 := hok (ms[k]) (List.getElem_mem hk)
    have h6 : ms.getD k (false, .mk 0 [] []) = ms[k] := by rw [List.getD_eq_getElem?_getD, h4]; rfl
    unfold trOf
    rw [h6] at h3 ⊢
    exact h5.1 h3
  unfold satB
  rw [Bool.and_eq_true]
  refine ⟨setB_iff.2 ⟨by omega, by omega⟩, holdsT_monoW (fun y h0 h3 hy => ?_) 2 _ hW h2⟩
  rw [hasB_compl hX, Bool.and_eq_true] at hy
  have e : y = ((y.toNat : Nat) : Int) := by omega
  rw [e, hasB_bit hYl (by omega), minus_bit, Nat.testBit_two_pow_sub_one, decide_eq_true (by omega), Bool.true_and]
  exact hy.2

set_option maxRecDepth 100000 in
set_option maxHeartbeats 4000000 in
theorem walkBlockingRest (a0 : Option Addr) (len0 cap0 : Nat) (z0 : List Int) (w : World) (w0 : IsRow .i64 w a0 len0 cap0 z0) :
    Calls Try.prog 11 #[.slice a0 len0 cap0] w fun e w' => e = .returned (.bool true) ∧ Below w.heap.size w w' := by
  have HR := Lib.hid w0
  clear w0
  go_enter Try.func11, Try.ntmps11
  go_wp2_with fail
  refine (TNew_run _ _ _ _ _ HR.out).mono ?_
  rintro e v0 ⟨rfl, hs0, hb0⟩
  have HS0 := Lib.hid hs0
  have HB0 := Lib.hid hb0
  have hsl := hs0.lt
  clear hs0 hb0
  go_wp2_with fail
  refine (config_run _ 8 (by omega) (by omega) _ HS0.out).mono ?_
  rintro e v2 ⟨cv, ms, rfl, hl1, hl2, hM, hok, hs2, hg2⟩
  have hM0 := id hM
  obtain ⟨A, c, hcv, _⟩ := hM0
  obtain ⟨L, hL⟩ : ∃ L, ms.length = L := ⟨_, rfl⟩
  rw [hL] at hcv
  subst hcv
  have hba := balloc (bref v2) (.cells #[.slice A L c] 27)
  have HM := Lib.hid (show CMade w v2.heap.size (.slice A L c) ms (v2.alloc (.cells #[.slice A L c] 27)) from
    ⟨hs2.alloc _, alloc_at rfl, (hM.both (Q := fun b => w.heap.size < b) (fun _ _ _ => rfl) (fun k _ hk => by omega)).below hba, hs2.lt, bstep (bgrownC HB0.out hg2 (Nat.le_refl _)) hba⟩)
  have HL := Lib.hid hL
  have HOK := Lib.hid hok
  have hl10 : ms.length ≤ 10 := by omega
  clear hM hok hs2 hg2 hba HS0 HB0 hl1 hL
  go_upto_region 3 with fail
  generalize v2.alloc (.cells #[.slice A L c] 27) = W1 at *
  generalize v2.heap.size = g at *
  have c0 := HM.out.cell
  have hLn : L ≤ 8 := by have := HL.out; omega
  have hp := pow11 L (by omega)
  have hp8 : 2 ^ L ≤ 2 ^ 8 := Nat.pow_le_pow_right (by omega) hLn
  have hp1 : 1 ≤ 2 ^ L := Nat.one_le_pow _ _ (by omega)
  obtain ⟨N, hN⟩ : ∃ N, 2 ^ L = N := ⟨_, rfl⟩
  have HNL := Lib.hid hN
  rw [hN] at hp hp8 hp1
  clear hN
  obtain ⟨n1, hn1⟩ : ∃ n1, N - 1 = n1 := ⟨_, rfl⟩
  have HN1 := Lib.hid hn1
  have hw1 : wrap64 ((N : Int) - 1) = (n1 : Int) := by unfold wrap64; omega
  have hw2 : (N : Int) - 1 = (n1 : Int) := by omega
  have hn1l : n1 < 256 := by omega
  clear hn1
  have hLi : (L : Int) < 64 := by omega
  go_upto_region 4 with fail
  have hS := Lib.hid HM.out.drew.keeps
  refine wp_region_noPanic ?_
  refine wp_region_held_drew (S := fun W => W.cell? ⟨g, 0, none⟩ = some (.slice A L c) ∧ CMade w g (.slice A L c) ms W) (by kernel_rfl) hS.out (fun hHeld => ?_)
  refine take_d (some 21) (i := 0) (v := ?_) rfl rfl (by kernel_rfl) (by kernel_rfl) (by kernel_rfl) (fun _ _ _ h => h) (Or.inl ⟨by rfl, ?_⟩) (by assumption) ?_
  rotate_left
  · intro w hSw; (try dsimp only at hSw); go_simp; (try with_reducible rfl)
  try simp only [Act.put, List.setIfInBounds_toArray, List.set_cons_zero, List.set_cons_succ]
  refine take_d (some 22) (i := 1) (v := ?_) rfl rfl (by kernel_rfl) (by kernel_rfl) (by kernel_rfl) (fun _ _ _ h => h) (Or.inl ⟨by rfl, ?_⟩) (by assumption) ?_
  rotate_left
  · intro w hSw; (try dsimp only at hSw); go_simp; (try with_reducible rfl)
  try simp only [Act.put, List.setIfInBounds_toArray, List.set_cons_zero, List.set_cons_succ]
  refine take_d (some 24) (i := 3) (v := ?_) rfl rfl (by kernel_rfl) (by kernel_rfl) (by kernel_rfl) (fun _ _ _ h => h) (Or.inl ⟨by rfl, ?_⟩) (by assumption) ?_
  rotate_left
  · intro w hSw; (try dsimp only at hSw); go_simp; (try with_reducible rfl)
  try simp only [Act.put, List.setIfInBounds_toArray, List.set_cons_zero, List.set_cons_succ]
  refine wpAnyH_ready (rs := [2]) (by kernel_rfl) (by simp) ?_
  refine AllReadyH.cons rfl (fun K hK => ?_) AllReadyH.nil
  go_simp
  refine (TN_run _ _ _ (by omega) (by omega) (by exact tapeC (by assumption))).mono ?_; rintro e WK ⟨r, hr0, hr1, rfl, hsK, hgK⟩; obtain ⟨p, rfl⟩ := Int.eq_ofNat_of_zero_le hr0; have hSK := growC (by assumption) hsK hgK; have hand := i64_and_nat p n1 (by omega) (by omega)
  go_wp2_with fail
  refine hK.out _ _ ?_ (fun hHeld => ?_)
  · exact hSK
  clear hK K
  try simp only [Act.put, List.setIfInBounds_toArray, List.set_cons_zero, List.set_cons_succ]
  refine take_d (some 25) (i := 4) (v := ?_) rfl rfl (by kernel_rfl) (by kernel_rfl) (by kernel_rfl) (fun _ _ _ h => h) (Or.inl ⟨by rfl, ?_⟩) (by assumption) ?_
  rotate_left
  · intro w hSw; (try dsimp only at hSw); go_simp; (try with_reducible rfl)
  try simp only [Act.put, List.setIfInBounds_toArray, List.set_cons_zero, List.set_cons_succ]
  refine wpAnyH_ready (rs := [5]) (by kernel_rfl) (by simp) ?_
  refine AllReadyH.cons rfl (fun K hK => ?_) AllReadyH.nil
  go_simp
  refine (cascade_run _ 2 ms _ (p &&& n1) _ hl10 (Nat.lt_of_le_of_lt Nat.and_le_left (by omega)) (memsC (by assumption))).mono ?_; rintro e WK2 ⟨gv1, gs1, X, rfl, hN1, hXl, _, _, hic, hbK⟩; have hSK := keepC (by assumption) hbK
  go_wp2_with fail
  refine hK.out _ _ ?_ (fun hHeld => ?_)
  · exact hSK
  clear hK K
  try simp only [Act.put, List.setIfInBounds_toArray, List.set_cons_zero, List.set_cons_succ]
  refine take_d (some 20) (i := 6) (v := ?_) rfl rfl (by kernel_rfl) (by kernel_rfl) (by kernel_rfl) (fun _ _ _ h => h) (Or.inl ⟨by rfl, ?_⟩) (by assumption) ?_
  rotate_left
  · intro w hSw; (try dsimp only at hSw); go_simp; (try with_reducible rfl)
  try simp only [Act.put, List.setIfInBounds_toArray, List.set_cons_zero, List.set_cons_succ]
  refine take_d (some 27) (i := 7) (v := ?_) rfl rfl (by kernel_rfl) (by kernel_rfl) (by kernel_rfl) (fun _ _ _ h => h) (Or.inl ⟨by rfl, ?_⟩) (by assumption) ?_
  rotate_left
  · intro w hSw; (try dsimp only at hSw); go_simp; (try with_reducible rfl)
  try simp only [Act.put, List.setIfInBounds_toArray, List.set_cons_zero, List.set_cons_succ]
  refine take_d (some 28) (i := 8) (v := ?_) rfl rfl (by kernel_rfl) (by kernel_rfl) (by kernel_rfl) (fun _ _ _ h => h) (Or.inl ⟨by rfl, ?_⟩) (by assumption) ?_
  rotate_left
  · intro w hSw; (try dsimp only at hSw); go_simp; (try with_reducible rfl)
  try simp only [Act.put, List.setIfInBounds_toArray, List.set_cons_zero, List.set_cons_succ]
  refine take_d (some 6) (i := 9) (v := ?_) rfl rfl (by kernel_rfl) (by kernel_rfl) (by kernel_rfl) (fun _ _ _ h => h) (Or.inl ⟨by rfl, ?_⟩) (by assumption) ?_
  rotate_left
  · intro w hSw; (try dsimp only at hSw); go_simp; (try with_reducible rfl)
  try simp only [Act.put, List.setIfInBounds_toArray, List.set_cons_zero, List.set_cons_succ]
  refine take_d (some 7) (i := 10) (v := ?_) rfl rfl (by kernel_rfl) (by kernel_rfl) (by kernel_rfl) (fun _ _ _ h => h) (Or.inl ⟨by rfl, ?_⟩) (by assumption) ?_
  rotate_left
  · intro w hSw; (try dsimp only at hSw); go_simp; (try with_reducible rfl)
  try simp only [Act.put, List.setIfInBounds_toArray, List.set_cons_zero, List.set_cons_succ]
  refine wpAnyH_done (by kernel_rfl) ?_ _
  refine NoPanic.normal ?_
  have HM4 := Lib.hid hSK.2
  have HIC := Lib.hid hic
  clear hic hSK hHeld hS hN1
  have c0 := HM4.out.cell
  go_wp2_with fail
  refine (rdeclared_run _ 2 ms _ _ hl10 HM4.out.mems).mono ?_
  rintro e W5 ⟨rfl, hb5⟩
  have HM5 := Lib.hid (HM4.out.bel hb5)
  clear hb5 c0 HM4
  have hdl := declS_lt ms ms.length hl10
  obtain ⟨D, hD⟩ : ∃ D, declS ms ms.length = D := ⟨_, rfl⟩
  have HD := Lib.hid hD
  rw [hD] at hdl ⊢
  clear hD
  have han := andNot_nat D X hdl hXl
  have hrl : D ^^^ (D &&& X) < 1024 := lt_of_bits (b := D) (fun j hj => by rw [minus_bit, Bool.and_eq_true] at hj; exact hj.1) hdl
  have HRB := Lib.hid (minus_bit D X)
  have hYl : n1 ^^^ (n1 &&& X) < 1024 := lt_of_bits (b := n1) (fun j hj => by rw [minus_bit, Bool.and_eq_true] at hj; exact hj.1) (by omega)
  have HAY := andNot_nat n1 X (by omega) hXl
  have HYB := Lib.hid (minus_bit n1 X)
  have HSAT := Lib.hid (fun k (hk : k < ms.length) (hd : D.testBit k = true) (hx : X.testBit k = false) => by
    have h1 := rest_sat hl10 HOK.out hXl HIC.out.closed hk (by rw [HD.out]; exact hd) hx
    rw [HL.out, HNL.out, HN1.out] at h1
    exact (h1 : satB 2 (trOf ms k) ((n1 ^^^ (n1 &&& X) : Nat) : Int) = true))
  have HDB := Lib.hid (fun k (hd : D.testBit k = true) => (declS_bit (ms := ms) (n := ms.length) (by rw [HD.out]; exact hd) : k < ms.length))
  obtain ⟨Y, hY⟩ : ∃ Y, n1 ^^^ (n1 &&& X) = Y := ⟨_, rfl⟩
  have HY := Lib.hid hY
  rw [hY] at HAY hYl HSAT HYB
  clear hY
  obtain ⟨R, hR⟩ : ∃ R, D ^^^ (D &&& X) = R := ⟨_, rfl⟩
  have HRR := Lib.hid hR
  rw [hR] at han hrl HRB
  clear hR
  go_wp2_with fail
  refine (rnodes_run R _ hrl).mono ?_
  rintro e W6 ⟨nv, rfl, hN, hb6⟩
  have HM6 := Lib.hid (HM5.out.bel hb6)
  have hnl := nodL_len R 10
  obtain ⟨nl, hnq⟩ : ∃ nl, nodL R 10 = nl := ⟨_, rfl⟩
  have HNLL := Lib.hid hnq
  rw [hnq] at hN hnl
  obtain ⟨An, cn, rfl, hNc⟩ := hN
  have HNC := Lib.hid hNc
  clear hb6 hNc hnq HM5
  go_wp2_with fail
  go_loopw [36] (fun t W => ∃ j : Nat, j ≤ nl.length ∧ t = .int .i64 j ∧ Hid (Below W6.heap.size W6 W)) (fun t _ => nl.length - (intOf t).toNat)
  case atStart => exact ⟨0, by omega, rfl, Lib.hid (bref _)⟩
  case round =>
    obtain ⟨j, hj, rfl, hB⟩ := hrel
    have c1 := (HM6.out.bel hB.out).cell
    by_cases hlt : j < nl.length
    · obtain ⟨b, off, rfl, _, hc⟩ := HNC.out j hlt
      have hx0 : nl[j]? = some (nl.getD j 0) := by rw [List.getD_eq_getElem?_getD, List.getElem?_eq_getElem hlt]; rfl
      obtain ⟨k, hk, hk10, hbit⟩ := (nodL_mem R 10 (nl.getD j 0)).1 (by rw [HNLL.out]; exact List.mem_of_getElem? hx0)
      rw [hk] at hc
      clear hk hx0
      rw [HRB.out, Bool.and_eq_true, Bool.not_eq_true'] at hbit
      have hkm := HDB.out k hbit.1
      have hst := HSAT.out k hkm hbit.1 hbit.2
      have hkL : k < L := by have := HL.out; omega
      obtain ⟨m, hm⟩ : ∃ m, ms[k]? = some m := ⟨_, List.getElem?_eq_getElem hkm⟩
      have d1 := (hB.out.cell (cell_lt hc)).trans hc
      have hmm := (HM6.out.bel hB.out).mems
      have hAL : (.slice A L c : Value) = .slice A ms.length c := by rw [HL.out]
      rw [hAL] at hmm
      obtain ⟨bm, om, t, A1, n1', c1', A2, n2', c2', hA, hP, hbl, e0, e1, e2, e3, hT⟩ := memBox hmm hm
      subst hA
      have htr : trOf ms k = m.2 := by unfold trOf; rw [List.getD_eq_getElem?_getD, hm]; rfl
      rw [htr] at hst
      obtain ⟨dec, T⟩ := m
      have HST := Lib.hid hst
      have HTm := Lib.hid hT
      clear hm htr hT hbit hmm hAL hc e0 hst
      go_wp2_with fail
      refine (rsat_run _ 2 T _ _ _ Y _ hYl HTm.out).mono ?_
      rintro e W7 ⟨rfl, hb7⟩
      rw [HST.out]
      have HB7 := Lib.hid (bstep hB.out hb7)
      clear hb7 c1
      go_wp2_with fail
      go_roundw
      case rel => exact ⟨j + 1, by omega, by go_num, HB7⟩
      case measure => simp [intOf]; omega
    · obtain rfl : j = nl.length := by omega
      have HM7 := Lib.hid (HM6.out.bel hB.out)
      go_wp2_with fail
      refine (rdeclared_run _ 2 ms _ _ hl10 HM7.out.mems).mono ?_
      rintro e W8 ⟨rfl, hb8⟩
      have HM8 := Lib.hid (HM7.out.bel hb8)
      clear hb8 c1 HM7
      rw [HD.out]
      by_cases hdn : D = n1 ∧ R ≠ 0
      · have hd1 : ((D : Int) == (n1 : Int)) = true := by rw [hdn.1]; exact beq_self_eq_true _
        have hr1 : ((R : Int) != 0) = true := by simpa using hdn.2
        have HQ := Lib.hid (show R ≠ 0 ∧ Sub R (declS ms ms.length) ∧ Closed 2 ms R by
          refine ⟨hdn.2, ?_, fun k hk => ?_⟩
          · rw [HD.out]
            intro j hj
            rw [HRB.out, Bool.and_eq_true] at hj
            exact hj.1
          · unfold uns
            rw [hasB_bit hrl (by omega)]
            cases hb : R.testBit k
            · rfl
            · have hb2 := hb
              rw [HRB.out, Bool.and_eq_true, Bool.not_eq_true'] at hb2
              have h1 := HSAT.out k hk hb2.1 hb2.2
              have e : Y = R := by rw [← HY.out, ← HRR.out, hdn.1]
              rw [e] at h1
              rw [h1]; rfl)
        clear hdn
        have c1 := HM8.out.cell
        go_wp2_with fail
        refine (rquorum_run _ 2 ms _ R _ hl10 hrl HM8.out.mems).mono ?_
        rintro e W9 ⟨q, rfl, hq, hb9⟩
        obtain rfl : q = true := hq.2 HQ.out
        have HM9 := Lib.hid (HM8.out.bel hb9)
        clear hq hb9 c1
        go_wp2_with fail
        refine (awake11 _).mono ?_
        rintro e Z ⟨rfl, hbz⟩
        have HZ := Lib.hid (bstep HM9.out.below hbz)
        clear hbz
        go_wp2_with fail
        go_ret
        exact ⟨rfl, HZ.out⟩
      · by_cases hd : D = n1
        · have hr0 : R = 0 := by
            rcases Nat.eq_zero_or_pos R with h | h
            · exact h
            · exact (hdn ⟨hd, by omega⟩).elim
          have hd1 : ((D : Int) == (n1 : Int)) = true := by rw [hd]; exact beq_self_eq_true _
          have hr1 : ((R : Int) != 0) = false := by simpa using hr0
          clear hdn hd hr0
          go_wp2_with fail
          refine (awake11 _).mono ?_
          rintro e Z ⟨rfl, hbz⟩
          have HZ := Lib.hid (bstep HM8.out.below hbz)
          clear hbz
          go_wp2_with fail
          go_ret
          exact ⟨rfl, HZ.out⟩
        · have hd1 : ((D : Int) == (n1 : Int)) = false := by rw [beq_eq_false_iff_ne]; omega
          clear hdn hd
          go_wp2_with fail
          refine (awake11 _).mono ?_
          rintro e Z ⟨rfl, hbz⟩
          have HZ := Lib.hid (bstep HM8.out.below hbz)
          clear hbz
          go_wp2_with fail
          go_ret
          exact ⟨rfl, HZ.out⟩
end Go.Proofs.Ytkpfjflemlmhfaa
