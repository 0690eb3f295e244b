/- The contract of the reference's Quorum. -/
import Derived.Test.YtfghnkgllmofgaaOrdersMath
namespace Go.Proofs.Ytfghnkgllmofgaa
set_option linter.unusedVariables false
set_option linter.unusedSimpArgs false
open Go.RowKit

theorem and_self_sub {a b : Nat} : a &&& b = a ↔ Sub a b := by
  constructor
  · intro h k hk
    rw [← h, Nat.testBit_and, Bool.and_eq_true] at hk
    exact hk.2
  · intro h
    apply Nat.eq_of_testBit_eq
    intro k
    rw [Nat.testBit_and]
    cases hb : a.testBit k
    · rfl
    · rw [h k hb]; rfl

set_option maxRecDepth 100000 in
set_option maxHeartbeats 4000000 in
theorem rquorum_run (P : Nat → Prop) (d : Nat) (ms : List Mem) (v : Value) (s : Nat) (w : World) (hl : ms.length ≤ 10) (hs : s < 1024) (h : MemsAt P d w v ms) :
    Calls Try.prog 45 #[.agg #[v], .int .i64 (s : Int)] w fun e w' => ∃ b : Bool, e = .returned (.bool b) ∧ (b = true ↔ s ≠ 0 ∧ Sub s (declS ms ms.length) ∧ Closed d ms s) ∧ Below w.heap.size w w' := by
  obtain ⟨A, c, rfl⟩ := h.slice
  have hb1 : Below w.heap.size w (w.alloc (.cells #[.slice A ms.length c] 27)) := balloc (bref w) _
  have k0 : (w.alloc (.cells #[.slice A ms.length c] 27)).heap[w.heap.size]? = some (.cells #[.slice A ms.length c] 27 (0, 0)) := alloc_at rfl
  have H := Lib.hid (h.below hb1)
  have HB := Lib.hid hb1
  have K0 := Lib.hid k0
  have hsv := Lib.hid (show setB (s : Int) = true from setB_iff.2 ⟨by omega, by omega⟩)
  have hdl := declS_lt ms ms.length hl
  clear h hb1 k0
  go_enter Try.func45, Try.ntmps45
  go_upto_region 1 with fail
  generalize w.alloc (.cells #[.slice A ms.length c] 27) = W1 at *
  generalize hg : w.heap.size = g at *
  have HG := Lib.hid hg
  clear hg
  have c0 : W1.cell? ⟨g, 0, none⟩ = some (.slice A ms.length c) := cell_of_row _ _ 0 _ _ (0, 0) K0.out
  have hgl := cell_lt c0
  have HBw := Lib.hid (show Below w.heap.size w W1 by rw [HG.out]; exact HB.out)
  by_cases h0 : s = 0
  · subst h0
    go_wp2_with fail
    refine (rsetValid_run _ _).mono ?_
    rintro e w2 ⟨rfl, rfl⟩
    rw [show setB (0 : Int) = true from rfl]
    go_wp2_with fail
    go_ret
    exact ⟨false, rfl, by simp, HBw.out⟩
  · have hne : ((s : Int) == 0) = false := by simpa using h0
    go_wp2_with fail
    refine (rsetValid_run _ _).mono ?_
    rintro e w2 ⟨rfl, rfl⟩
    rw [hsv.out]
    go_wp2_with fail
    refine (rdeclared_run _ d ms _ _ hl H.out).mono ?_
    rintro e W2 ⟨rfl, hb2⟩
    have HB2 := Lib.hid hb2
    have d0 := (hb2.cell hgl).trans c0
    clear hb2 c0
    have HDB := Lib.hid (fun k (h : (declS ms ms.length).testBit k = true) => declS_bit h)
    generalize hD : declS ms ms.length = D at *
    have HDD := Lib.hid hD
    clear hD
    have han := i64_and_nat s D (by omega) (by omega)
    by_cases hsub : Sub s D
    · rw [and_self_sub.2 hsub] at han
      go_wp2_with fail
      refine (rnodes_run s _ hs).mono ?_
      rintro e W5 ⟨nv, rfl, hN, hb5⟩
      have HB5 := Lib.hid (bstep HB2.out hb5)
      have hnl := nodL_len s 10
      obtain ⟨nl, hnq⟩ : ∃ nl, nodL s 10 = nl := ⟨_, rfl⟩
      have HNL := Lib.hid hnq
      rw [hnq] at hN hnl
      obtain ⟨An, cn, rfl, hNc⟩ := hN
      have HNC := Lib.hid hNc
      have H0 := Lib.hid (And.intro h0 hsub)
      clear hb5 hNc hnq d0 han hne
      go_wp2_with fail
      go_loopw [25] (fun t W => ∃ j : Nat, j ≤ nl.length ∧ t = .int .i64 j ∧ Hid (∀ i k : Nat, i < j → nl[i]? = some (k : Int) → uns d ms s k = false) ∧ Hid (Below W5.heap.size W5 W)) (fun t _ => nl.length - (intOf t).toNat)
      case atStart => exact ⟨0, by omega, rfl, Lib.hid (fun i k hi => by omega), Lib.hid (bref _)⟩
      case round =>
        obtain ⟨j, hj, rfl, hNo, hB⟩ := hrel
        have hgl5 : g < W5.heap.size := Nat.lt_of_lt_of_le hgl HB5.out.size
        have c1 : wr.cell? ⟨g, 0, none⟩ = some (.slice A ms.length c) := ((bstep HB5.out hB.out).cell hgl).trans (cell_of_row _ _ 0 _ _ (0, 0) K0.out)
        by_cases hlt : j < nl.length
        · obtain ⟨b, off, rfl, _, hc⟩ := HNC.out j hlt
          have hx0 : nl[j]? = some (nl.getD j 0) := by rw [List.getD_eq_getElem?_getD, List.getElem?_eq_getElem hlt]; rfl
          obtain ⟨k, hk, hk10, hbit⟩ := (nodL_mem s 10 (nl.getD j 0)).1 (by rw [HNL.out]; exact List.mem_of_getElem? hx0)
          rw [hk] at hc hx0
          have HX0 := Lib.hid hx0
          clear hk hx0
          have hkm := HDB.out k (hsub k hbit)
          obtain ⟨m, hm⟩ : ∃ m, ms[k]? = some m := ⟨_, List.getElem?_eq_getElem hkm⟩
          have d1 := (hB.out.cell (cell_lt hc)).trans hc
          obtain ⟨bm, om, t, A1, n1, c1', A2, n2, c2, hA, hP, hbl, e0, e1, e2, e3, hT⟩ := memBox (H.out.below (bstep HB5.out hB.out)) hm
          subst hA
          have htr : trOf ms k = m.2 := by unfold trOf; rw [List.getD_eq_getElem?_getD, hm]; rfl
          obtain ⟨dec, T⟩ := m
          have HUN := Lib.hid (show uns d ms s k = !satB d T (s : Int) by unfold uns; rw [htr, hasB_bit hs hk10, hbit]; rfl)
          have HTm := Lib.hid hT
          clear hm htr hT hbit hc e0
          go_wp2_with fail
          refine (rsat_run _ d T _ _ _ s _ hs HTm.out).mono ?_
          rintro e W6 ⟨rfl, hb6⟩
          have HB6 := Lib.hid (bstep hB.out hb6)
          clear hb6 c1
          cases hsat : satB d T (s : Int)
          · have HU := Lib.hid (show ¬ (s ≠ 0 ∧ Sub s D ∧ Closed d ms s) from fun h => by
              have h1 := h.2.2 k hkm
              rw [HUN.out, hsat] at h1; cases h1)
            have HZ := Lib.hid (bstep HBw.out (bstep HB5.out HB6.out))
            clear hsat
            go_wp2_with fail
            go_ret
            exact ⟨false, rfl, by rw [HDD.out]; exact ⟨fun h => (by cases h), fun h => (HU.out h).elim⟩, HZ.out⟩
          · have HN2 := Lib.hid (show ∀ i q : Nat, i < j + 1 → nl[i]? = some (q : Int) → uns d ms s q = false from fun i q hi hq => by
              rcases Nat.lt_or_ge i j with h1 | h1
              · exact hNo.out i q h1 hq
              · obtain rfl : i = j := by omega
                rw [HX0.out] at hq
                have : k = q := by have := Option.some.inj hq; omega
                rw [← this, HUN.out, hsat]; rfl)
            clear hsat
            go_wp2_with fail
            go_roundw
            case rel => exact ⟨j + 1, by omega, by go_num, HN2, HB6⟩
            case measure => simp [intOf]; omega
        · obtain rfl : j = nl.length := by omega
          have HC := Lib.hid (show Closed d ms s from fun k hk => by
            cases hb : s.testBit k
            · unfold uns; rw [hasB_bit hs (by omega), hb]; rfl
            · have hm : (k : Int) ∈ nodL s 10 := (nodL_mem s 10 _).2 ⟨k, rfl, by omega, hb⟩
              rw [HNL.out] at hm
              obtain ⟨i, hi, he⟩ := List.getElem_of_mem hm
              exact hNo.out i k hi (by rw [List.getElem?_eq_getElem hi, he]))
          have HZ := Lib.hid (bstep HBw.out (bstep HB5.out hB.out))
          go_wp2_with fail
          go_ret
          exact ⟨true, rfl, by rw [HDD.out]; exact ⟨fun _ => ⟨H0.out.1, H0.out.2, HC.out⟩, fun _ => rfl⟩, HZ.out⟩
    · have hz : s &&& D ≠ s := fun h => hsub (and_self_sub.1 h)
      obtain ⟨q, hq⟩ : ∃ q, s &&& D = q := ⟨_, rfl⟩
      rw [hq] at han hz
      clear hq
      have hxb : ((q : Int) != (s : Int)) = true := by simp; omega
      have hF := Lib.hid (show ¬ (s ≠ 0 ∧ Sub s D ∧ Closed d ms s) from fun h => hsub h.2.1)
      have HB3 := Lib.hid (bstep HBw.out HB2.out)
      clear hsub
      go_wp2_with fail
      go_ret
      exact ⟨false, rfl, by rw [HDD.out]; exact ⟨fun h => (by cases h), fun h => (hF.out h).elim⟩, HB3.out⟩

end Go.Proofs.Ytfghnkgllmofgaa
