/- The contracts of the reference's Size, Subsets, Elimination, Greatest. -/
import Derived.Test.YtfghnkgllmofgaaRefQuor
namespace Go.Proofs.Ytfghnkgllmofgaa
set_option linter.unusedVariables false
set_option linter.unusedSimpArgs false
open Go.RowKit

theorem rsub64 (r k : Nat) (hr : r < 1024) (hk : k < 10) (hb : r.testBit k = true) : wrap64 ((r : Int) - wrap64 (2 ^ k)) = ((r - 2 ^ k : Nat) : Int) := by
  have all : ∀ r : Fin 1024, ∀ k : Fin 10, r.val.testBit k.val = true → wrap64 ((r.val : Int) - wrap64 (2 ^ k.val)) = ((r.val - 2 ^ k.val : Nat) : Int) := by decide +kernel
  exact all ⟨r, hr⟩ ⟨k, hk⟩ hb

def elimM (a : Value) (r : Int) : Nat := match a with
  | .bool true => r.toNat + 1
  | _ => 0

set_option maxRecDepth 100000 in
set_option maxHeartbeats 4000000 in
theorem relim_run (P : Nat → Prop) (d : Nat) (ms : List Mem) (v : Value) (s : Nat) (w : World) (hl : ms.length ≤ 10) (hs : s < 1024) (h : MemsAt P d w v ms) :
    Calls Try.prog 62 #[.agg #[v], .int .i64 (s : Int)] w fun e w' => ∃ (gv : Value) (gs : List Int) (G : Nat), e = .returned gv ∧ NodesAt (fun b => w.heap.size ≤ b) w' gv gs ∧ G < 1024 ∧ gs.length ≤ 1023 ∧ ElimR d ms (s &&& declS ms ms.length) gs G ∧ IsGr d ms (s &&& declS ms ms.length) G ∧ Below w.heap.size w w' := by
  obtain ⟨i0, hin, hz0, hz1, hz2⟩ := info_parts infoInt
  have hsv := Lib.hid (show setB (s : Int) = true from setB_iff.2 ⟨by omega, by omega⟩)
  have hdl := declS_lt ms ms.length hl
  have HAND := Lib.hid (i64_and_nat s (declS ms ms.length) (by omega) (by omega))
  obtain ⟨A, c, rfl⟩ := h.slice
  have hb1 : Below w.heap.size w (w.alloc (.cells #[.slice A ms.length c] 27)) := balloc (bref w) _
  have k0 : (w.alloc (.cells #[.slice A ms.length c] 27)).heap[w.heap.size]? = some (.cells #[.slice A ms.length c] 27 (0, 0)) := alloc_at rfl
  have H := Lib.hid (h.below hb1)
  have HB := Lib.hid hb1
  have K0 := Lib.hid k0
  clear h hb1 k0
  go_enter Try.func62, Try.ntmps62
  go_upto_region 1 with fail
  generalize w.alloc (.cells #[.slice A ms.length c] 27) = W1 at *
  generalize hg : w.heap.size = g at *
  have HG := Lib.hid hg
  clear hg
  have c0 : W1.cell? ⟨g, 0, none⟩ = some (.slice A ms.length c) := cell_of_row _ _ 0 _ _ (0, 0) K0.out
  have hgl := cell_lt c0
  have HBw := Lib.hid (show Below w.heap.size w W1 by rw [HG.out]; exact HB.out)
  go_wp2_with fail
  refine (rsetValid_run _ _).mono ?_
  rintro e w2 ⟨rfl, rfl⟩
  rw [hsv.out]
  go_wp2_with fail
  refine (rdeclared_run _ d ms _ _ hl H.out).mono ?_
  rintro e W2 ⟨rfl, hb2⟩
  have HB2 := Lib.hid hb2
  clear hb2 c0
  have HDB := Lib.hid (fun k (h : (declS ms ms.length).testBit k = true) => declS_bit h)
  generalize hD : declS ms ms.length = D at *
  have HDD := Lib.hid hD
  clear hD
  have hSl : s &&& D < 1024 := Nat.lt_of_le_of_lt Nat.and_le_left hs
  have HSB := Lib.hid (fun k (h : (s &&& D).testBit k = true) => (sub_and.1 (fun i (hi : (s &&& D).testBit i = true) => hi)).2 k h)
  generalize hS : s &&& D = S at *
  have HSS := Lib.hid hS
  clear hS
  go_wp2_with fail
  rw [HAND.out]
  go_loopw [5, 6, 7] (fun lv gv av W => ∃ (left : Nat) (gs : List Int) (gw : Value) (again : Bool), lv = .int .i64 (left : Int) ∧ gv = gw ∧ av = .bool again ∧ W.ownsRow W1.heap.size 3 1 gw gs.length (gs.map (Value.int .i64)) ∧ Hid (ElimAt d ms S gs left) ∧ Hid (again = false → Closed d ms left) ∧ Hid (Below W1.heap.size W1 W)) (fun lv _ av _ => elimM av (intOf lv))
  case atStart => exact ⟨S, [], .slice none 0 0, true, rfl, rfl, rfl, World.ownsRow_nil _ _ _ _, Lib.hid (ElimAt.first hSl), Lib.hid (fun h => by cases h), HB2⟩
  case round =>
    obtain ⟨left, gs, gw, again, rfl, hgw, rfl, hown, hE, hCl, hB⟩ := hrel
    replace hgw := hgw.symm
    subst hgw
    have hll := hE.out.lt
    have hlen := hE.out.len
    cases again
    · have hcl := hCl.out rfl
      have HF := Lib.hid (And.intro (nodes_imp (Q := fun b => w.heap.size ≤ b) (NodesAt.of_own hown) (fun k hP => by have h1 := HG.out; have := hgl; omega)) (And.intro hll (And.intro (show gs.length ≤ 1023 by omega) (And.intro hE.out.elim (And.intro (hE.out.gr hcl) (bstep HBw.out hB.out))))))
      clear hcl hCl
      obtain ⟨Av, cv, rfl⟩ := own_slice hown
      clear hown
      go_wp2_with fail
      go_ret
      refine ⟨_, gs, left, rfl, ?_⟩
      rw [HDD.out, HSS.out]
      exact HF.out
    · have HOWN := Lib.hid hown
      clear hown hCl
      go_wp2_with fail
      refine (rnodes_run left _ hll).mono ?_
      rintro e W5 ⟨nv, rfl, hN, hb5⟩
      have HOWN5 := Lib.hid (own_bel HOWN.out hb5)
      have HB5 := Lib.hid (bstep hB.out hb5)
      have hnl := nodL_len left 10
      obtain ⟨nl, hnq⟩ : ∃ nl, nodL left 10 = nl := ⟨_, rfl⟩
      have HNL := Lib.hid hnq
      rw [hnq] at hN hnl
      obtain ⟨An, cn, rfl, hNc⟩ := hN
      have HNC := Lib.hid hNc
      have hgl5 : W1.heap.size ≤ W5.heap.size := HB5.out.size
      clear hb5 HOWN hNc hnq hB
      go_wp2_with fail
      go_loopw [5, 6, 7, 21] (fun lv gv av t W => ∃ j : Nat, j ≤ nl.length ∧ lv = .int .i64 (left : Int) ∧ gv = gw ∧ av = .bool false ∧ t = .int .i64 j ∧ Hid (∀ i k : Nat, i < j → nl[i]? = some (k : Int) → uns d ms left k = false) ∧ Hid (Below W5.heap.size W5 W)) (fun _ _ _ t _ => nl.length - (intOf t).toNat)
      case atStart => exact ⟨0, by omega, rfl, rfl, rfl, rfl, Lib.hid (fun i k hi => by omega), Lib.hid (bref _)⟩
      case round =>
        obtain ⟨j, hj, rfl, hgv, rfl, rfl, hNo, hB⟩ := hrel
        subst hgv
        have c1 : wr.cell? ⟨g, 0, none⟩ = some (.slice A ms.length c) := ((bstep HB5.out hB.out).cell hgl).trans (cell_of_row _ _ 0 _ _ (0, 0) K0.out)
        by_cases hlt : j < nl.length
        · obtain ⟨b, off, rfl, _, hc⟩ := HNC.out j hlt
          have hx0 : nl[j]? = some (nl.getD j 0) := by rw [List.getD_eq_getElem?_getD, List.getElem?_eq_getElem hlt]; rfl
          obtain ⟨k, hk, hk10, hbit⟩ := (nodL_mem left 10 (nl.getD j 0)).1 (by rw [HNL.out]; exact List.mem_of_getElem? hx0)
          rw [hk] at hc hx0
          have HX0 := Lib.hid hx0
          clear hk hx0
          have hkm := HDB.out k (HSB.out k (hE.out.sub k hbit))
          obtain ⟨m, hm⟩ : ∃ m, ms[k]? = some m := ⟨_, List.getElem?_eq_getElem hkm⟩
          have d1 := (hB.out.cell (cell_lt hc)).trans hc
          obtain ⟨bm, om, t, A1, n1, c1', A2, n2, c2, hA, hP, hbl, e0, e1, e2, e3, hT⟩ := memBox (H.out.below (bstep HB5.out hB.out)) hm
          subst hA
          have htr : trOf ms k = m.2 := by unfold trOf; rw [List.getD_eq_getElem?_getD, hm]; rfl
          obtain ⟨dec, T⟩ := m
          have HUN := Lib.hid (show uns d ms left k = !satB d T (left : Int) by unfold uns; rw [htr, hasB_bit hll hk10, hbit]; rfl)
          have HTm := Lib.hid hT
          clear hm htr hT hc e0
          go_wp2_with fail
          refine (rsat_run _ d T _ _ _ left _ hll HTm.out).mono ?_
          rintro e W6 ⟨rfl, hb6⟩
          have HB6 := Lib.hid (bstep hB.out hb6)
          clear hb6 c1
          cases hsat : satB d T (left : Int)
          · have hU : uns d ms left k = true := by rw [HUN.out, hsat]; rfl
            obtain ⟨_, hE2⟩ := hE.out.step hl hkm hU
            have HE2 := Lib.hid hE2
            have HSUB := Lib.hid (rsub64 left k hll hk10 hbit)
            have hle := bit_le hbit
            have hp : 1 ≤ 2 ^ k := Nat.one_le_pow _ _ (by omega)
            have hrn : left - 2 ^ k < left := by omega
            have hk0 : (0 : Int) ≤ (k : Int) := by omega
            have hown6 := own_bel HOWN5.out HB6.out
            have hbs := HB6.out.size
            clear hsat hU hE2 hbit
            go_wp2_with (at_builtin; refine wpList_append_own _ rfl _ _ 22 rfl W1.heap.size 3 i0 (.int .i64 0) 1 8 Try.underlying22 hin hz0 hz1 hz2 rfl (by decide) _ _ _ rfl (hown6.alloc _) ⟨W6.heap.size, 0, none⟩ 1 1 [.int .i64 (k : Int)] rfl rfl (cell_one_new _ _ _) (fun u hu => by simp at hu; subst hu; rfl) (by unfold maxLen; omega) (by omega) (by simp; omega) ?_; intro v' w1 hown' hgrow hnil)
            have HO := Lib.hid (own_snoc hown')
            have HB7 := Lib.hid (Below.grown (balloc (bstep HB5.out HB6.out) (.cells #[.int .i64 (k : Int)] 3)) hgrow (by simp; omega) (fun q hq => (hown6.lt q hq).1))
            clear hown' hgrow hnil hown6
            try rw [HSUB.out]
            go_roundw
            case rel => exact ⟨left - 2 ^ k, gs ++ [(k : Int)], _, true, rfl, rfl, rfl, by simpa using HO.out, HE2, Lib.hid (fun h => by cases h), HB7⟩
            case measure => simp [intOf, elimM]; omega
          · have HN2 := Lib.hid (show ∀ i q : Nat, i < j + 1 → nl[i]? = some (q : Int) → uns d ms left q = false from fun i q hi hq => by
              rcases Nat.lt_or_ge i j with h1 | h1
              · exact hNo.out i q h1 hq
              · obtain rfl : i = j := by omega
                rw [HX0.out] at hq
                have : k = q := by have := Option.some.inj hq; omega
                rw [← this, HUN.out, hsat]; rfl)
            clear hsat hbit
            go_wp2_with fail
            go_roundw
            case rel => exact ⟨j + 1, by omega, rfl, rfl, rfl, by go_num, HN2, HB6⟩
            case measure => simp [intOf]; omega
        · obtain rfl : j = nl.length := by omega
          have HC := Lib.hid (show Closed d ms left from fun k hk => by
            cases hb : left.testBit k
            · unfold uns; rw [hasB_bit hll (by omega), hb]; rfl
            · have hm : (k : Int) ∈ nodL left 10 := (nodL_mem left 10 _).2 ⟨k, rfl, by omega, hb⟩
              rw [HNL.out] at hm
              obtain ⟨i, hi, he⟩ := List.getElem_of_mem hm
              exact hNo.out i k hi (by rw [List.getElem?_eq_getElem hi, he]))
          have HOW := Lib.hid (own_bel HOWN5.out hB.out)
          have HBB := Lib.hid (bstep HB5.out hB.out)
          clear c1
          go_wp2_with fail
          go_roundw
          case rel => exact ⟨left, gs, _, false, rfl, rfl, rfl, HOW.out, hE, Lib.hid (fun _ => HC.out), HBB⟩
          case measure => simp [intOf, elimM]

set_option maxRecDepth 100000 in
set_option maxHeartbeats 2000000 in
theorem rgreatest_run (P : Nat → Prop) (d : Nat) (ms : List Mem) (v : Value) (s : Nat) (w : World) (hl : ms.length ≤ 10) (hs : s < 1024) (h : MemsAt P d w v ms) :
    Calls Try.prog 46 #[.agg #[v], .int .i64 (s : Int)] w fun e w' => ∃ G : Nat, e = .returned (.int .i64 (G : Int)) ∧ G < 1024 ∧ IsGr d ms (s &&& declS ms ms.length) G ∧ Below w.heap.size w w' := by
  have hsv := Lib.hid (show setB (s : Int) = true from setB_iff.2 ⟨by omega, by omega⟩)
  have hdl := declS_lt ms ms.length hl
  have HAND := Lib.hid (i64_and_nat s (declS ms ms.length) (by omega) (by omega))
  obtain ⟨A, c, rfl⟩ := h.slice
  have hb1 : Below w.heap.size w (w.alloc (.cells #[.slice A ms.length c] 27)) := balloc (bref w) _
  have k0 : (w.alloc (.cells #[.slice A ms.length c] 27)).heap[w.heap.size]? = some (.cells #[.slice A ms.length c] 27 (0, 0)) := alloc_at rfl
  have H := Lib.hid (h.below hb1)
  have HB := Lib.hid hb1
  have K0 := Lib.hid k0
  clear h hb1 k0
  go_enter Try.func46, Try.ntmps46
  go_upto_region 1 with fail
  generalize w.alloc (.cells #[.slice A ms.length c] 27) = W1 at *
  generalize hg : w.heap.size = g at *
  have HG := Lib.hid hg
  clear hg
  have c0 : W1.cell? ⟨g, 0, none⟩ = some (.slice A ms.length c) := cell_of_row _ _ 0 _ _ (0, 0) K0.out
  have hgl := cell_lt c0
  have HBw := Lib.hid (show Below w.heap.size w W1 by rw [HG.out]; exact HB.out)
  go_wp2_with fail
  refine (rsetValid_run _ _).mono ?_
  rintro e w2 ⟨rfl, rfl⟩
  rw [hsv.out]
  go_wp2_with fail
  refine (rdeclared_run _ d ms _ _ hl H.out).mono ?_
  rintro e W2 ⟨rfl, hb2⟩
  have HB2 := Lib.hid hb2
  have c2 := (hb2.cell hgl).trans c0
  clear hb2 c0
  have hSl : s &&& declS ms ms.length < 1024 := Nat.lt_of_le_of_lt Nat.and_le_left hs
  go_wp2_with fail
  rw [HAND.out]
  refine (relim_run _ d ms _ s _ hl hs (H.out.below HB2.out)).mono ?_
  rintro e W3 ⟨gv, gs, G, rfl, hN, hGl, hlen, hel, hgr, hb3⟩
  have HB3 := Lib.hid (bstep HB2.out hb3)
  have HGR := Lib.hid hgr
  have HEL := Lib.hid hel
  obtain ⟨Ag, cg, rfl, hNc⟩ := hN
  have HNC := Lib.hid hNc
  clear hb3 c2 hgr hel hNc
  obtain ⟨S, hS⟩ : ∃ S, s &&& declS ms ms.length = S := ⟨_, rfl⟩
  have HSS := Lib.hid hS
  rw [hS] at hSl
  clear hS
  have HEL1 := Lib.hid (show ElimR d ms S gs G by rw [← HSS.out]; exact HEL.out)
  clear HEL
  go_wp2_with fail
  rw [HSS.out]
  go_loopw [5, 19] (fun a t W => ∃ (j rest : Nat), j ≤ gs.length ∧ a = .int .i64 (rest : Int) ∧ t = .int .i64 j ∧ rest < 1024 ∧ Hid (ElimR d ms rest (gs.drop j) G) ∧ Hid (Below W3.heap.size W3 W)) (fun _ t _ => gs.length - (intOf t).toNat)
  case atStart => exact ⟨0, S, by omega, rfl, rfl, hSl, by simpa using HEL1, Lib.hid (bref _)⟩
  case round =>
    obtain ⟨j, rest, hj, rfl, rfl, hrl, hEl, hB⟩ := hrel
    by_cases hlt : j < gs.length
    · obtain ⟨b, off, rfl, _, hc⟩ := HNC.out j hlt
      have hel := hEl.out
      rw [drop_cons hlt] at hel
      obtain ⟨k, hx, hkm, hu, hel2⟩ := hel
      rw [hx] at hc
      have d1 := (hB.out.cell (cell_lt hc)).trans hc
      unfold uns at hu
      simp only [Bool.and_eq_true] at hu
      have hbit : rest.testBit k = true := by rw [← hasB_bit hrl (by omega)]; exact hu.1
      have HSUB := Lib.hid (rsub64 rest k hrl (by omega) hbit)
      have HEL2 := Lib.hid hel2
      have hrl2 : rest - 2 ^ k < 1024 := Nat.lt_of_le_of_lt (Nat.sub_le _ _) hrl
      have hk0 : (0 : Int) ≤ (k : Int) := by omega
      clear hc hx hu hel2 hbit
      go_wp2_with fail
      rw [HSUB.out]
      go_roundw
      case rel => exact ⟨j + 1, rest - 2 ^ k, by omega, rfl, by go_num, hrl2, HEL2, hB⟩
      case measure => simp [intOf]; omega
    · obtain rfl : j = gs.length := by omega
      have hrr := hEl.out
      rw [List.drop_length] at hrr
      obtain rfl : G = rest := hrr
      have HZ := Lib.hid (bstep HBw.out (bstep HB3.out hB.out))
      go_wp2_with fail
      go_ret
      exact ⟨G, rfl, hrl, HGR.out, HZ.out⟩

end Go.Proofs.Ytfghnkgllmofgaa
