/- What the laws of this seat share: part 3. -/
import Derived.Test.YtobdnepmjcbjeaaGreatB2
import Derived.Deep.RegionHeld3
import Derived.Sort.Grow
import Derived.Deep.WholeRow

namespace Go.Proofs.YtobdnepmjcbjeaaGreat
set_option linter.unusedVariables false
set_option linter.unusedSimpArgs false
open Go.RowKit

theorem rsub64 (r k : Nat) (hr : r < 1024) (hk : k < 10) (hb : r.testBit k = true) : wrap64 ((r : Int) - wrap64 (2 ^ k)) = ((r - 2 ^ k : Nat) : Int) := by
  have all : ∀ r : Fin 1024, ∀ k : Fin 10, r.val.testBit k.val = true → wrap64 ((r.val : Int) - wrap64 (2 ^ k.val)) = ((r.val - 2 ^ k.val : Nat) : Int) := by decide +kernel
  exact all ⟨r, hr⟩ ⟨k, hk⟩ hb

def elimM (a : Value) (r : Int) : Nat := match a with
  | .bool true => r.toNat + 1
  | _ => 0

set_option maxRecDepth 100000 in
set_option maxHeartbeats 4000000 in
theorem relim_run (P : Nat → Prop) (d : Nat) (ms : List Mem) (v : Value) (s : Nat) (w : World) (hl : ms.length ≤ 10) (hs : s < 1024) (h : MemsAt P d w v ms) :
    Calls Tryz.prog 47 #[.agg #[v], .int .i64 (s : Int)] w fun e w' => ∃ (gv : Value) (gs : List Int) (G : Nat), e = .returned gv ∧ NodesAt (fun b => w.heap.size ≤ b) w' gv gs ∧ G < 1024 ∧ gs.length ≤ 1023 ∧ ElimR d ms (s &&& declS ms ms.length) gs G ∧ IsGr d ms (s &&& declS ms ms.length) G ∧ Below w.heap.size w w' := by
  obtain ⟨i0, hin, hz0, hz1, hz2⟩ := info_parts infoInt
  have hsv := Lib.hid (show setB (s : Int) = true from setB_iff.2 ⟨by omega, by omega⟩)
  have hdl := declS_lt ms ms.length hl
  have HAND := Lib.hid (i64_and_nat s (declS ms ms.length) (by omega) (by omega))
  obtain ⟨A, c, rfl⟩ := h.slice
  have hb1 : Below w.heap.size w (w.alloc (.cells #[.slice A ms.length c] 27)) := balloc (bref w) _
  have k0 : (w.alloc (.cells #[.slice A ms.length c] 27)).heap[w.heap.size]? = some (.cells #[.slice A ms.length c] 27 (0, 0)) := alloc_at rfl
  have H := Lib.hid (h.below hb1)
  have HB := Lib.hid hb1
  have K0 := Lib.hid k0
  clear h hb1 k0
  go_enter Tryz.func47, Tryz.ntmps47
  go_upto_region 1 with fail
  generalize w.alloc (.cells #[.slice A ms.length c] 27) = W1 at *
  generalize hg : w.heap.size = g at *
  have HG := Lib.hid hg
  clear hg
  have c0 : W1.cell? ⟨g, 0, none⟩ = some (.slice A ms.length c) := cell_of_row _ _ 0 _ _ (0, 0) K0.out
  have hgl := cell_lt c0
  have HBw := Lib.hid (show Below w.heap.size w W1 by rw [HG.out]; exact HB.out)
  go_wp2_with fail
  refine (rsetValid_run _ _).mono ?_
  rintro e w2 ⟨rfl, rfl⟩
  rw [hsv.out]
  go_wp2_with fail
  refine (rdeclared_run _ d ms _ _ hl H.out).mono ?_
  rintro e W2 ⟨rfl, hb2⟩
  have HB2 := Lib.hid hb2
  clear hb2 c0
  have HDB := Lib.hid (fun k (h : (declS ms ms.length).testBit k = true) => declS_bit h)
  generalize hD : declS ms ms.length = D at *
  have HDD := Lib.hid hD
  clear hD
  have hSl : s &&& D < 1024 := Nat.lt_of_le_of_lt Nat.and_le_left hs
  have HSB := Lib.hid (fun k (h : (s &&& D).testBit k = true) => (sub_and.1 (fun i (hi : (s &&& D).testBit i = true) => hi)).2 k h)
  generalize hS : s &&& D = S at *
  have HSS := Lib.hid hS
  clear hS
  go_wp2_with fail
  rw [HAND.out]
  go_loopw [5, 6, 7] (fun lv gv av W => ∃ (left : Nat) (gs : List Int) (gw : Value) (again : Bool), lv = .int .i64 (left : Int) ∧ gv = gw ∧ av = .bool again ∧ W.ownsRow W1.heap.size 3 1 gw gs.length (gs.map (Value.int .i64)) ∧ Hid (ElimAt d ms S gs left) ∧ Hid (again = false → Closed d ms left) ∧ Hid (Below W1.heap.size W1 W)) (fun lv _ av _ => elimM av (intOf lv))
  case atStart => exact ⟨S, [], .slice none 0 0, true, rfl, rfl, rfl, World.ownsRow_nil _ _ _ _, Lib.hid (ElimAt.first hSl), Lib.hid (fun h => by cases h), HB2⟩
  case round =>
    obtain ⟨left, gs, gw, again, rfl, hgw, rfl, hown, hE, hCl, hB⟩ := hrel
    replace hgw := hgw.symm
    subst hgw
    have hll := hE.out.lt
    have hlen := hE.out.len
    cases again
    · have hcl := hCl.out rfl
      have HF := Lib.hid (And.intro (nodes_imp (Q := fun b => w.heap.size ≤ b) (NodesAt.of_own hown) (fun k hP => by have h1 := HG.out; have := hgl; omega)) (And.intro hll (And.intro (show gs.length ≤ 1023 by omega) (And.intro hE.out.elim (And.intro (hE.out.gr hcl) (bstep HBw.out hB.out))))))
      clear hcl hCl
      obtain ⟨Av, cv, rfl⟩ := own_slice hown
      clear hown
      go_wp2_with fail
      go_ret
      refine ⟨_, gs, left, rfl, ?_⟩
      rw [HDD.out, HSS.out]
      exact HF.out
    · have HOWN := Lib.hid hown
      clear hown hCl
      go_wp2_with fail
      refine (rnodes_run left _ hll).mono ?_
      rintro e W5 ⟨nv, rfl, hN, hb5⟩
      have HOWN5 := Lib.hid (own_bel HOWN.out hb5)
      have HB5 := Lib.hid (bstep hB.out hb5)
      have hnl := nodL_len left 10
      obtain ⟨nl, hnq⟩ : ∃ nl, nodL left 10 = nl := ⟨_, rfl⟩
      have HNL := Lib.hid hnq
      rw [hnq] at hN hnl
      obtain ⟨An, cn, rfl, hNc⟩ := hN
      have HNC := Lib.hid hNc
      have hgl5 : W1.heap.size ≤ W5.heap.size := HB5.out.size
      clear hb5 HOWN hNc hnq hB
      go_wp2_with fail
      go_loopw [5, 6, 7, 21] (fun lv gv av t W => ∃ j : Nat, j ≤ nl.length ∧ lv = .int .i64 (left : Int) ∧ gv = gw ∧ av = .bool false ∧ t = .int .i64 j ∧ Hid (∀ i k : Nat, i < j → nl[i]? = some (k : Int) → uns d ms left k = false) ∧ Hid (Below W5.heap.size W5 W)) (fun _ _ _ t _ => nl.length - (intOf t).toNat)
      case atStart => exact ⟨0, by omega, rfl, rfl, rfl, rfl, Lib.hid (fun i k hi => by omega), Lib.hid (bref _)⟩
      case round =>
        obtain ⟨j, hj, rfl, hgv, rfl, rfl, hNo, hB⟩ := hrel
        subst hgv
        have c1 : wr.cell? ⟨g, 0, none⟩ = some (.slice A ms.length c) := ((bstep HB5.out hB.out).cell hgl).trans (cell_of_row _ _ 0 _ _ (0, 0) K0.out)
        by_cases hlt : j < nl.length
        · obtain ⟨b, off, rfl, _, hc⟩ := HNC.out j hlt
          have hx0 : nl[j]? = some (nl.getD j 0) := by rw [List.getD_eq_getElem?_getD, List.getElem?_eq_getElem hlt]; rfl
          obtain ⟨k, hk, hk10, hbit⟩ := (nodL_mem left 10 (nl.getD j 0)).1 (by rw [HNL.out]; exact List.mem_of_getElem? hx0)
          rw [hk] at hc hx0
          have HX0 := Lib.hid hx0
          clear hk hx0
          have hkm := HDB.out k (HSB.out k (hE.out.sub k hbit))
          obtain ⟨m, hm⟩ : ∃ m, ms[k]? = some m := ⟨_, List.getElem?_eq_getElem hkm⟩
          have d1 := (hB.out.cell (cell_lt hc)).trans hc
          obtain ⟨bm, om, t, A1, n1, c1', A2, n2, c2, hA, hP, hbl, e0, e1, e2, e3, hT⟩ := memBox (H.out.below (bstep HB5.out hB.out)) hm
          subst hA
          have htr : trOf ms k = m.2 := by unfold trOf; rw [List.getD_eq_getElem?_getD, hm]; rfl
          obtain ⟨dec, T⟩ := m
          have HUN := Lib.hid (show uns d ms left k = !satB d T (left : Int) by unfold uns; rw [htr, hasB_bit hll hk10, hbit]; rfl)
          have HTm := Lib.hid hT
          clear hm htr hT hc e0
          go_wp2_with fail
          refine (rsat_run _ d T _ _ _ left _ hll HTm.out).mono ?_
          rintro e W6 ⟨rfl, hb6⟩
          have HB6 := Lib.hid (bstep hB.out hb6)
          clear hb6 c1
          cases hsat : satB d T (left : Int)
          · have hU : uns d ms left k = true := by rw [HUN.out, hsat]; rfl
            obtain ⟨_, hE2⟩ := hE.out.step hl hkm hU
            have HE2 := Lib.hid hE2
            have HSUB := Lib.hid (rsub64 left k hll hk10 hbit)
            have hle := bit_le hbit
            have hp : 1 ≤ 2 ^ k := Nat.one_le_pow _ _ (by omega)
            have hrn : left - 2 ^ k < left := by omega
            have hk0 : (0 : Int) ≤ (k : Int) := by omega
            have hown6 := own_bel HOWN5.out HB6.out
            have hbs := HB6.out.size
            clear hsat hU hE2 hbit
            go_wp2_with (at_builtin; refine wpList_append_own _ rfl _ _ 22 rfl W1.heap.size 3 i0 (.int .i64 0) 1 8 Tryz.underlying22 hin hz0 hz1 hz2 rfl (by decide) _ _ _ rfl (hown6.alloc _) ⟨W6.heap.size, 0, none⟩ 1 1 [.int .i64 (k : Int)] rfl rfl (cell_one_new _ _ _) (fun u hu => by simp at hu; subst hu; rfl) (by unfold maxLen; omega) (by omega) (by simp; omega) ?_; intro v' w1 hown' hgrow hnil)
            have HO := Lib.hid (own_snoc hown')
            have HB7 := Lib.hid (Below.grown (balloc (bstep HB5.out HB6.out) (.cells #[.int .i64 (k : Int)] 3)) hgrow (by simp; omega) (fun q hq => (hown6.lt q hq).1))
            clear hown' hgrow hnil hown6
            try rw [HSUB.out]
            go_roundw
            case rel => exact ⟨left - 2 ^ k, gs ++ [(k : Int)], _, true, rfl, rfl, rfl, by simpa using HO.out, HE2, Lib.hid (fun h => by cases h), HB7⟩
            case measure => simp [intOf, elimM]; omega
          · have HN2 := Lib.hid (show ∀ i q : Nat, i < j + 1 → nl[i]? = some (q : Int) → uns d ms left q = false from fun i q hi hq => by
              rcases Nat.lt_or_ge i j with h1 | h1
              · exact hNo.out i q h1 hq
              · obtain rfl : i = j := by omega
                rw [HX0.out] at hq
                have : k = q := by have := Option.some.inj hq; omega
                rw [← this, HUN.out, hsat]; rfl)
            clear hsat hbit
            go_wp2_with fail
            go_roundw
            case rel => exact ⟨j + 1, by omega, rfl, rfl, rfl, by go_num, HN2, HB6⟩
            case measure => simp [intOf]; omega
        · obtain rfl : j = nl.length := by omega
          have HC := Lib.hid (show Closed d ms left from fun k hk => by
            cases hb : left.testBit k
            · unfold uns; rw [hasB_bit hll (by omega), hb]; rfl
            · have hm : (k : Int) ∈ nodL left 10 := (nodL_mem left 10 _).2 ⟨k, rfl, by omega, hb⟩
              rw [HNL.out] at hm
              obtain ⟨i, hi, he⟩ := List.getElem_of_mem hm
              exact hNo.out i k hi (by rw [List.getElem?_eq_getElem hi, he]))
          have HOW := Lib.hid (own_bel HOWN5.out hB.out)
          have HBB := Lib.hid (bstep HB5.out hB.out)
          clear c1
          go_wp2_with fail
          go_roundw
          case rel => exact ⟨left, gs, _, false, rfl, rfl, rfl, HOW.out, hE, Lib.hid (fun _ => HC.out), HBB⟩
          case measure => simp [intOf, elimM]

set_option maxRecDepth 100000 in
set_option maxHeartbeats 2000000 in
theorem rgreatest_run (P : Nat → Prop) (d : Nat) (ms : List Mem) (v : Value) (s : Nat) (w : World) (hl : ms.length ≤ 10) (hs : s < 1024) (h : MemsAt P d w v ms) :
    Calls Tryz.prog 20 #[.agg #[v], .int .i64 (s : Int)] w fun e w' => ∃ G : Nat, e = .returned (.int .i64 (G : Int)) ∧ G < 1024 ∧ IsGr d ms (s &&& declS ms ms.length) G ∧ Below w.heap.size w w' := by
  have hsv := Lib.hid (show setB (s : Int) = true from setB_iff.2 ⟨by omega, by omega⟩)
  have hdl := declS_lt ms ms.length hl
  have HAND := Lib.hid (i64_and_nat s (declS ms ms.length) (by omega) (by omega))
  obtain ⟨A, c, rfl⟩ := h.slice
  have hb1 : Below w.heap.size w (w.alloc (.cells #[.slice A ms.length c] 27)) := balloc (bref w) _
  have k0 : (w.alloc (.cells #[.slice A ms.length c] 27)).heap[w.heap.size]? = some (.cells #[.slice A ms.length c] 27 (0, 0)) := alloc_at rfl
  have H := Lib.hid (h.below hb1)
  have HB := Lib.hid hb1
  have K0 := Lib.hid k0
  clear h hb1 k0
  go_enter Tryz.func20, Tryz.ntmps20
  go_upto_region 1 with fail
  generalize w.alloc (.cells #[.slice A ms.length c] 27) = W1 at *
  generalize hg : w.heap.size = g at *
  have HG := Lib.hid hg
  clear hg
  have c0 : W1.cell? ⟨g, 0, none⟩ = some (.slice A ms.length c) := cell_of_row _ _ 0 _ _ (0, 0) K0.out
  have hgl := cell_lt c0
  have HBw := Lib.hid (show Below w.heap.size w W1 by rw [HG.out]; exact HB.out)
  go_wp2_with fail
  refine (rsetValid_run _ _).mono ?_
  rintro e w2 ⟨rfl, rfl⟩
  rw [hsv.out]
  go_wp2_with fail
  refine (rdeclared_run _ d ms _ _ hl H.out).mono ?_
  rintro e W2 ⟨rfl, hb2⟩
  have HB2 := Lib.hid hb2
  have c2 := (hb2.cell hgl).trans c0
  clear hb2 c0
  have hSl : s &&& declS ms ms.length < 1024 := Nat.lt_of_le_of_lt Nat.and_le_left hs
  go_wp2_with fail
  rw [HAND.out]
  refine (relim_run _ d ms _ s _ hl hs (H.out.below HB2.out)).mono ?_
  rintro e W3 ⟨gv, gs, G, rfl, hN, hGl, hlen, hel, hgr, hb3⟩
  have HB3 := Lib.hid (bstep HB2.out hb3)
  have HGR := Lib.hid hgr
  have HEL := Lib.hid hel
  obtain ⟨Ag, cg, rfl, hNc⟩ := hN
  have HNC := Lib.hid hNc
  clear hb3 c2 hgr hel hNc
  obtain ⟨S, hS⟩ : ∃ S, s &&& declS ms ms.length = S := ⟨_, rfl⟩
  have HSS := Lib.hid hS
  rw [hS] at hSl
  clear hS
  have HEL1 := Lib.hid (show ElimR d ms S gs G by rw [← HSS.out]; exact HEL.out)
  clear HEL
  go_wp2_with fail
  rw [HSS.out]
  go_loopw [5, 19] (fun a t W => ∃ (j rest : Nat), j ≤ gs.length ∧ a = .int .i64 (rest : Int) ∧ t = .int .i64 j ∧ rest < 1024 ∧ Hid (ElimR d ms rest (gs.drop j) G) ∧ Hid (Below W3.heap.size W3 W)) (fun _ t _ => gs.length - (intOf t).toNat)
  case atStart => exact ⟨0, S, by omega, rfl, rfl, hSl, by simpa using HEL1, Lib.hid (bref _)⟩
  case round =>
    obtain ⟨j, rest, hj, rfl, rfl, hrl, hEl, hB⟩ := hrel
    by_cases hlt : j < gs.length
    · obtain ⟨b, off, rfl, _, hc⟩ := HNC.out j hlt
      have hel := hEl.out
      rw [drop_cons hlt] at hel
      obtain ⟨k, hx, hkm, hu, hel2⟩ := hel
      rw [hx] at hc
      have d1 := (hB.out.cell (cell_lt hc)).trans hc
      unfold uns at hu
      simp only [Bool.and_eq_true] at hu
      have hbit : rest.testBit k = true := by rw [← hasB_bit hrl (by omega)]; exact hu.1
      have HSUB := Lib.hid (rsub64 rest k hrl (by omega) hbit)
      have HEL2 := Lib.hid hel2
      have hrl2 : rest - 2 ^ k < 1024 := Nat.lt_of_le_of_lt (Nat.sub_le _ _) hrl
      have hk0 : (0 : Int) ≤ (k : Int) := by omega
      clear hc hx hu hel2 hbit
      go_wp2_with fail
      rw [HSUB.out]
      go_roundw
      case rel => exact ⟨j + 1, rest - 2 ^ k, by omega, rfl, by go_num, hrl2, HEL2, hB⟩
      case measure => simp [intOf]; omega
    · obtain rfl : j = gs.length := by omega
      have hrr := hEl.out
      rw [List.drop_length] at hrr
      obtain rfl : G = rest := hrr
      have HZ := Lib.hid (bstep HBw.out (bstep HB3.out hB.out))
      go_wp2_with fail
      go_ret
      exact ⟨G, rfl, hrl, HGR.out, HZ.out⟩

end Go.Proofs.YtobdnepmjcbjeaaGreat

namespace Go.Proofs.YtobdnepmjcbjeaaGreat
set_option linter.unusedVariables false
set_option linter.unusedSimpArgs false
open Go.RowKit

def popk (s k : Nat) : Nat := (List.range k).countP (fun i => s.testBit i)

theorem popk_succ (s k : Nat) : popk s (k + 1) = popk s k + (s / 2 ^ k) % 2 := by
  unfold popk
  rw [List.range_succ, List.countP_append, List.countP_singleton, Nat.testBit_eq_decide_div_mod_eq]
  congr 1
  rcases Nat.mod_two_eq_zero_or_one (s / 2 ^ k) with h | h <;> simp [h]

theorem popk_le (s k : Nat) : popk s k ≤ k := by unfold popk; exact Nat.le_trans List.countP_le_length (by simp)

theorem popc_mono {a b : Nat} (h : Sub a b) : popc a ≤ popc b := by
  unfold popc
  exact List.countP_mono_left (fun i _ hi => h i hi)

theorem add_bit (s r k : Nat) (hs : s < 1024) (hr : r ≤ 10) : wrap64 ((r : Int) + bits .and .i64 ((s : Int) / 2 ^ k) 1) = ((r + (s / 2 ^ k) % 2 : Nat) : Int) := by
  have e : ((s : Int) / 2 ^ k) = ((s / 2 ^ k : Nat) : Int) := by
    rw [Int.natCast_ediv, Int.natCast_pow]; rfl
  have hq := Nat.div_le_self s (2 ^ k)
  have h1 := i64_and_nat (s / 2 ^ k) 1 (by omega) (by omega)
  rw [e, show (1 : Int) = ((1 : Nat) : Int) from rfl, h1, Nat.and_one_is_mod]
  unfold wrap64
  omega

set_option maxHeartbeats 2000000 in
theorem rsetSize_run (s : Nat) (hs : s < 1024) (w : World) : Calls Tryz.prog 81 #[.int .i64 (s : Int)] w fun e w' => e = .returned (.int .i64 (popc s : Nat)) ∧ w = w' := by
  have hsv := Lib.hid (show setB (s : Int) = true from setB_iff.2 ⟨by omega, by omega⟩)
  go_enter Tryz.func81, Tryz.ntmps81
  go_wp2_with fail
  go_loop [3, 4] (fun v t => ∃ k : Nat, k ≤ 10 ∧ v = .int .i64 (popk s k : Nat) ∧ t = .int .i64 k) (fun _ t => 10 - (intOf t).toNat)
  case atStart => exact ⟨0, by omega, rfl, rfl⟩
  case round =>
    obtain ⟨k, hk, rfl, rfl⟩ := hrel
    by_cases hlt : k < 10
    · have HA := Lib.hid (add_bit s (popk s k) k hs (Nat.le_trans (popk_le s k) hk))
      rw [← popk_succ] at HA
      go_wp2_with fail
      refine (rsetValid_run _ _).mono ?_
      rintro e w2 ⟨rfl, rfl⟩
      rw [hsv.out]
      go_wp2_with fail
      rw [HA.out]
      go_round
      case rel => exact ⟨k + 1, by omega, rfl, by go_num⟩
      case measure => simp [intOf]; omega
    · obtain rfl : k = 10 := by omega
      go_wp2_with fail
      go_ret
      exact ⟨rfl, rfl⟩

/-- The subsets of s among the sets before x of size n. -/
def SubL (s n x : Nat) (l : List Int) : Prop := l.length ≤ 1024 * n + x ∧ ∀ t : Int, t ∈ l ↔ ∃ q : Nat, t = (q : Int) ∧ Sub q s ∧ q ≤ s ∧ (popc q < n ∨ (popc q = n ∧ q < x))

theorem SubL.nil (s : Nat) : SubL s 0 0 [] := ⟨by simp, fun t => by
  constructor
  · intro h; cases h
  · rintro ⟨q, _, _, _, h | ⟨_, h⟩⟩ <;> omega⟩

theorem SubL.turn {s n : Nat} {l : List Int} (hs : s < 1024) (h : SubL s n (s + 1) l) : SubL s (n + 1) 0 l := ⟨by have := h.1; omega, fun t => by
  rw [h.2 t]
  constructor
  · rintro ⟨q, e, hq, hle, h⟩; exact ⟨q, e, hq, hle, by omega⟩
  · rintro ⟨q, e, hq, hle, h⟩; exact ⟨q, e, hq, hle, by omega⟩⟩

theorem SubL.skip {s n x : Nat} {l : List Int} (h : SubL s n x l) (hn : ¬ (Sub x s ∧ popc x = n)) : SubL s n (x + 1) l := ⟨by have := h.1; omega, fun t => by
  rw [h.2 t]
  constructor
  · rintro ⟨q, e, hq, hle, h⟩; exact ⟨q, e, hq, hle, by omega⟩
  · rintro ⟨q, e, hq, hle, h⟩
    refine ⟨q, e, hq, hle, ?_⟩
    rcases h with h | ⟨h1, h2⟩
    · exact .inl h
    · by_cases hx : q = x
      · subst hx; exact (hn ⟨hq, h1⟩).elim
      · exact .inr ⟨h1, by omega⟩⟩

theorem SubL.take {s n x : Nat} {l : List Int} (h : SubL s n x l) (hx : x ≤ s) (h1 : Sub x s) (h2 : popc x = n) : SubL s n (x + 1) (l ++ [(x : Int)]) := ⟨by have := h.1; simp; omega, fun t => by
  rw [List.mem_append, h.2 t, List.mem_singleton]
  constructor
  · rintro (⟨q, e, hq, hle, h⟩ | rfl)
    · exact ⟨q, e, hq, hle, by omega⟩
    · exact ⟨x, rfl, h1, hx, .inr ⟨h2, by omega⟩⟩
  · rintro ⟨q, e, hq, hle, h⟩
    by_cases hqx : q = x ∧ popc q = n
    · right; rw [e, hqx.1]
    · left; exact ⟨q, e, hq, hle, by omega⟩⟩

theorem SubL.full {s : Nat} {l : List Int} (h : SubL s (popc s + 1) 0 l) : ∀ t : Int, t ∈ l ↔ ∃ q : Nat, t = (q : Int) ∧ Sub q s := fun t => by
  rw [h.2 t]
  constructor
  · rintro ⟨q, e, hq, _, _⟩; exact ⟨q, e, hq⟩
  · rintro ⟨q, e, hq⟩
    refine ⟨q, e, hq, ?_, .inl ?_⟩
    · rw [← and_self_sub.2 hq]; exact Nat.and_le_right
    · have := popc_mono hq; omega

end Go.Proofs.YtobdnepmjcbjeaaGreat

namespace Go.Proofs.YtobdnepmjcbjeaaGreat
set_option linter.unusedVariables false
set_option linter.unusedSimpArgs false
open Go.RowKit

theorem outS_sub (n s : Nat) (hn : n ≤ 10) (hs : s ≤ 2 ^ n - 1) : IntKind.i64.wrap (((2 ^ n - 1 : Nat) : Int) - (s : Int)) = ((outS n s : Nat) : Int) := by
  have all : ∀ n : Fin 11, ∀ s : Fin 1024, s.val ≤ 2 ^ n.val - 1 → 2 ^ n.val - 1 - s.val = outS n.val s.val := by decide +kernel
  have hp2 : 2 ^ n ≤ 2 ^ 10 := Nat.pow_le_pow_right (by omega) hn
  have e : 2 ^ n - 1 - s = outS n s := all ⟨n, by omega⟩ ⟨s, by omega⟩ hs
  rw [← e]
  exact (IntWalk.i64_in _ (by omega)).trans (by omega)

theorem sub_ones {n s : Nat} (hn : n ≤ 10) : Sub s (2 ^ n - 1) → s ≤ 2 ^ n - 1 := fun h => by
  rw [← and_self_sub.2 h]; exact Nat.and_le_right

theorem sub_all {n s : Nat} (h : ∀ k, s.testBit k = true → k < n) : Sub s (2 ^ n - 1) := fun k hk => by
  rw [Nat.testBit_two_pow_sub_one, decide_eq_true (h k hk)]

/-- What the reference's apart returns. -/
def RApart (d : Nat) (ms : List Mem) (e : Ending) : Prop := (∃ a b : Nat, e = .returned (.tuple #[.int .i64 (a : Int), .int .i64 (b : Int)]) ∧ Apart d ms a) ∨
  (e = .returned (.tuple #[.int .i64 0, .int .i64 0]) ∧ ∀ t, ¬ Apart d ms t)

end Go.Proofs.YtobdnepmjcbjeaaGreat

namespace Go.Proofs.YtobdnepmjcbjeaaGreat
set_option linter.unusedVariables false
set_option linter.unusedSimpArgs false
open Go.RowKit

theorem pow11' (L : Nat) (hL : L ≤ 11) : IntKind.i64.wrap (2 ^ L) = ((2 ^ L : Nat) : Int) := by
  have all : ∀ L : Fin 12, IntKind.i64.wrap (2 ^ L.val) = ((2 ^ L.val : Nat) : Int) := by decide +kernel
  exact all ⟨L, by omega⟩

theorem ltpow_of_bits (U n : Nat) (h : ∀ k, U.testBit k = true → k < n) : U < 2 ^ n := Nat.lt_pow_two_of_testBit U (fun i hi => by
  cases hb : U.testBit i
  · rfl
  · have := h i hb; omega)

theorem stKeep {W1 W W' : World} {g b off m c r n1 c1 n2 c2 : Nat} {t : Int} {A1 A2 : Option Addr} {P : Nat → Prop} {T : Tree} (h : W.cell? ⟨g, 0, none⟩ = some (.slice (some ⟨b, off, none⟩) m c) ∧ W.cell? ⟨r, 1, none⟩ = some (.int .i64 t) ∧ W.cell? ⟨r, 2, none⟩ = some (.slice A1 n1 c1) ∧ W.cell? ⟨r, 3, none⟩ = some (.slice A2 n2 c2) ∧ TAt P 2 W (.int .i64 t) (.slice A1 n1 c1) (.slice A2 n2 c2) T ∧ Below W1.heap.size W1 W) (hb : Below W.heap.size W W') : W'.cell? ⟨g, 0, none⟩ = some (.slice (some ⟨b, off, none⟩) m c) ∧ W'.cell? ⟨r, 1, none⟩ = some (.int .i64 t) ∧ W'.cell? ⟨r, 2, none⟩ = some (.slice A1 n1 c1) ∧ W'.cell? ⟨r, 3, none⟩ = some (.slice A2 n2 c2) ∧ TAt P 2 W' (.int .i64 t) (.slice A1 n1 c1) (.slice A2 n2 c2) T ∧ Below W1.heap.size W1 W' :=
  ⟨(hb.cell (cell_lt h.1)).trans h.1, (hb.cell (cell_lt h.2.1)).trans h.2.1, (hb.cell (cell_lt h.2.2.1)).trans h.2.2.1, (hb.cell (cell_lt h.2.2.2.1)).trans h.2.2.2.1, h.2.2.2.2.1.below hb, bstep h.2.2.2.2.2 hb⟩

theorem stT {W1 W : World} {g b off m c r n1 c1 n2 c2 : Nat} {t : Int} {A1 A2 : Option Addr} {P : Nat → Prop} {T : Tree} (h : W.cell? ⟨g, 0, none⟩ = some (.slice (some ⟨b, off, none⟩) m c) ∧ W.cell? ⟨r, 1, none⟩ = some (.int .i64 t) ∧ W.cell? ⟨r, 2, none⟩ = some (.slice A1 n1 c1) ∧ W.cell? ⟨r, 3, none⟩ = some (.slice A2 n2 c2) ∧ TAt P 2 W (.int .i64 t) (.slice A1 n1 c1) (.slice A2 n2 c2) T ∧ Below W1.heap.size W1 W) : TAt P 2 W (.int .i64 t) (.slice A1 n1 c1) (.slice A2 n2 c2) T := h.2.2.2.2.1

set_option maxHeartbeats 400000 in
theorem rsame01_run (A A' : Option Addr) (c c' : Nat) (w : World) : Calls Tryz.prog 80 #[.slice A 0 c, .slice A' 0 c'] w fun e w' => e = .returned (.bool true) ∧ w = w' := by
  go_enter Tryz.func80, Tryz.ntmps80
  go_wp2_with fail
  go_loop [13] (fun t => t = .int .i64 0) (fun _ => 0)
  case atStart => rfl
  case round =>
    subst hrel
    go_wp2_with fail
    go_ret
    exact ⟨rfl, rfl⟩

set_option maxHeartbeats 1000000 in
theorem rsame0_run (A B A' B' : Option Addr) (c c' ca cb : Nat) (w : World) : Calls Tryz.prog 58 #[.agg #[.int .i64 0, .slice A 0 c, .slice B 0 c'], .agg #[.int .i64 0, .slice A' 0 ca, .slice B' 0 cb]] w fun e w' => e = .returned (.bool true) ∧ Below w.heap.size w w' := by
  have hb2 : Below w.heap.size w ((w.alloc (.cells #[.int .i64 0, .slice A 0 c, .slice B 0 c'] 51)).alloc (.cells #[.int .i64 0, .slice A' 0 ca, .slice B' 0 cb] 51)) := balloc (balloc (bref w) _) _
  have k0 : ((w.alloc (.cells #[.int .i64 0, .slice A 0 c, .slice B 0 c'] 51)).alloc (.cells #[.int .i64 0, .slice A' 0 ca, .slice B' 0 cb] 51)).heap[w.heap.size]? = some (.cells #[.int .i64 0, .slice A 0 c, .slice B 0 c'] 51 (0, 0)) := alloc_on (alloc_at rfl)
  have k1 : ((w.alloc (.cells #[.int .i64 0, .slice A 0 c, .slice B 0 c'] 51)).alloc (.cells #[.int .i64 0, .slice A' 0 ca, .slice B' 0 cb] 51)).heap[w.heap.size + 1]? = some (.cells #[.int .i64 0, .slice A' 0 ca, .slice B' 0 cb] 51 (0, 0)) := alloc_at (alloc_sz _ _)
  have HB := Lib.hid hb2
  have K0 := Lib.hid k0
  have K1 := Lib.hid k1
  clear hb2 k0 k1
  go_enter Tryz.func58, Tryz.ntmps58
  go_upto_region 1 with fail
  generalize ((w.alloc (.cells #[.int .i64 0, .slice A 0 c, .slice B 0 c'] 51)).alloc (.cells #[.int .i64 0, .slice A' 0 ca, .slice B' 0 cb] 51)) = W2 at *
  generalize hg : w.heap.size = g at *
  have HG := Lib.hid hg
  clear hg
  have c0 : W2.cell? ⟨g, 0, none⟩ = some (.int .i64 0) := cell_of_row _ _ 0 _ _ (0, 0) K0.out
  have c1 : W2.cell? ⟨g, 1, none⟩ = some (.slice A 0 c) := cell_of_row _ _ 1 _ _ (0, 0) K0.out
  have c2 : W2.cell? ⟨g, 2, none⟩ = some (.slice B 0 c') := cell_of_row _ _ 2 _ _ (0, 0) K0.out
  have d0 : W2.cell? ⟨g + 1, 0, none⟩ = some (.int .i64 0) := cell_of_row _ _ 0 _ _ (0, 0) K1.out
  have d1 : W2.cell? ⟨g + 1, 1, none⟩ = some (.slice A' 0 ca) := cell_of_row _ _ 1 _ _ (0, 0) K1.out
  have d2 : W2.cell? ⟨g + 1, 2, none⟩ = some (.slice B' 0 cb) := cell_of_row _ _ 2 _ _ (0, 0) K1.out
  go_wp2_with fail
  refine (rsame01_run _ _ _ _ _).mono ?_
  rintro e w3 ⟨rfl, rfl⟩
  go_wp2_with fail
  go_loop [31] (fun t => t = .int .i64 0) (fun _ => 0)
  case atStart => rfl
  case round =>
    subst hrel
    go_wp2_with fail
    go_ret
    rw [← HG.out] at HB ⊢
    exact ⟨rfl, HB.out⟩

set_option maxRecDepth 100000 in
set_option maxHeartbeats 2000000 in
theorem rtvalid_run (P : Nat → Prop) (n : Int) (hn10 : n ≤ 10) (d : Nat) (hd : d ≤ 4) (T : Tree) (v0 v1 v2 : Value) (w : World) (h : TAt P d w v0 v1 v2 T) (hW : WF n d T) (hz0 : sizeT d T ≤ 200) :
    Calls Tryz.prog 51 #[.agg #[v0, v1, v2]] w fun e w' => e = .returned (.int .i64 0) ∧ Below w.heap.size w w' := by
  obtain ⟨t', A', n', ca, B', m', cb, rfl, rfl, rfl⟩ := h.form
  have hT := Lib.hid (h.below (balloc (bref w) (.cells #[.int .i64 t', .slice A' n' ca, .slice B' m' cb] 51)))
  have HW := Lib.hid hW
  have hdl := Nat.le_trans (depthT_le d T) hd
  have hsz := hW.size4 hd
  clear h hW
  go_enter Tryz.func51, Tryz.ntmps51
  have hbox : (w.alloc (.cells #[.int .i64 t', .slice A' n' ca, .slice B' m' cb] 51)).heap[w.heap.size]? = some (.cells #[.int .i64 t', .slice A' n' ca, .slice B' m' cb] 51 (0, 0)) := heap_alloc_new _ _
  have HBX := Lib.hid hbox
  have HB1 := Lib.hid (balloc (bref w) (.cells #[.int .i64 t', .slice A' n' ca, .slice B' m' cb] 51))
  clear hbox
  go_upto_region 1 with fail
  generalize w.alloc (.cells #[.int .i64 t', .slice A' n' ca, .slice B' m' cb] 51) = W1 at *
  generalize hg : w.heap.size = g at *
  have hgw := Lib.hid hg
  clear hg
  have c0 : W1.cell? ⟨g, 0, none⟩ = some (.int .i64 t') := cell_of_row _ _ 0 _ _ (0, 0) HBX.out
  have c1 : W1.cell? ⟨g, 1, none⟩ = some (.slice A' n' ca) := cell_of_row _ _ 1 _ _ (0, 0) HBX.out
  have c2 : W1.cell? ⟨g, 2, none⟩ = some (.slice B' m' cb) := cell_of_row _ _ 2 _ _ (0, 0) HBX.out
  have hgl : g < W1.heap.size := cell_lt c0
  generalize hdz : depthT d T = dz at *
  generalize hzz : sizeT d T = zz at *
  have HDZ := Lib.hid hdz
  have HZZ := Lib.hid hzz
  clear hdz hzz
  go_wp2_with fail
  refine (rdepth_run P d T _ _ _ _ (by omega) hT.out).mono ?_
  rintro e w2 ⟨rfl, hb2⟩
  rw [HDZ.out]
  have a0 := (hb2.cell (p := ⟨g, 0, none⟩) hgl).trans c0
  have a1 := (hb2.cell (p := ⟨g, 1, none⟩) hgl).trans c1
  have a2 := (hb2.cell (p := ⟨g, 2, none⟩) hgl).trans c2
  have hT2 := Lib.hid (hT.out.below hb2)
  have HB2 := Lib.hid hb2
  have hgl2 := cell_lt a0
  clear hb2
  go_wp2_with fail
  refine (rsize_run P d T _ _ _ _ hT2.out (by rw [HZZ.out]; omega)).mono ?_
  rintro e w3 ⟨rfl, hb3⟩
  rw [HZZ.out]
  have d0 := (hb3.cell (p := ⟨g, 0, none⟩) hgl2).trans a0
  have d1 := (hb3.cell (p := ⟨g, 1, none⟩) hgl2).trans a1
  have d2 := (hb3.cell (p := ⟨g, 2, none⟩) hgl2).trans a2
  have hT3 := Lib.hid (hT2.out.below hb3)
  have HB3 := Lib.hid (bstep HB2.out hb3)
  have HBW : Hid (∀ x : World, Below W1.heap.size W1 x → Below w.heap.size w x) := Lib.hid (fun x hx => by have h1 := HB1.out; rw [← hgw.out] at h1; exact bstep h1 hx)
  clear hb3
  have hz2 : zz ≤ 200 := by have := HZZ.out; omega
  go_wp2_with fail
  refine (rcheck_run P n hn10 d T _ _ _ _ hT3.out HW.out).mono ?_
  rintro e w4 ⟨rfl, hb4⟩
  go_wp2_with fail
  go_ret
  rw [← hgw.out]
  exact ⟨rfl, HBW.out _ (bstep HB3.out hb4)⟩

set_option maxRecDepth 100000 in
set_option maxHeartbeats 2000000 in
theorem rcvalid_run (P : Nat → Prop) (ms : List Mem) (v : Value) (w : World) (hl : ms.length ≤ 10) (h : MemsAt P 2 w v ms) (hok : MemsOk ms.length ms) :
    Calls Tryz.prog 29 #[.agg #[v]] w fun e w' => e = .returned (.int .i64 0) ∧ Below w.heap.size w w' := by
  obtain ⟨A, c, rfl⟩ := h.slice
  have hb1 : Below w.heap.size w (w.alloc (.cells #[.slice A ms.length c] 27)) := balloc (bref w) _
  have k0 : (w.alloc (.cells #[.slice A ms.length c] 27)).heap[w.heap.size]? = some (.cells #[.slice A ms.length c] 27 (0, 0)) := alloc_at rfl
  have H := Lib.hid (h.below hb1)
  have HB := Lib.hid hb1
  have K0 := Lib.hid k0
  have HOK := Lib.hid hok
  clear h hb1 k0 hok
  go_enter Tryz.func29, Tryz.ntmps29
  go_upto_region 1 with fail
  generalize w.alloc (.cells #[.slice A ms.length c] 27) = W1 at *
  generalize hg : w.heap.size = g at *
  have HG := Lib.hid hg
  clear hg
  have c0 : W1.cell? ⟨g, 0, none⟩ = some (.slice A ms.length c) := cell_of_row _ _ 0 _ _ (0, 0) K0.out
  have hgl := cell_lt c0
  have hl10 : ¬ (10 : Int) < (ms.length : Int) := by omega
  go_wp2_with fail
  go_loopw [13] (fun t W => ∃ k : Nat, k ≤ ms.length ∧ t = .int .i64 k ∧ Hid (Below W1.heap.size W1 W)) (fun t _ => ms.length - (intOf t).toNat)
  case atStart => exact ⟨0, by omega, rfl, Lib.hid (bref _)⟩
  case round =>
    obtain ⟨k, hk, rfl, hB⟩ := hrel
    by_cases hlt : k < ms.length
    · obtain ⟨m, hm⟩ : ∃ m, ms[k]? = some m := ⟨_, List.getElem?_eq_getElem hlt⟩
      obtain ⟨b, off, t, A1, n1, c1, A2, n2, c2, rfl, hP, hbl, e0, e1, e2, e3, hT⟩ := memBox (H.out.below hB.out) hm
      have hmo := HOK.out m (List.mem_of_getElem? hm)
      have HM1 := Lib.hid hmo.1
      have HM2 := Lib.hid hmo.2
      obtain ⟨dec, T⟩ := m
      have hba := balloc (bref wr) (.cells #[.bool dec, .int .i64 t, .slice A1 n1 c1, .slice A2 n2 c2] 55)
      have k1 : (wr.alloc (.cells #[.bool dec, .int .i64 t, .slice A1 n1 c1, .slice A2 n2 c2] 55)).heap[wr.heap.size]? = some (.cells #[.bool dec, .int .i64 t, .slice A1 n1 c1, .slice A2 n2 c2] 55 (0, 0)) := alloc_at rfl
      have K1 := Lib.hid k1
      have hTA := hT.below hba
      have HBA := Lib.hid (bstep hB.out hba)
      clear hm hT hmo hba k1
      go_upto_region 6 with fail
      generalize wr.alloc (.cells #[.bool dec, .int .i64 t, .slice A1 n1 c1, .slice A2 n2 c2] 55) = W3 at *
      generalize wr.heap.size = r at *
      have c4 : W3.cell? ⟨g, 0, none⟩ = some (.slice (some ⟨b, off, none⟩) ms.length c) := (HBA.out.cell hgl).trans (cell_of_row _ _ 0 _ _ (0, 0) K0.out)
      have r0 : W3.cell? ⟨r, 0, none⟩ = some (.bool dec) := cell_of_row _ _ 0 _ _ (0, 0) K1.out
      have r1 : W3.cell? ⟨r, 1, none⟩ = some (.int .i64 t) := cell_of_row _ _ 1 _ _ (0, 0) K1.out
      have r2 : W3.cell? ⟨r, 2, none⟩ = some (.slice A1 n1 c1) := cell_of_row _ _ 2 _ _ (0, 0) K1.out
      have r3 : W3.cell? ⟨r, 3, none⟩ = some (.slice A2 n2 c2) := cell_of_row _ _ 3 _ _ (0, 0) K1.out
      clear e0 e1 e2 e3 c0
      cases dec
      · obtain rfl := HM2.out rfl
        obtain ⟨ht, _, _, hN, hL⟩ := hTA.parts
        obtain ⟨A3, c3, hv1⟩ := hN.slice
        obtain ⟨A4, c5, hv2⟩ := hL.slice
        cases ht
        cases hv1
        cases hv2
        clear hTA hN hL
        go_wp2_with fail
        refine (rsame0_run _ _ _ _ _ _ _ _ _).mono ?_
        rintro e w4 ⟨rfl, hb4⟩
        have HB4 := Lib.hid (bstep HBA.out hb4)
        clear hb4 c4 r0 r1 r2 r3
        go_wp2_with fail
        go_roundw
        case rel => exact ⟨k + 1, by omega, by go_num, HB4⟩
        case measure => simp [intOf]; omega
      · have HW := Lib.hid (HM1.out rfl)
        have HT := Lib.hid hTA
        have HU := Lib.hid (ltpow_of_bits _ ms.length (usesT_sub hl 2 T HW.out))
        have hul := usesT_lt 2 T
        have hpw : IntKind.i64.wrap (2 ^ ms.length) = ((2 ^ ms.length : Nat) : Int) := pow11' ms.length (by omega)
        have HPW := Lib.hid hpw
        clear hTA hpw
        go_wp2_with fail
        refine (rtvalid_run P ms.length (by omega) 2 (by omega) T _ _ _ _ HT.out HW.out (sizeT2_le HW.out)).mono ?_
        rintro e w4 ⟨rfl, hb4⟩
        have HS4 := Lib.hid (stKeep (⟨c4, r1, r2, r3, HT.out, HBA.out⟩) hb4)
        clear hb4 c4 r0 r1 r2 r3
        go_upto_region 12 with fail
        have hS := Lib.hid (stKeep HS4.out (bdrew' w4))
        have hpw := HPW.out
        obtain ⟨N, hN⟩ : ∃ N, 2 ^ ms.length = N := ⟨_, rfl⟩
        have HN := Lib.hid hN
        have huN := HU.out
        rw [hN] at hpw huN
        obtain ⟨U, hUq⟩ : ∃ U, usesT 2 T = U := ⟨_, rfl⟩
        have HUU := Lib.hid hUq
        rw [hUq] at huN hul
        have hge : ((N : Int) ≤ (U : Int)) = False := by simp; omega
        clear hN hUq huN
        refine wp_region_noPanic ?_
        refine wp_region_held_drew (S := fun W => W.cell? ⟨g, 0, none⟩ = some (.slice (some ⟨b, off, none⟩) ms.length c) ∧ W.cell? ⟨r, 1, none⟩ = some (.int .i64 t) ∧ W.cell? ⟨r, 2, none⟩ = some (.slice A1 n1 c1) ∧ W.cell? ⟨r, 3, none⟩ = some (.slice A2 n2 c2) ∧ TAt P 2 W (.int .i64 t) (.slice A1 n1 c1) (.slice A2 n2 c2) T ∧ Below W1.heap.size W1 W) (by kernel_rfl) hS.out (fun hHeld => ?_)
        refine take_d (some 31) (i := 0) (v := ?_) rfl rfl (by kernel_rfl) (by kernel_rfl) (by kernel_rfl) (fun _ _ _ h => h) (Or.inl ⟨by rfl, ?_⟩) (by assumption) ?_
        rotate_left
        · intro w hSw; (try dsimp only at hSw); go_simp; (try with_reducible rfl)
        try simp only [Act.put, List.setIfInBounds_toArray, List.set_cons_zero, List.set_cons_succ]
        refine take_d (some 32) (i := 1) (v := ?_) rfl rfl (by kernel_rfl) (by kernel_rfl) (by kernel_rfl) (fun _ _ _ h => h) (Or.inl ⟨by rfl, ?_⟩) (by assumption) ?_
        rotate_left
        · intro w hSw; (try dsimp only at hSw); go_simp; (try with_reducible rfl)
        try simp only [Act.put, List.setIfInBounds_toArray, List.set_cons_zero, List.set_cons_succ]
        refine take_d (some 34) (i := 3) (v := ?_) rfl rfl (by kernel_rfl) (by kernel_rfl) (by kernel_rfl) (fun _ _ _ h => h) (Or.inl ⟨by rfl, ?_⟩) (by assumption) ?_
        rotate_left
        · intro w hSw; (try dsimp only at hSw); go_simp; (try with_reducible rfl)
        try simp only [Act.put, List.setIfInBounds_toArray, List.set_cons_zero, List.set_cons_succ]
        refine take_d (some 35) (i := 4) (v := ?_) rfl rfl (by kernel_rfl) (by kernel_rfl) (by kernel_rfl) (fun _ _ _ h => h) (Or.inl ⟨by rfl, ?_⟩) (by assumption) ?_
        rotate_left
        · intro w hSw; (try dsimp only at hSw); go_simp; (try with_reducible rfl)
        try simp only [Act.put, List.setIfInBounds_toArray, List.set_cons_zero, List.set_cons_succ]
        refine take_d (some 36) (i := 5) (v := ?_) rfl rfl (by kernel_rfl) (by kernel_rfl) (by kernel_rfl) (fun _ _ _ h => h) (Or.inl ⟨by rfl, ?_⟩) (by assumption) ?_
        rotate_left
        · intro w hSw; (try dsimp only at hSw); go_simp; (try with_reducible rfl)
        try simp only [Act.put, List.setIfInBounds_toArray, List.set_cons_zero, List.set_cons_succ]
        refine take_d (some 37) (i := 6) (v := ?_) rfl rfl (by kernel_rfl) (by kernel_rfl) (by kernel_rfl) (fun _ _ _ h => h) (Or.inl ⟨by rfl, ?_⟩) (by assumption) ?_
        rotate_left
        · intro w hSw; (try dsimp only at hSw); go_simp; (try with_reducible rfl)
        try simp only [Act.put, List.setIfInBounds_toArray, List.set_cons_zero, List.set_cons_succ]
        refine wpAnyH_ready (rs := [2]) (by kernel_rfl) (by simp) ?_
        refine AllReadyH.cons rfl (fun K hK => ?_) AllReadyH.nil
        go_simp
        refine (ruses_run P 2 T _ _ _ _ (stT (by assumption))).mono ?_; rintro e WK ⟨rfl, hbK⟩; have hSK := stKeep (by assumption) hbK; rw [HUU.out]
        go_wp2_with fail
        refine hK.out _ _ ?_ (fun hHeld => ?_)
        · exact hSK
        clear hK K
        try simp only [Act.put, List.setIfInBounds_toArray, List.set_cons_zero, List.set_cons_succ]
        refine take_d (some 38) (i := 7) (v := ?_) rfl rfl (by kernel_rfl) (by kernel_rfl) (by kernel_rfl) (fun _ _ _ h => h) (Or.inl ⟨by rfl, ?_⟩) (by assumption) ?_
        rotate_left
        · intro w hSw; (try dsimp only at hSw); go_simp; (try with_reducible rfl)
        try simp only [Act.put, List.setIfInBounds_toArray, List.set_cons_zero, List.set_cons_succ]
        refine wpAnyH_done (by kernel_rfl) ?_ _
        refine NoPanic.normal ?_
        have HB6 := Lib.hid (hSK.2.2.2.2.2)
        clear hSK hHeld hS
        go_wp2_with fail
        go_roundw
        case rel => exact ⟨k + 1, by omega, by go_num, HB6⟩
        case measure => simp [intOf]; omega
    · obtain rfl : k = ms.length := by omega
      go_wp2_with fail
      go_ret
      exact ⟨rfl, by
        have h1 := HB.out
        rw [← HG.out] at h1
        exact bstep h1 hB.out⟩

/-- What the reference's Holds returns. -/
def RHolds (ms : List Mem) (e : Ending) : Prop := ∃ b : Bool, e = .returned (.tuple #[.bool b, .int .i64 0]) ∧ (b = true ↔ ∀ t, ¬ Apart 2 ms t)

end Go.Proofs.YtobdnepmjcbjeaaGreat

namespace Go.Proofs.YtobdnepmjcbjeaaGreat
set_option linter.unusedVariables false
set_option linter.unusedSimpArgs false
open Go.RowKit

/-- A set without a node. -/
def offS (s k : Nat) : Nat := s ^^^ (s &&& 2 ^ k)

theorem offS_bit (s k j : Nat) : (offS s k).testBit j = (s.testBit j && j != k) := by
  unfold offS
  rw [Nat.testBit_xor, Nat.testBit_and, Nat.testBit_two_pow]
  by_cases h : k = j
  · subst h; cases s.testBit k <;> simp
  · have h1 : j ≠ k := fun e => h e.symm
    have h2 : (j != k) = true := by simpa using h1
    rw [h2, decide_eq_false h]
    cases s.testBit j <;> rfl

theorem lt_of_bits {a b n : Nat} (h : ∀ k, a.testBit k = true → b.testBit k = true) (hb : b < n) : a < n := by
  have e : a &&& b = a := by
    apply Nat.eq_of_testBit_eq
    intro k
    rw [Nat.testBit_and]
    cases ha : a.testBit k
    · rfl
    · rw [h k ha]; rfl
  rw [← e]
  exact Nat.lt_of_le_of_lt Nat.and_le_right hb

theorem offS_lt {s k n : Nat} (h : s < n) : offS s k < n := lt_of_bits (fun j hj => by rw [offS_bit, Bool.and_eq_true] at hj; exact hj.1) h

theorem off_fact (s k : Nat) (hs : s < 1024) (hk : k < 10) : bits .andNot .i64 (s : Int) (wrap64 (2 ^ k)) = ((offS s k : Nat) : Int) := by
  have all : ∀ s : Fin 1024, ∀ k : Fin 10, bits .andNot .i64 (s.val : Int) (wrap64 (2 ^ k.val)) = ((offS s.val k.val : Nat) : Int) := by decide +kernel
  exact all ⟨s, hs⟩ ⟨k, hk⟩

theorem off_fact' (s k : Nat) (hs : s < 1024) (hk : k < 10) : bits .andNot .i64 (s : Int) (IntKind.i64.wrap (2 ^ k)) = ((offS s k : Nat) : Int) := by
  have all : ∀ s : Fin 1024, ∀ k : Fin 10, bits .andNot .i64 (s.val : Int) (IntKind.i64.wrap (2 ^ k.val)) = ((offS s.val k.val : Nat) : Int) := by decide +kernel
  exact all ⟨s, hs⟩ ⟨k, hk⟩

/-- Does s block member k? -/
def blkM (d : Nat) (ms : List Mem) (s k : Nat) : Bool := (declS ms ms.length).testBit k && blkB d (trOf ms k) ((offS s k : Nat) : Int)

theorem hasB_compl {n : Nat} (hn : n < 1024) (x : Int) : hasB (1023 - (n : Int)) x = (nodeB x && !n.testBit x.toNat) := by
  have h1 : setB (1023 - (n : Int)) = true := setB_iff.2 ⟨by omega, by omega⟩
  have e : (1023 - (n : Int)).toNat = 2 ^ 10 - (n + 1) := by omega
  unfold hasB
  rw [h1, e, Bool.true_and, Nat.testBit_two_pow_sub_succ (by omega)]
  cases hx : nodeB x
  · rfl
  · obtain ⟨h0, h2⟩ := nodeB_iff.1 hx
    have h3 : decide (x.toNat < 10) = true := decide_eq_true (by omega)
    rw [h3]; rfl

theorem blkB_sub {d : Nat} {T : Tree} {a b : Nat} (hb : b < 1024) (h : Sub a b) (h1 : blkB d T (a : Int) = true) : blkB d T (b : Int) = true := by
  have ha : a < 1024 := lt_of_bits h hb
  unfold blkB at h1 ⊢
  rw [Bool.and_eq_true] at h1 ⊢
  refine ⟨setB_iff.2 ⟨by omega, by omega⟩, ?_⟩
  have h2 := h1.2
  cases hx : holdsT d (hasB (1023 - (b : Int))) T
  · rfl
  · rw [holdsT_monoA (p := hasB (1023 - (b : Int))) (q := hasB (1023 - (a : Int))) (fun x hx => ?_) d T hx] at h2
    · cases h2
    · rw [hasB_compl hb, Bool.and_eq_true] at hx
      rw [hasB_compl ha, Bool.and_eq_true]
      refine ⟨hx.1, ?_⟩
      cases ht : a.testBit x.toNat
      · rfl
      · rw [h _ ht] at hx; simp at hx

theorem blkM_sub {d : Nat} {ms : List Mem} {a b k : Nat} (hb : b < 1024) (h : Sub a b) (h1 : blkM d ms a k = true) : blkM d ms b k = true := by
  unfold blkM at h1 ⊢
  rw [Bool.and_eq_true] at h1 ⊢
  refine ⟨h1.1, blkB_sub (offS_lt hb) (fun j hj => ?_) h1.2⟩
  rw [offS_bit, Bool.and_eq_true] at hj ⊢
  exact ⟨h j hj.1, hj.2⟩

/-- Is k in a closed set in S? -/
noncomputable def rdyB (d : Nat) (ms : List Mem) (S k : Nat) : Bool := @decide (∃ Q, Q < 1024 ∧ Sub Q S ∧ Closed d ms Q ∧ Q.testBit k = true) (Classical.propDecidable _)

theorem rdyB_iff {d : Nat} {ms : List Mem} {S k : Nat} : rdyB d ms S k = true ↔ ∃ Q, Q < 1024 ∧ Sub Q S ∧ Closed d ms Q ∧ Q.testBit k = true := by unfold rdyB; exact @decide_eq_true_iff _ (Classical.propDecidable _)

theorem rdyB_gr {d : Nat} {ms : List Mem} {S G k : Nat} (hG : G < 1024) (h : IsGr d ms S G) : rdyB d ms S k = G.testBit k := by
  rw [Bool.eq_iff_iff, rdyB_iff]
  exact ⟨fun ⟨Q, h1, h2, h3, h4⟩ => h.most Q h1 h2 h3 k h4, fun h1 => ⟨G, hG, h.sub, h.closed, h1⟩⟩

theorem rdyB_sub {d : Nat} {ms : List Mem} {S S' k : Nat} (h : Sub S S') (h1 : rdyB d ms S k = true) : rdyB d ms S' k = true := by
  obtain ⟨Q, h2, h3, h4, h5⟩ := rdyB_iff.1 h1
  exact rdyB_iff.2 ⟨Q, h2, fun j hj => h j (h3 j hj), h4, h5⟩

/-- May k accept, by votes and acceptances? -/
noncomputable def accB (d : Nat) (ms : List Mem) (k a b : Nat) : Bool := blkM d ms b k || rdyB d ms ((a ||| b) &&& declS ms ms.length) k

noncomputable def cnfB (d : Nat) (ms : List Mem) (k b : Nat) : Bool := rdyB d ms (b &&& declS ms ms.length) k

theorem sub_and_and {a b D : Nat} (h : Sub a b) : Sub (a &&& D) (b &&& D) := fun k hk => by
  rw [Nat.testBit_and, Bool.and_eq_true] at hk ⊢
  exact ⟨h k hk.1, hk.2⟩

theorem accB_sub {d : Nat} {ms : List Mem} {k a b x y : Nat} (hy : y < 1024) (h1 : Sub a x) (h2 : Sub b y) (h : accB d ms k a b = true) : accB d ms k x y = true := by
  unfold accB at h ⊢
  rw [Bool.or_eq_true] at h ⊢
  rcases h with h | h
  · exact .inl (blkM_sub hy h2 h)
  · refine .inr (rdyB_sub (sub_and_and (fun j hj => ?_)) h)
    rw [Nat.testBit_or, Bool.or_eq_true] at hj ⊢
    exact hj.elim (fun h => .inl (h1 j h)) (fun h => .inr (h2 j h))

theorem cnfB_sub {d : Nat} {ms : List Mem} {k b y : Nat} (h : Sub b y) (h1 : cnfB d ms k b = true) : cnfB d ms k y = true := rdyB_sub (sub_and_and h) h1

theorem cnf_acc1 {d : Nat} {ms : List Mem} {k b : Nat} (h1 : cnfB d ms k b = true) : accB d ms k 0 b = true := by
  unfold accB
  rw [Bool.or_eq_true, Nat.zero_or]
  exact .inr h1

theorem cnf_acc2 {d : Nat} {ms : List Mem} {k b : Nat} (h1 : cnfB d ms k b = true) : accB d ms k b 0 = true := by
  unfold accB
  rw [Bool.or_eq_true, Nat.or_zero]
  exact .inr h1

theorem sub_orL {a b : Nat} : Sub a (a ||| b) := fun k hk => by rw [Nat.testBit_or, hk]; rfl

end Go.Proofs.YtobdnepmjcbjeaaGreat

namespace Go.Proofs.YtobdnepmjcbjeaaGreat
set_option linter.unusedVariables false
set_option linter.unusedSimpArgs false
open Go.RowKit

def thrOf : Tree → Int | .mk t _ _ => t

def deadT (T : Tree) : Bool := decide (thrOf T ≤ 0)

/-- A trust without the nodes of a set. -/
def lessT (s : Nat) : Nat → Tree → Tree
  | 0, T => T
  | d + 1, .mk thr ns is => .mk ((thr.toNat - cnt (hasB (s : Int)) ns - cnt deadT (is.map (lessT s d)) : Nat) : Int) (ns.filter (fun k => !hasB (s : Int) k)) ((is.map (lessT s d)).filter (fun T => !deadT T))

/-- A trust after the deletion of a set at a node. -/
def delT (s k d : Nat) (T : Tree) : Tree := if deadT (lessT s d T) then .mk 1 [(k : Int)] [] else lessT s d T

def delOne (s k : Nat) (m : Mem) : Mem := if hasB (s : Int) (k : Int) then (false, .mk 0 [] []) else if m.1 then (true, delT s k 2 m.2) else m

def delM (s : Nat) (ms : List Mem) : List Mem := ms.mapIdx (fun k m => delOne s k m)

theorem delM_len (s : Nat) (ms : List Mem) : (delM s ms).length = ms.length := by unfold delM; simp

theorem delM_get {s : Nat} {ms : List Mem} {k : Nat} {m : Mem} (h : ms[k]? = some m) : (delM s ms)[k]? = some (delOne s k m) := by
  unfold delM
  rw [List.getElem?_mapIdx, h]; rfl

theorem cnt_split {α β : Type} (P : α → Bool) (f : α → β) (dead good : β → Bool) : ∀ (l : List α), (∀ x ∈ l, P x = true → dead (f x) = true ∨ good (f x) = true) → cnt P l ≤ cnt dead (l.map f) + cnt good ((l.map f).filter (fun y => !dead y))
  | [], _ => by simp [cnt]
  | x :: l, h => by
    have ih := cnt_split P f dead good l (fun y hy => h y (List.mem_cons_of_mem _ hy))
    have h1 := h x List.mem_cons_self
    unfold cnt at *
    rw [List.map_cons, List.filter_cons, List.filter_cons, List.filter_cons]
    cases hd : dead (f x)
    · cases hp : P x
      · simp
        cases hg : good (f x) <;> simp [List.filter_cons, hg] <;> simp at ih <;> omega
      · have hg : good (f x) = true := by
          rcases h1 hp with h2 | h2
          · rw [hd] at h2; cases h2
          · exact h2
        simp [List.filter_cons, hg]
        simp at ih
        omega
    · cases hp : P x
      · simp; simp at ih; omega
      · simp; simp at ih; omega

theorem cnt_two {α : Type} (p : α → Bool) (l : List α) : cnt p l + (l.filter (fun x => !p x)).length = l.length := by
  induction l with
  | nil => rfl
  | cons x l ih =>
    unfold cnt at *
    rw [List.filter_cons, List.filter_cons]
    cases hp : p x
    · simp; omega
    · simp; omega

theorem less_holds {n : Int} {s : Nat} {p q : Int → Bool} (h : ∀ x, p x = true → hasB (s : Int) x = false → q x = true) : ∀ (d : Nat) (T : Tree), WF n d T → holdsT d p T = true → deadT (lessT s d T) = true ∨ holdsT d q (lessT s d T) = true
  | 0, T, w, _ => w.elim
  | d + 1, .mk thr ns is, w, hh => by
    obtain ⟨h1, _, _, _, _, _, hi⟩ := w
    have hh : thr ≤ ((cnt p ns + cnt (holdsT d p) is : Nat) : Int) := of_decide_eq_true hh
    have e1 := cnt_split p id (hasB (s : Int)) q ns (fun x _ hp => by
      cases hb : hasB (s : Int) x
      · exact .inr (h x hp hb)
      · exact .inl hb)
    have e2 := cnt_split (holdsT d p) (lessT s d) deadT (holdsT d q) is (fun T hT hp => less_holds h d T (hi T hT) hp)
    rw [List.map_id] at e1
    show decide ((((thr.toNat - cnt (hasB (s : Int)) ns - cnt deadT (is.map (lessT s d)) : Nat)) : Int) ≤ 0) = true ∨ decide ((((thr.toNat - cnt (hasB (s : Int)) ns - cnt deadT (is.map (lessT s d)) : Nat)) : Int) ≤ ((cnt q (ns.filter (fun k => !hasB (s : Int) k)) + cnt (holdsT d q) ((is.map (lessT s d)).filter (fun T => !deadT T)) : Nat) : Int)) = true
    right
    refine decide_eq_true ?_
    omega

theorem less_wf {n : Int} {s : Nat} : ∀ (d : Nat) (T : Tree), WF n d T → deadT (lessT s d T) = false → WF n d (lessT s d T)
  | 0, T, w, _ => w.elim
  | d + 1, .mk thr ns is, w, hd => by
    obtain ⟨h1, h2, h3, h4, h5, h6, hi⟩ := w
    have hd : ¬ (((thr.toNat - cnt (hasB (s : Int)) ns - cnt deadT (is.map (lessT s d)) : Nat)) : Int) ≤ 0 := of_decide_eq_false hd
    have e1 := cnt_two (hasB (s : Int)) ns
    have e2 := cnt_two deadT (is.map (lessT s d))
    rw [List.length_map] at e2
    refine ⟨by omega, by omega, Nat.le_trans (List.length_filter_le _ _) h3, by omega, fun x hx => h5 x (List.mem_filter.1 hx).1, h6.filter _, fun T hT => ?_⟩
    obtain ⟨hm, hdt⟩ := List.mem_filter.1 hT
    obtain ⟨T0, h0, rfl⟩ := List.mem_map.1 hm
    exact less_wf d T0 (hi T0 h0) (by simpa using hdt)

theorem delT_wf {n : Int} {s k d : Nat} {T : Tree} (hk : (k : Int) < n) (h : WF n (d + 1) T) : WF n (d + 1) (delT s k (d + 1) T) := by
  unfold delT
  cases hd : deadT (lessT s (d + 1) T)
  · exact less_wf _ _ h hd
  · exact (Fine.single (D := d) (n := n) (r := (k : Int)) (by omega) hk).1

theorem delM_ok {s : Nat} {ms : List Mem} (h : MemsOk ms.length ms) : MemsOk (delM s ms).length (delM s ms) := by
  intro x hx
  obtain ⟨k, hk, he⟩ := List.getElem_of_mem hx
  rw [delM_len] at hk ⊢
  have hm : ms[k]? = some ms[k] := List.getElem?_eq_getElem hk
  have h1 := delM_get (s := s) hm
  rw [List.getElem?_eq_getElem (by rw [delM_len]; exact hk), he] at h1
  have hx1 : x = delOne s k ms[k] := Option.some.inj h1
  have h0 := h ms[k] (List.getElem_mem hk)
  rw [hx1]
  unfold delOne
  cases hb : hasB (s : Int) (k : Int)
  · simp only [Bool.false_eq_true, if_false]
    cases hd : ms[k].1
    · simp only [Bool.false_eq_true, if_false]; exact h0
    · simp only [if_true]
      exact ⟨fun _ => delT_wf (by omega) (h0.1 hd), fun h => (by cases h)⟩
  · simp only [if_true]
    exact ⟨fun h => (by cases h), fun _ => trivial⟩

theorem declS_iff {ms : List Mem} (k : Nat) : ∀ (n : Nat), (declS ms n).testBit k = (decide (k < n) && (ms.getD k (false, .mk 0 [] [])).1)
  | 0 => by simp [declS]
  | n + 1 => by
    have ih := declS_iff (ms := ms) k n
    unfold declS
    by_cases hkn : k = n
    · subst hkn
      cases hd : (ms.getD k (false, .mk 0 [] [])).1
      · rw [if_neg (by simp), ih]; simp [hd]
      · rw [if_pos rfl, Nat.testBit_or, Nat.testBit_two_pow_self]; simp
    · have e : decide (k < n + 1) = decide (k < n) := by rw [decide_eq_decide]; omega
      rw [e]
      split
      · rw [Nat.testBit_or, ih, Nat.testBit_two_pow_of_ne (by omega)]; simp
      · exact ih

def minS (q s : Nat) : Nat := q ^^^ (q &&& s)

theorem minS_bit (q s k : Nat) : (minS q s).testBit k = (q.testBit k && !s.testBit k) := by
  unfold minS
  rw [Nat.testBit_xor, Nat.testBit_and]
  cases q.testBit k <;> cases s.testBit k <;> rfl

theorem minS_lt {q s : Nat} (h : q < 1024) : minS q s < 1024 := Nat.xor_lt_two_pow (n := 10) h (Nat.lt_of_le_of_lt Nat.and_le_left h)

/-- A closed set of a configuration that differs from another one only in a set is, without it, closed after its deletion. -/
theorem shown_closed {ms xs : List Mem} {s Q : Nat} (hl : ms.length ≤ 10) (hx : xs.length = ms.length) (hs : s < 1024) (hQ : Q < 1024) (hok : MemsOk ms.length ms)
    (hsame : ∀ k, k < ms.length → s.testBit k = false → xs[k]? = ms[k]?) (hsub : Sub Q (declS xs xs.length)) (hc : Closed 2 xs Q) :
    Sub (minS Q s) (declS (delM s ms) (delM s ms).length) ∧ Closed 2 (delM s ms) (minS Q s) := by
  have key : ∀ k, (minS Q s).testBit k = true → k < ms.length ∧ ∃ m, ms[k]? = some m ∧ xs[k]? = some m ∧ m.1 = true ∧ hasB (s : Int) (k : Int) = false ∧ Q.testBit k = true := by
    intro k hk
    rw [minS_bit, Bool.and_eq_true, Bool.not_eq_true'] at hk
    have h1 := hsub k hk.1
    rw [declS_iff, Bool.and_eq_true, decide_eq_true_eq, hx] at h1
    have hm : ms[k]? = some ms[k] := List.getElem?_eq_getElem h1.1
    have hxk := (hsame k h1.1 hk.2).trans hm
    have h2 := h1.2
    rw [List.getD_eq_getElem?_getD, hxk] at h2
    exact ⟨h1.1, ms[k], hm, hxk, h2, by rw [hasB_bit hs (by omega)]; exact hk.2, hk.1⟩
  constructor
  · intro k hk
    obtain ⟨h1, m, hm, _, hd, hb, _⟩ := key k hk
    rw [declS_iff, Bool.and_eq_true, decide_eq_true_eq, delM_len, List.getD_eq_getElem?_getD, delM_get hm]
    refine ⟨h1, ?_⟩
    show (delOne s k m).1 = true
    unfold delOne
    rw [hb, hd]; rfl
  · intro k hk
    rw [delM_len] at hk
    unfold uns
    cases hbk : (minS Q s).testBit k
    · rw [hasB_bit (minS_lt hQ) (by omega), hbk]; rfl
    · obtain ⟨_, m, hm, hxm, hd, hb, hQk⟩ := key k hbk
      have ht : trOf (delM s ms) k = delT s k 2 m.2 := by
        unfold trOf
        rw [List.getD_eq_getElem?_getD, delM_get hm]
        show (delOne s k m).2 = _
        unfold delOne
        rw [hb, hd]; rfl
      have hcx := hc k (by omega)
      unfold uns at hcx
      have htx : trOf xs k = m.2 := by unfold trOf; rw [List.getD_eq_getElem?_getD, hxm]; rfl
      rw [htx, hasB_bit hQ (by omega), hQk, Bool.true_and, Bool.not_eq_false'] at hcx
      rw [ht]
      have hsat : satB 2 (delT s k 2 m.2) ((minS Q s : Nat) : Int) = true := by
        have hv : setB ((minS Q s : Nat) : Int) = true := setB_iff.2 ⟨by omega, by have := minS_lt (s := s) hQ; omega⟩
        unfold satB at hcx ⊢
        rw [Bool.and_eq_true] at hcx ⊢
        refine ⟨hv, ?_⟩
        have hpq : ∀ x : Int, hasB (Q : Int) x = true → hasB (s : Int) x = false → hasB ((minS Q s : Nat) : Int) x = true := by
          intro x hx1 hx2
          have hx1' := hx1
          unfold hasB at hx1
          rw [Bool.and_eq_true, Bool.and_eq_true] at hx1
          obtain ⟨h0, h10⟩ := nodeB_iff.1 hx1.2.1
          obtain ⟨X, rfl⟩ := Int.eq_ofNat_of_zero_le h0
          rw [hasB_bit hQ (by omega)] at hx1'
          rw [hasB_bit hs (by omega)] at hx2
          rw [hasB_bit (minS_lt hQ) (by omega), minS_bit, hx1', hx2]; rfl
        have hw := (hok m (List.mem_of_getElem? hm)).1 hd
        unfold delT
        cases hdd : deadT (lessT s 2 m.2)
        · rw [if_neg (by simp)]
          rcases less_holds hpq 2 m.2 hw hcx.2 with h3 | h3
          · rw [hdd] at h3; cases h3
          · exact h3
        · rw [if_pos rfl]
          refine decide_eq_true ?_
          have hkb : hasB ((minS Q s : Nat) : Int) (k : Int) = true := by rw [hasB_bit (minS_lt hQ) (by omega)]; exact hbk
          have : cnt (hasB ((minS Q s : Nat) : Int)) [(k : Int)] = 1 := by unfold cnt; rw [List.filter_cons, hkb]; rfl
          rw [this]
          simp
          omega
      rw [hsat]; simp

/-- T1. -/
theorem fed_safe {ms xs ys : List Mem} {s v w a b : Nat} (hl : ms.length ≤ 10) (hx : xs.length = ms.length) (hy : ys.length = ms.length) (hs : s < 1024) (hok : MemsOk ms.length ms)
    (hxs : ∀ k, k < ms.length → s.testBit k = false → xs[k]? = ms[k]?) (hys : ∀ k, k < ms.length → s.testBit k = false → ys[k]? = ms[k]?)
    (hno : ∀ t, ¬ Apart 2 (delM s ms) t) (hv : s.testBit v = false) (hw : s.testBit w = false) (h1 : cnfB 2 xs v a = true) (h2 : cnfB 2 ys w b = true) :
    ∃ k, a.testBit k = true ∧ b.testBit k = true ∧ s.testBit k = false := by
  obtain ⟨Q, hQ, q1, q2, q3⟩ := rdyB_iff.1 h1
  obtain ⟨R, hR, r1, r2, r3⟩ := rdyB_iff.1 h2
  obtain ⟨c1, c2⟩ := shown_closed hl hx hs hQ hok hxs (fun k hk => by have := q1 k hk; rw [Nat.testBit_and, Bool.and_eq_true] at this; exact this.2) q2
  obtain ⟨c3, c4⟩ := shown_closed hl hy hs hR hok hys (fun k hk => by have := r1 k hk; rw [Nat.testBit_and, Bool.and_eq_true] at this; exact this.2) r2
  refine Classical.byContradiction (fun hn => hno (minS Q s) ⟨⟨?_, c1, c2⟩, minS R s, minS_lt hR, ?_, ?_, c4⟩)
  · intro h0
    have : (minS Q s).testBit v = true := by rw [minS_bit, q3, hv]; rfl
    rw [h0] at this; simp at this
  · intro h0
    have : (minS R s).testBit w = true := by rw [minS_bit, r3, hw]; rfl
    rw [h0] at this; simp at this
  · intro k hk
    have hd := c3 k hk
    have hkl := declS_bit hd
    rw [Nat.testBit_and, Bool.and_eq_true, outS_bit, Bool.and_eq_true, decide_eq_true_eq, Bool.not_eq_true']
    refine ⟨⟨hkl, ?_⟩, hd⟩
    cases hq : (minS Q s).testBit k
    · rfl
    · exfalso
      rw [minS_bit, Bool.and_eq_true, Bool.not_eq_true'] at hq hk
      have e1 := q1 k hq.1
      have e2 := r1 k hk.1
      rw [Nat.testBit_and, Bool.and_eq_true] at e1 e2
      exact hn ⟨k, e1.1, e2.1, hq.2⟩

end Go.Proofs.YtobdnepmjcbjeaaGreat

namespace Go.Proofs.YtobdnepmjcbjeaaGreat
set_option linter.unusedVariables false
open Go.RowKit

/-- Member k of the restricted configuration. -/
def resM (s : Nat) (ms : List Mem) (k : Nat) : Mem := if s.testBit k then ms.getD k (false, .mk 0 [] []) else (false, .mk 0 [] [])

def restM (s : Nat) (ms : List Mem) (n : Nat) : List Mem := (List.range n).map (resM s ms)

theorem restM_len (s : Nat) (ms : List Mem) (n : Nat) : (restM s ms n).length = n := by unfold restM; rw [List.length_map, List.length_range]

theorem restM_succ (s : Nat) (ms : List Mem) (n : Nat) : restM s ms (n + 1) = restM s ms n ++ [resM s ms n] := by unfold restM; rw [List.range_succ, List.map_append]; rfl

theorem restM_get (s : Nat) (ms : List Mem) (n k : Nat) (h : k < n) : (restM s ms n)[k]? = some (resM s ms k) := by
  unfold restM; rw [List.getElem?_map, List.getElem?_range h]; rfl

theorem restM_decl (s : Nat) (ms : List Mem) (n : Nat) (hn : n = ms.length) : ∀ k, k ≤ n → declS (restM s ms n) k = declS ms k &&& s
  | 0, _ => by unfold declS; simp
  | k + 1, h => by
    have ih := restM_decl s ms n hn k (by omega)
    have hg : (restM s ms n).getD k (false, .mk 0 [] []) = resM s ms k := by rw [List.getD_eq_getElem?_getD, restM_get s ms n k (by omega)]; rfl
    show (if ((restM s ms n).getD k (false, .mk 0 [] [])).1 then declS (restM s ms n) k ||| 2 ^ k else declS (restM s ms n) k) = (if (ms.getD k (false, .mk 0 [] [])).1 then declS ms k ||| 2 ^ k else declS ms k) &&& s
    rw [hg, ih]
    unfold resM
    by_cases hb : s.testBit k = true
    · rw [if_pos hb]
      split
      · apply Nat.eq_of_testBit_eq
        intro j
        simp only [Nat.testBit_or, Nat.testBit_and, Nat.testBit_two_pow]
        by_cases hj : k = j
        · subst hj; simp [hb]
        · simp [hj]
      · rfl
    · rw [if_neg hb]
      simp only [Bool.false_eq_true, if_false]
      split
      · apply Nat.eq_of_testBit_eq
        intro j
        simp only [Nat.testBit_or, Nat.testBit_and, Nat.testBit_two_pow]
        by_cases hj : k = j
        · subst hj; simp [hb]
        · simp [hj]
      · rfl

/-- Within the set the restricted configuration says the same. -/
theorem restM_uns {d s : Nat} {ms : List Mem} {q k : Nat} (hk : k < ms.length) (hl : ms.length ≤ 10) (hq : q < 1024) (hs : Sub q s) : uns d (restM s ms ms.length) q k = uns d ms q k := by
  unfold uns
  rw [hasB_bit hq (by omega)]
  cases hb : q.testBit k
  · rfl
  · have h1 : trOf (restM s ms ms.length) k = trOf ms k := by
      unfold trOf
      rw [List.getD_eq_getElem?_getD, restM_get s ms ms.length k hk]
      show (resM s ms k).2 = _
      unfold resM
      rw [if_pos (hs k hb)]
    rw [h1]

theorem restM_closed {d s : Nat} {ms : List Mem} {q : Nat} (hl : ms.length ≤ 10) (hq : q < 1024) (hs : Sub q s) : Closed d (restM s ms ms.length) q ↔ Closed d ms q := by
  unfold Closed
  rw [restM_len]
  exact ⟨fun h k hk => by rw [← restM_uns hk hl hq hs]; exact h k hk, fun h k hk => by rw [restM_uns hk hl hq hs]; exact h k hk⟩

/-- The greatest closed set in y of the restricted one is that in the common part. -/
theorem restM_gr {d x y D : Nat} {ms : List Mem} {G H : Nat} (hl : ms.length ≤ 10) (hG : G < 1024) (hH : H < 1024) (h1 : IsGr d (restM x ms ms.length) (y &&& (D &&& x)) G) (h2 : IsGr d ms ((x &&& y) &&& D) H) : G = H := by
  have g1 := (sub_and.1 (sub_and.1 h1.sub).2)
  have g2 := (sub_and.1 h1.sub).1
  have k1 := sub_and.1 h2.sub
  have k2 := sub_and.1 k1.1
  exact sub_antisymm (h2.most G hG (sub_and.2 ⟨sub_and.2 ⟨g1.2, g2⟩, g1.1⟩) ((restM_closed hl hG g1.2).1 h1.closed))
    (h1.most H hH (sub_and.2 ⟨k2.2, sub_and.2 ⟨k1.2, k2.1⟩⟩) ((restM_closed hl hH k2.1).2 h2.closed))

end Go.Proofs.YtobdnepmjcbjeaaGreat

namespace Go.Proofs.YtobdnepmjcbjeaaGreat
set_option linter.unusedVariables false
open Go.RowKit

theorem bit0_fact (S K : Nat) (h : S < 1024) (hK : K < 10) : (bits .and .i64 ((S : Int) / 2 ^ K) 1 == 0) = !S.testBit K := by
  have all : ∀ S : Fin 1024, ∀ K : Fin 10, (bits .and .i64 ((S.val : Int) / 2 ^ K.val) 1 == 0) = !S.val.testBit K.val := by decide +kernel
  exact all ⟨S, h⟩ ⟨K, hK⟩

/-- Members in a row of its own, with trusts that lie below B0. -/
def RowT (B0 B d : Nat) (W : World) (v : Value) (rs : List Mem) : Prop :=
  ∃ cs : List Value, W.ownsRow B 55 4 v rs.length cs ∧ ∀ k m, rs[k]? = some m → ∃ x0 x1 x2, cs[k * 4]? = some (.bool m.1) ∧ cs[k * 4 + 1]? = some x0 ∧ cs[k * 4 + 2]? = some x1 ∧ cs[k * 4 + 3]? = some x2 ∧ TAt (fun b => b < B0) d W x0 x1 x2 m.2

theorem RowT.app {B0 B d : Nat} {wo W5 : World} {v' x0 x1 x2 : Value} {rs : List Mem} {m : Mem} {cs : List Value}
    (hcl : ∀ k m, rs[k]? = some m → ∃ x0 x1 x2, cs[k * 4]? = some (.bool m.1) ∧ cs[k * 4 + 1]? = some x0 ∧ cs[k * 4 + 2]? = some x1 ∧ cs[k * 4 + 3]? = some x2 ∧ TAt (fun b => b < B0) d wo x0 x1 x2 m.2) (hcn : cs.length = rs.length * 4)
    (keep : ∀ q, q < B0 → q < wo.heap.size → W5.heap[q]? = wo.heap[q]?) (hT : TAt (fun b => b < B0) d wo x0 x1 x2 m.2) (hown5 : W5.ownsRow B 55 4 v' (rs.length + 1) (cs ++ [.bool m.1, x0, x1, x2])) : RowT B0 B d W5 v' (rs ++ [m]) := by
  refine ⟨cs ++ [.bool m.1, x0, x1, x2], by simpa using hown5, fun k S hS => ?_⟩
  rcases Nat.lt_or_ge k rs.length with hk | hk
  · rw [List.getElem?_append_left hk] at hS
    obtain ⟨y0, y1, y2, e0, e1, e2, e3, e4⟩ := hcl k S hS
    exact ⟨y0, y1, y2, by rw [List.getElem?_append_left (by omega)]; exact e0, by rw [List.getElem?_append_left (by omega)]; exact e1, by rw [List.getElem?_append_left (by omega)]; exact e2, by rw [List.getElem?_append_left (by omega)]; exact e3, e4.keep (fun q hq hP => keep q hP hq)⟩
  · have hk2 : k = rs.length := by
      have := (List.getElem?_eq_some_iff.1 hS).1
      simp at this; omega
    subst hk2
    have hS' : S = m := by simpa using hS.symm
    subst hS'
    refine ⟨x0, x1, x2, ?_, ?_, ?_, ?_, hT.keep (fun q hq hP => keep q hP hq)⟩
    · rw [List.getElem?_append_right (by omega)]; simp [hcn]
    · rw [List.getElem?_append_right (by omega), show rs.length * 4 + 1 - cs.length = 1 by omega]; rfl
    · rw [List.getElem?_append_right (by omega), show rs.length * 4 + 2 - cs.length = 2 by omega]; rfl
    · rw [List.getElem?_append_right (by omega), show rs.length * 4 + 3 - cs.length = 3 by omega]; rfl

theorem RowT.keep {B0 B d : Nat} {W W' : World} {v : Value} {rs : List Mem} (h : RowT B0 B d W v rs) (hk : ∀ q, q < W.heap.size → (q < B0 ∨ B ≤ q) → W'.heap[q]? = W.heap[q]?) : RowT B0 B d W' v rs := by
  obtain ⟨cs, h1, h2⟩ := h
  refine ⟨cs, own_keepG h1 (fun j _ hB hl => hk j hl (.inr hB)), fun k m hm => ?_⟩
  obtain ⟨x0, x1, x2, e0, e1, e2, e3, e4⟩ := h2 k m hm
  exact ⟨x0, x1, x2, e0, e1, e2, e3, e4.keep (fun q hq hP => hk q hq (.inl hP))⟩

theorem RowT.mems {B0 B d : Nat} {W : World} {v : Value} {rs : List Mem} (h : RowT B0 B d W v rs) : MemsAt (fun _ => True) d W v rs := by
  obtain ⟨cs, h1, h2⟩ := h
  rcases h1.2 with ⟨hv, h0⟩ | ⟨g, cap, cur, hv, hb, _⟩
  · exact ⟨none, 0, by rw [hv, h0], fun k T hT => by have := (List.getElem?_eq_some_iff.1 hT).1; omega⟩
  · refine ⟨some ⟨g, 0, none⟩, cap, hv, fun k m hm => ?_⟩
    obtain ⟨x0, x1, x2, e0, e1, e2, e3, e4⟩ := h2 k m hm
    have c : ∀ j u, cs[j]? = some u → W.cell? ⟨g, 0 + j, none⟩ = some u := fun j u hu => by
      have := h1.cells (g := g) (by rw [hv]; rfl) j u hu
      rwa [Addr.add_lit] at this
    exact ⟨g, 0, x0, x1, x2, rfl, trivial, c _ _ e0, by rw [Nat.add_assoc]; exact c _ _ e1, by rw [Nat.add_assoc]; exact c _ _ e2, by rw [Nat.add_assoc]; exact c _ _ e3, e4.imp (fun q _ hq => trivial)⟩

end Go.Proofs.YtobdnepmjcbjeaaGreat

namespace Go.Proofs.YtobdnepmjcbjeaaGreat
set_option linter.unusedVariables false
set_option linter.unusedSimpArgs false
open Go.RowKit

set_option maxHeartbeats 400000 in
theorem rlower_run (n : Nat) (hn : n ≤ 1000000) (w : World) : Calls Tryz.prog 92 #[.int .i64 (n : Int)] w fun e w' => e = .returned (.int .i64 ((n - 1 : Nat) : Int)) ∧ w = w' := by
  rcases n with _ | m
  · go_enter Tryz.func92, Tryz.ntmps92
    go_wp2_with fail
    go_ret
    exact ⟨rfl, rfl⟩
  · have h0 : ¬ ((m + 1 : Nat) : Int) ≤ 0 := by omega
    have hw : wrap64 (((m + 1 : Nat) : Int) - 1) = (m : Int) := by unfold wrap64; omega
    generalize hq : ((m + 1 : Nat) : Int) = q at *
    have HW := Lib.hid hw
    clear hw hq
    go_enter Tryz.func92, Tryz.ntmps92
    go_wp2_with fail
    go_ret
    exact ⟨by rw [HW.out]; rfl, rfl⟩

def fN (s : Nat) (l : List Int) : List Int := l.filter (fun k => !hasB (s : Int) k)

def fI (s d : Nat) (l : List Tree) : List Tree := (l.map (lessT s d)).filter (fun T => !deadT T)

theorem fN_len (s : Nat) (l : List Int) : (fN s l).length ≤ l.length := List.length_filter_le _ _

theorem fI_len (s d : Nat) (l : List Tree) : (fI s d l).length ≤ l.length := Nat.le_trans (List.length_filter_le _ _) (by simp)

theorem take_one {α : Type} {l : List α} {j : Nat} {x : α} (h : l[j]? = some x) : l.take (j + 1) = l.take j ++ [x] := by
  rw [List.take_add_one, h]; rfl

theorem fN_take {s : Nat} {l : List Int} {j : Nat} {x : Int} (h : l[j]? = some x) : fN s (l.take (j + 1)) = fN s (l.take j) ++ (if hasB (s : Int) x then [] else [x]) := by
  unfold fN
  rw [take_one h, List.filter_append]
  cases hb : hasB (s : Int) x <;> simp [List.filter_cons, hb]

theorem fI_take {s d : Nat} {l : List Tree} {j : Nat} {x : Tree} (h : l[j]? = some x) : fI s d (l.take (j + 1)) = fI s d (l.take j) ++ (if deadT (lessT s d x) then [] else [lessT s d x]) := by
  unfold fI
  rw [take_one h, List.map_append, List.filter_append]
  cases hb : deadT (lessT s d x) <;> simp [List.filter_cons, hb]

theorem cnt_take1 {α : Type} {p : α → Bool} {l : List α} {j : Nat} {x : α} (h : l[j]? = some x) : cnt p (l.take (j + 1)) = cnt p (l.take j) + (if p x then 1 else 0) := cnt_take_succ p l j x h

theorem TAt.thr {P : Nat → Prop} {d : Nat} {w : World} {t : Int} {v1 v2 : Value} {T : Tree} (h : TAt P d w (.int .i64 t) v1 v2 T) : thrOf T = t := by
  cases d with
  | zero => exact h.elim
  | succ d =>
    obtain ⟨thr, ns, is⟩ := T
    obtain ⟨h1, _⟩ := h.parts
    injection h1 with _ h2
    exact h2.symm

/-- The contract of less. -/
def LessC (s d : Nat) : Prop := ∀ (P : Nat → Prop) (n : Int) (T : Tree) (x0 x1 x2 : Value) (w : World), TAt P d w x0 x1 x2 T → WF n d T →
    Calls Tryz.prog 68 #[.agg #[x0, x1, x2], .int .i64 (s : Int)] w fun e w' => ∃ y0 y1 y2, e = .returned (.agg #[y0, y1, y2]) ∧ TAt (fun b => w.heap.size ≤ b) d w' y0 y1 y2 (lessT s d T) ∧ Below w.heap.size w w'

set_option maxRecDepth 100000 in
set_option maxHeartbeats 8000000 in
theorem less_step (s d : Nat) (hs : s < 1024) (ih : LessC s d) : LessC s (d + 1) := by
  intro P n T x0 x1 x2 w h hWF
  obtain ⟨thr, ns, is⟩ := T
  obtain ⟨i0, hin, hz0, hz1, hz2⟩ := info_parts infoInt
  obtain ⟨i3, hi3, hy0, hy1, hy2⟩ := info_parts infoTrust
  obtain ⟨rfl, hn, hi, hN, hL⟩ := h.parts
  obtain ⟨A, c, rfl⟩ := hN.slice
  obtain ⟨B, c', rfl⟩ := hL.slice
  obtain ⟨ht0, ht1, hl10, hl3, _, _, hWi⟩ := hWF
  obtain ⟨t0, rfl⟩ := Int.eq_ofNat_of_zero_le (show 0 ≤ thr by omega)
  have HWI := Lib.hid hWi
  have HT1 := Lib.hid (show t0 ≤ 13 by omega)
  clear ht1
  have HI := Lib.hid ih
  have hb3 : Below w.heap.size w (((w.alloc (.cells #[.int .i64 (t0 : Int), .slice A ns.length c, .slice B is.length c'] 51)).alloc (.cells #[.int .i64 0, .slice none 0 0, .slice none 0 0] 51)).alloc (.cells #[.int .i64 (t0 : Int), .slice none 0 0, .slice none 0 0] 51)) := balloc (balloc (balloc (bref w) _) _) _
  have k0 : (((w.alloc (.cells #[.int .i64 (t0 : Int), .slice A ns.length c, .slice B is.length c'] 51)).alloc (.cells #[.int .i64 0, .slice none 0 0, .slice none 0 0] 51)).alloc (.cells #[.int .i64 (t0 : Int), .slice none 0 0, .slice none 0 0] 51)).heap[w.heap.size]? = some (.cells #[.int .i64 (t0 : Int), .slice A ns.length c, .slice B is.length c'] 51 (0, 0)) := alloc_on (alloc_on (alloc_at rfl))
  have k1 : OutAt (((w.alloc (.cells #[.int .i64 (t0 : Int), .slice A ns.length c, .slice B is.length c'] 51)).alloc (.cells #[.int .i64 0, .slice none 0 0, .slice none 0 0] 51)).alloc (.cells #[.int .i64 (t0 : Int), .slice none 0 0, .slice none 0 0] 51)) (w.heap.size + 1) 0 (.slice none 0 0) (.slice none 0 0) := alloc_on (alloc_at (alloc_sz _ _))
  have k2 : OutAt (((w.alloc (.cells #[.int .i64 (t0 : Int), .slice A ns.length c, .slice B is.length c'] 51)).alloc (.cells #[.int .i64 0, .slice none 0 0, .slice none 0 0] 51)).alloc (.cells #[.int .i64 (t0 : Int), .slice none 0 0, .slice none 0 0] 51)) (w.heap.size + 2) (t0 : Int) (.slice none 0 0) (.slice none 0 0) := alloc_at (by rw [alloc_sz, alloc_sz])
  have hsz : (((w.alloc (.cells #[.int .i64 (t0 : Int), .slice A ns.length c, .slice B is.length c'] 51)).alloc (.cells #[.int .i64 0, .slice none 0 0, .slice none 0 0] 51)).alloc (.cells #[.int .i64 (t0 : Int), .slice none 0 0, .slice none 0 0] 51)).heap.size = w.heap.size + 3 := by rw [alloc_sz, alloc_sz, alloc_sz]
  have HN := Lib.hid ((hN.both (Q := fun b => b < w.heap.size) (fun _ _ _ => rfl) (fun k hk _ => hk)).below hb3)
  have HL := Lib.hid ((hL.both (Q := fun b => b < w.heap.size) (fun _ _ _ => rfl) (fun k hk _ => hk)).below hb3)
  have HB := Lib.hid hb3
  have K0 := Lib.hid k0
  have K1 := Lib.hid k1
  have K2 := Lib.hid k2
  clear h hb3 k0 k1 k2 hN hL hWi ih
  go_enter Tryz.func68, Tryz.ntmps68
  go_upto_region 2 with fail
  generalize (((w.alloc (.cells #[.int .i64 (t0 : Int), .slice A ns.length c, .slice B is.length c'] 51)).alloc (.cells #[.int .i64 0, .slice none 0 0, .slice none 0 0] 51)).alloc (.cells #[.int .i64 (t0 : Int), .slice none 0 0, .slice none 0 0] 51)) = W1 at *
  generalize hg : w.heap.size = g at *
  have HG := Lib.hid hg
  clear hg
  have b1 : W1.cell? ⟨g, 1, none⟩ = some (.slice A ns.length c) := cell_of_row _ _ 1 _ _ (0, 0) K0.out
  go_wp2_with fail
  clear b1
  go_loopw [17] (fun t W => ∃ (j : Nat) (v : Value), j ≤ ns.length ∧ t = .int .i64 j ∧ W.ownsRow (g + 3) 3 1 v (fN s (ns.take j)).length ((fN s (ns.take j)).map (Value.int .i64)) ∧ Hid (OutAt W (g + 2) ((t0 - cnt (hasB (s : Int)) (ns.take j) : Nat) : Int) v (.slice none 0 0)) ∧ Hid (W1.grownBy W (some (g + 2)))) (fun t _ => ns.length - (intOf t).toNat)
  case atStart => exact ⟨0, .slice none 0 0, by omega, rfl, World.ownsRow_nil _ _ _ _, K2, Lib.hid (World.grownBy.refl _ _)⟩
  case round =>
    obtain ⟨j, v, hj, rfl, hown, hO, hGr⟩ := hrel
    have hwr := hGr.out.size
    obtain ⟨o0, o1, o2⟩ := hO.out.cs
    have of0 := hO.out.fr 0
    have of1 := hO.out.fr 1
    have hol := hO.out.lt
    by_cases hlt : j < ns.length
    · obtain ⟨An, cn, hAn, hNc⟩ := HN.out
      injection hAn with hA1 hA2 hA3
      subst hA1
      subst hA3
      obtain ⟨b, off, rfl, hP, hc⟩ := hNc j hlt
      have hx0 : ns[j]? = some (ns.getD j 0) := by rw [List.getD_eq_getElem?_getD, List.getElem?_eq_getElem hlt]; rfl
      generalize ns.getD j 0 = x at *
      have d1 := (World.cell?_of_block (a := ⟨b, off + j, none⟩) (hGr.out.block b (by omega) (by simp; omega))).trans hc
      have HC := Lib.hid (cnt_take1 (p := hasB (s : Int)) hx0)
      have HF := Lib.hid (fN_take (s := s) hx0)
      have hfl := Nat.le_trans (fN_len s (ns.take j)) (by rw [List.length_take]; exact Nat.min_le_right _ _)
      clear hc hNc hx0
      cases hb : hasB (s : Int) x
      · rw [hb] at HC HF
        rw [if_neg (by simp)] at HC HF
        go_wp2_with fail
        refine (rhas_run _ _ _).mono ?_
        rintro e w2 ⟨rfl, rfl⟩
        rw [hb]
        have HOB := Lib.hid (fun (q : Nat) (hq : v.ownBlock = some q) => (hown.lt q hq).1)
        go_wp2_with (at_builtin; refine wpList_append_own _ rfl _ _ 22 rfl (g + 3) 3 i0 (.int .i64 0) 1 8 Tryz.underlying22 hin hz0 hz1 hz2 rfl (by decide) _ _ _ rfl (hown.alloc _) ⟨wr.heap.size, 0, none⟩ 1 1 [.int .i64 x] rfl rfl (cell_one_new _ _ _) (fun u hu => by simp at hu; subst hu; rfl) (by unfold maxLen; omega) (by omega) (by simp; omega) ?_; intro v' W2 hown' hgrow hnil; obtain ⟨gq, cq, rfl, hgq, hlq⟩ := hown'.form (by omega); have hO3 := hO.out.keep ((hgrow.block _ (by simp; omega) (fun e => by have := HOB.out _ e.symm; omega)).trans (Below.heap_alloc _ _ _ hol)); obtain ⟨p0, p1, p2⟩ := hO3.cs; have pf1 := hO3.fr 1)
        have hown4 := hown'.kept (gset1 W2 ⟨g + 2, 1, none⟩ (.slice (some ⟨gq, 0, none⟩) ((fN s (ns.take j)).length + 1) cq)) (.inr (by simp [Value.ownBlock]; omega))
        have HOW4 := Lib.hid (own_snoc hown4)
        have HG3 := Lib.hid (grown_at (gown (grown_trans hGr.out (grown_below (balloc (bref wr) (.cells #[.int .i64 x] 3)))) hgrow (fun q hq => by have := HOB.out q hq; omega)) 1 (.slice (some ⟨gq, 0, none⟩) ((fN s (ns.take j)).length + 1) cq))
        have HO4 := Lib.hid (hO3.set1 (.slice (some ⟨gq, 0, none⟩) ((fN s (ns.take j)).length + 1) cq))
        clear hown' hgrow hnil hown hown4
        go_roundw
        case rel => exact ⟨j + 1, _, by omega, by go_num, by rw [HF.out]; simpa using HOW4.out, by rw [HC.out]; exact HO4, HG3⟩
        case measure => simp [intOf]; omega
      · rw [hb] at HC HF
        rw [if_pos rfl] at HC HF
        have HOWN := Lib.hid hown
        have hlow : t0 - cnt (hasB (s : Int)) (ns.take j) ≤ 1000000 := by have := HT1.out; omega
        have HSUB := Lib.hid (show t0 - cnt (hasB (s : Int)) (ns.take (j + 1)) = t0 - cnt (hasB (s : Int)) (ns.take j) - 1 by have := HC.out; omega)
        generalize t0 - cnt (hasB (s : Int)) (ns.take j) = m0 at *
        go_wp2_with fail
        refine (rhas_run _ _ _).mono ?_
        rintro e w2 ⟨rfl, rfl⟩
        rw [hb]
        go_wp2_with fail
        refine (rlower_run m0 hlow _).mono ?_
        rintro e w2 ⟨rfl, rfl⟩
        have HO4 := Lib.hid (hO.out.set0 ((m0 - 1 : Nat) : Int))
        have HG3 := Lib.hid (grown_at hGr.out 0 (.int .i64 ((m0 - 1 : Nat) : Int)))
        have HOW4 := Lib.hid (HOWN.out.kept (gset1 wr ⟨g + 2, 0, none⟩ (.int .i64 ((m0 - 1 : Nat) : Int))) (own_below HOWN.out (by simp)))
        clear hown
        go_wp2_with fail
        go_roundw
        case rel => exact ⟨j + 1, v, by omega, by go_num, by rw [HF.out, List.append_nil]; exact HOW4.out, by rw [HSUB.out]; exact HO4, HG3⟩
        case measure => simp [intOf]; omega
    · obtain rfl : j = ns.length := by omega
      rw [List.take_length] at hown hO
      have HTK := Lib.hid (show cnt (hasB (s : Int)) (ns.take ns.length) = cnt (hasB (s : Int)) ns by rw [List.take_length])
      generalize hm0 : t0 - cnt (hasB (s : Int)) ns = m0 at *
      have hm13 : m0 ≤ 13 := by have := HT1.out; omega
      have HM0 := Lib.hid hm0
      clear hm0
      obtain ⟨A1, c1, rfl⟩ := own_slice hown
      have HOWN := Lib.hid hown
      have HO0 := hO
      have HG0 := hGr
      have b2 : wr.cell? ⟨g, 2, none⟩ = some (.slice B is.length c') := (World.cell?_of_block (a := ⟨g, 2, none⟩) (hGr.out.block g (by omega) (by simp))).trans (cell_of_row _ _ 2 _ _ (0, 0) K0.out)
      clear hown of0 of1 o0 o1 o2
      have hL1l := Nat.le_trans (fN_len s ns) hl10
      generalize hL1 : fN s ns = L1 at *
      have HL1 := Lib.hid hL1
      clear hL1
      go_wp2_with fail
      clear b2
      go_loopw [38] (fun t W => ∃ (j : Nat) (v2 : Value), j ≤ is.length ∧ t = .int .i64 j ∧ Hid (W.ownsRow (g + 3) 3 1 (.slice A1 L1.length c1) L1.length (L1.map (Value.int .i64))) ∧ Hid (Inner (g + 3) d W v2 (fI s d (is.take j))) ∧ Hid (OutAt W (g + 2) ((m0 - cnt (fun T => deadT (lessT s d T)) (is.take j) : Nat) : Int) (.slice A1 L1.length c1) v2) ∧ Hid (W1.grownBy W (some (g + 2)))) (fun t _ => is.length - (intOf t).toNat)
      case atStart => exact ⟨0, .slice none 0 0, by omega, rfl, HOWN, Lib.hid (Inner.nil _ _ _), HO0, HG0⟩
      case round =>
        clear HOWN HO0 HG0 hO hGr hwr hol
        obtain ⟨j, v2, hj, rfl, hOW, hInn, hO, hGr⟩ := hrel
        have hwr := hGr.out.size
        obtain ⟨o0, o1, o2⟩ := hO.out.cs
        have of0 := hO.out.fr 0
        have of2 := hO.out.fr 2
        have hol := hO.out.lt
        by_cases hlt : j < is.length
        · obtain ⟨Bn, cn, hBn, hLc⟩ := HL.out
          injection hBn with hA1 hA2 hA3
          subst hA1
          subst hA3
          obtain ⟨T, hT⟩ : ∃ T, is[j]? = some T := ⟨_, List.getElem?_eq_getElem hlt⟩
          obtain ⟨b, off, x0, x1, x2, rfl, hP, e0, e1, e2, hTk⟩ := hLc j T hT
          obtain ⟨t', A', n', ca, B', m', cb, rfl, rfl, rfl⟩ := hTk.form
          have lw := hGr.out.block b (by omega) (by simp; omega)
          have d0 := (World.cell?_of_block (a := ⟨b, off + j * 3, none⟩) lw).trans e0
          have d1 := (World.cell?_of_block (a := ⟨b, off + j * 3 + 1, none⟩) lw).trans e1
          have d2 := (World.cell?_of_block (a := ⟨b, off + j * 3 + 2, none⟩) lw).trans e2
          have hTr : TAt (fun b => b < g) d wr (.int .i64 t') (.slice A' n' ca) (.slice B' m' cb) T := hTk.keep (fun q hq hP => hGr.out.block q hq (by simp; omega))
          have HTb := Lib.hid (hTr.below (balloc (bref wr) (.cells #[.int .i64 t', .slice A' n' ca, .slice B' m' cb] 51)))
          have HWT := Lib.hid (HWI.out T (List.mem_of_getElem? hT))
          have HC := Lib.hid (cnt_take1 (p := fun T => deadT (lessT s d T)) hT)
          have HF := Lib.hid (fI_take (s := s) (d := d) hT)
          have hfl := Nat.le_trans (fI_len s d (is.take j)) (by rw [List.length_take]; exact Nat.min_le_right _ _)
          have HOWB := Lib.hid (fun q (hq : v2.ownBlock = some q) => (hInn.out.own q hq).2)
          have HGr := hGr
          have HO := hO
          clear lw e0 e1 e2 hTr hTk hLc hT hGr hO of0 of2 o0 o1 o2
          go_wp2_with fail
          refine (HI.out _ n T _ _ _ _ HTb.out HWT.out).mono ?_
          rintro e W2 ⟨y0, y1, y2, rfl, hT2, hb2⟩
          obtain ⟨t2, A2, n2, c2, B2, m2, c3, rfl, rfl, rfl⟩ := hT2.form
          have hthr := hT2.thr
          have hbA := balloc (bstep (balloc (bref wr) (.cells #[.int .i64 t', .slice A' n' ca, .slice B' m' cb] 51)) hb2) (.cells #[.int .i64 t2, .slice A2 n2 c2, .slice B2 m2 c3] 51)
          have k3 : (W2.alloc (.cells #[.int .i64 t2, .slice A2 n2 c2, .slice B2 m2 c3] 51)).heap[W2.heap.size]? = some (.cells #[.int .i64 t2, .slice A2 n2 c2, .slice B2 m2 c3] 51 (0, 0)) := alloc_at rfl
          have HT3 := Lib.hid (TAt.both (Q := fun b => wr.heap.size ≤ b) (fun _ _ _ => rfl) (fun q _ hq => by simp at hq; omega) _ _ _ _ _ (hT2.below (balloc (bref W2) (.cells #[.int .i64 t2, .slice A2 n2 c2, .slice B2 m2 c3] 51))))
          have HK3 := Lib.hid k3
          have HO3 := Lib.hid (HO.out.keep (hbA.block _ hol))
          have HOW3 := Lib.hid (own_bel hOW.out hbA)
          have HI3 := Lib.hid (hInn.out.below hbA)
          have HG3 := Lib.hid (grown_trans HGr.out (grown_below hbA))
          have HS3 := Lib.hid hbA.size
          clear hT2 hb2 hbA k3 d0 d1 d2
          go_upto_region 13 with fail
          generalize W2.alloc (.cells #[.int .i64 t2, .slice A2 n2 c2, .slice B2 m2 c3] 51) = W3 at *
          generalize W2.heap.size = r3 at *
          have r0 : W3.cell? ⟨r3, 0, none⟩ = some (.int .i64 t2) := cell_of_row _ _ 0 _ _ (0, 0) HK3.out
          have r1 : W3.cell? ⟨r3, 1, none⟩ = some (.slice A2 n2 c2) := cell_of_row _ _ 1 _ _ (0, 0) HK3.out
          have r2 : W3.cell? ⟨r3, 2, none⟩ = some (.slice B2 m2 c3) := cell_of_row _ _ 2 _ _ (0, 0) HK3.out
          obtain ⟨o0, o1, o2⟩ := HO3.out.cs
          have of0 := HO3.out.fr 0
          have of2 := HO3.out.fr 2
          have hol3 := HO3.out.lt
          cases hdd : deadT (lessT s d T)
          · rw [hdd] at HC HF
            rw [if_neg (by simp)] at HC HF
            have hpos : ¬ t2 ≤ 0 := by unfold deadT at hdd; rw [hthr] at hdd; exact of_decide_eq_false hdd
            obtain ⟨cs, hcs, hcl⟩ := HI3.out
            have hcn := hcs.1
            have HOWI := Lib.hid (fun q (hq : v2.ownBlock = some q) => (hcs.lt q hq).1)
            have HCS3 := Lib.hid hcs
            have HCSA := Lib.hid (hcs.alloc (.cells #[.int .i64 t2, .slice A2 n2 c2, .slice B2 m2 c3] 51))
            have HNEW := Lib.hid (cell_three_new W3 (.int .i64 t2) (.slice A2 n2 c2) (.slice B2 m2 c3) 51)
            have HBA4 := Lib.hid (balloc (bref W3) (.cells #[.int .i64 t2, .slice A2 n2 c2, .slice B2 m2 c3] 51))
            have HSZ4 := Lib.hid (alloc_sz W3 (.cells #[.int .i64 t2, .slice A2 n2 c2, .slice B2 m2 c3] 51))
            have HCL := Lib.hid hcl
            clear hcs hcl hthr hdd
            go_wp2_with (at_builtin; refine wpList_append_lies _ rfl _ _ 49 rfl (g + 3) 51 i3 (.agg #[.int .i64 0, .slice none 0 0, .slice none 0 0]) 3 56 Tryz.underlying49 hi3 hy0 hy1 hy2 rfl (by decide) _ (fI s d (is.take j)).length cs rfl (by exact HCSA.out) ⟨_, 0, none⟩ 1 1 [.int .i64 t2, .slice A2 n2 c2, .slice B2 m2 c3] rfl rfl (by exact HNEW.out) (by intro u hu; simp at hu; rcases hu with rfl | rfl | rfl <;> rfl) (by omega) (by unfold maxLen; omega) (by omega) (by have := HSZ4.out; omega) _ rfl ?_; intro g4 cap4 W5 hown4 hgrow4 hat4 hlt4; have hO5 := HO3.out.keep ((hgrow4.block (g + 2) (by have := HSZ4.out; omega) (fun e => by have := HOWI.out _ e.symm; omega)).trans (HBA4.out.block (g + 2) hol3)); obtain ⟨s0, s1, s2⟩ := hO5.cs; have sf2 := hO5.fr 2)
            have hgB : (W3.alloc (.cells #[.int .i64 t2, .slice A2 n2 c2, .slice B2 m2 c3] 51)).grownBy W5 v2.ownBlock := ⟨hgrow4.os, hgrow4.tape, hgrow4.output, hgrow4.size, hgrow4.block⟩
            have hI5 := Inner.append (W := W3.alloc (.cells #[.int .i64 t2, .slice A2 n2 c2, .slice B2 m2 c3] 51)) (fun k T hT => by
                obtain ⟨z0, z1, z2, e0, e1, e2, e3⟩ := HCL.out k T hT
                exact ⟨z0, z1, z2, e0, e1, e2, e3.below HBA4.out⟩) hcn
              ((HT3.out.below HBA4.out).imp (fun q _ hq => ⟨by omega, fun e => by have := (HCS3.out.lt q e).2; have := HOWB.out q e; omega⟩)) hown4 hgB hat4
            have HI5 := Lib.hid (hI5.setLow (p := ⟨g + 2, 2, none⟩) (by simp) (.slice (some ⟨g4, 0, none⟩) ((fI s d (is.take j)).length + 1) cap4))
            have HO5 := Lib.hid (hO5.set2 (.slice (some ⟨g4, 0, none⟩) ((fI s d (is.take j)).length + 1) cap4))
            have HG5 := Lib.hid (grown_at (gown (grown_trans HG3.out (grown_below HBA4.out)) hgB (fun q hq => by have := HOWI.out q hq; omega)) 2 (.slice (some ⟨g4, 0, none⟩) ((fI s d (is.take j)).length + 1) cap4))
            have hOWA := own_bel HOW3.out HBA4.out
            have HOW5 := Lib.hid ((hOWA.kept hgB (own_apart hOWA HCSA.out)).kept (gset1 W5 ⟨g + 2, 2, none⟩ (.slice (some ⟨g4, 0, none⟩) ((fI s d (is.take j)).length + 1) cap4)) (own_below (hOWA.kept hgB (own_apart hOWA HCSA.out)) (by simp)))
            clear hown4 hgrow4 hat4 hlt4 hgB hI5 hO5 hOWA s0 s1 s2 sf2
            have HCE := Lib.hid (show cnt (fun T => deadT (lessT s d T)) (is.take (j + 1)) = cnt (fun T => deadT (lessT s d T)) (is.take j) by have := HC.out; omega)
            go_roundw
            case rel => exact ⟨j + 1, _, by omega, by go_num, HOW5, by rw [HF.out]; exact HI5, by rw [HCE.out]; exact HO5, HG5⟩
            case measure => simp [intOf]; omega
          · rw [hdd] at HC HF
            rw [if_pos rfl] at HC HF
            have hpos : t2 ≤ 0 := by unfold deadT at hdd; rw [hthr] at hdd; exact of_decide_eq_true hdd
            have HSUB := Lib.hid (show m0 - cnt (fun T => deadT (lessT s d T)) (is.take (j + 1)) = m0 - cnt (fun T => deadT (lessT s d T)) (is.take j) - 1 by have := HC.out; omega)
            have hlow : m0 - cnt (fun T => deadT (lessT s d T)) (is.take j) ≤ 1000000 := by omega
            generalize m0 - cnt (fun T => deadT (lessT s d T)) (is.take j) = q0 at *
            clear hthr hdd
            go_wp2_with fail
            refine (rlower_run q0 hlow _).mono ?_
            rintro e w2 ⟨rfl, rfl⟩
            have HO4 := Lib.hid (HO3.out.set0 ((q0 - 1 : Nat) : Int))
            have HG4 := Lib.hid (grown_at HG3.out 0 (.int .i64 ((q0 - 1 : Nat) : Int)))
            have HOW4 := Lib.hid (HOW3.out.kept (gset1 W3 ⟨g + 2, 0, none⟩ (.int .i64 ((q0 - 1 : Nat) : Int))) (own_below HOW3.out (by simp)))
            have HI4 := Lib.hid (HI3.out.setLow (p := ⟨g + 2, 0, none⟩) (by simp) (.int .i64 ((q0 - 1 : Nat) : Int)))
            go_wp2_with fail
            go_roundw
            case rel => exact ⟨j + 1, v2, by omega, by go_num, HOW4, by rw [HF.out, List.append_nil]; exact HI4, by rw [HSUB.out]; exact HO4, HG4⟩
            case measure => simp [intOf]; omega
        · obtain rfl : j = is.length := by omega
          obtain ⟨A2, c2, rfl⟩ := hInn.out.slice
          have HTI := Lib.hid (show fI s d (is.take is.length) = fI s d is by rw [List.take_length])
          have hR : OutAt wr (g + 1) 0 (.slice none 0 0) (.slice none 0 0) := K1.out.keep (hGr.out.block (g + 1) (by omega) (by simp))
          obtain ⟨r0, r1, r2⟩ := hR.cs
          have rf0 := hR.fr 0
          have rf1 := hR.fr 1
          have rf2 := hR.fr 2
          have HZB := Lib.hid (show Below w.heap.size w wr by
            have h1 := HB.out
            rw [← HG.out] at h1
            exact h1.grown hGr.out h1.size (fun q hq => by obtain rfl := Option.some.inj hq; have := HG.out; omega))
          have hfl := Nat.le_trans (fI_len s d (is.take is.length)) (by rw [List.length_take]; exact Nat.min_le_right _ _)
          have HLE := Lib.hid (show lessT s (d + 1) (.mk (t0 : Int) ns is) = .mk ((m0 - cnt (fun T => deadT (lessT s d T)) (is.take is.length) : Nat) : Int) L1 (fI s d (is.take is.length)) by
            rw [← HM0.out, ← HL1.out, List.take_length]
            show Tree.mk _ _ _ = _
            have e1 : cnt deadT (is.map (lessT s d)) = cnt (fun T => deadT (lessT s d T)) is := by
              unfold cnt; rw [List.filter_map, List.length_map]; rfl
            rw [e1]
            rfl)
          generalize m0 - cnt (fun T => deadT (lessT s d T)) (is.take is.length) = tz at *
          clear HTI
          generalize fI s d (is.take is.length) = L2 at *
          have HOW := hOW
          have HInn := hInn
          clear hOW hInn hR
          go_wp2_with fail
          have K1' := ((HOW.out.kept (gset1 wr ⟨g + 1, 0, none⟩ (.int .i64 (tz : Int))) (own_below HOW.out (by simp))).kept (gset1 _ ⟨g + 1, 1, none⟩ (.slice A1 L1.length c1)) (own_below HOW.out (by simp))).kept (gset1 _ ⟨g + 1, 2, none⟩ (.slice A2 L2.length c2)) (own_below HOW.out (by simp))
          have K2' := ((HInn.out.setLow (p := ⟨g + 1, 0, none⟩) (by simp) (.int .i64 (tz : Int))).setLow (p := ⟨g + 1, 1, none⟩) (by simp) (.slice A1 L1.length c1)).setLow (p := ⟨g + 1, 2, none⟩) (by simp) (.slice A2 L2.length c2)
          have hgl := HG.out
          refine bodyPost_ret (v := .agg #[.int .i64 (tz : Int), .slice A1 L1.length c1, .slice A2 L2.length c2]) ?_ rfl ⟨_, _, _, rfl, ?_, ?_⟩
          · simp [results, Tryz.results68, go_sem, r0, r1, r2]
          · rw [HLE.out]
            exact made (fun b hb => by omega) (by omega) (by omega) K1' K2'
          · exact bset (bset (bset HZB.out (p := ⟨g + 1, 0, none⟩) (by show w.heap.size ≤ g + 1; omega) _) (p := ⟨g + 1, 1, none⟩) (by show w.heap.size ≤ g + 1; omega) _) (p := ⟨g + 1, 2, none⟩) (by show w.heap.size ≤ g + 1; omega) _

theorem less_run (s : Nat) (hs : s < 1024) : ∀ d, LessC s d
  | 0 => fun P n T x0 x1 x2 w h _ => h.elim
  | d + 1 => less_step s d hs (less_run s hs d)

end Go.Proofs.YtobdnepmjcbjeaaGreat

namespace Go.Proofs.YtobdnepmjcbjeaaGreat
set_option linter.unusedVariables false
set_option linter.unusedSimpArgs false
open Go.RowKit

/-- Members in a row of its own from B on, with trusts in blocks of Q. -/
def GRow (Q : Nat → Prop) (B d : Nat) (W : World) (v : Value) (ms : List Mem) : Prop :=
  ∃ cs : List Value, W.ownsRow B 55 4 v ms.length cs ∧ ∀ k m, ms[k]? = some m → ∃ x0 x1 x2, cs[k * 4]? = some (.bool m.1) ∧ cs[k * 4 + 1]? = some x0 ∧ cs[k * 4 + 2]? = some x1 ∧ cs[k * 4 + 3]? = some x2 ∧ TAt (fun b => Q b ∧ v.ownBlock ≠ some b) d W x0 x1 x2 m.2

theorem GRow.nil (Q : Nat → Prop) (B d : Nat) (W : World) : GRow Q B d W (.slice none 0 0) [] := ⟨[], World.ownsRow_nil _ _ _ _, fun k T h => by simp at h⟩

theorem GRow.own {Q : Nat → Prop} {B d : Nat} {W : World} {v : Value} {ms : List Mem} (h : GRow Q B d W v ms) : ∀ j, v.ownBlock = some j → B ≤ j ∧ j < W.heap.size := by
  obtain ⟨cs, h1, _⟩ := h
  exact h1.lt

theorem GRow.keep {Q : Nat → Prop} {B d : Nat} {W W' : World} {v : Value} {ms : List Mem} (h : GRow Q B d W v ms) (hk : ∀ q, (Q q ∨ B ≤ q) → q < W.heap.size → W'.heap[q]? = W.heap[q]?) : GRow Q B d W' v ms := by
  obtain ⟨cs, h1, h2⟩ := h
  refine ⟨cs, own_keepG h1 (fun j _ hB hl => hk j (.inr hB) hl), fun k m hm => ?_⟩
  obtain ⟨x0, x1, x2, e0, e1, e2, e3, e4⟩ := h2 k m hm
  exact ⟨x0, x1, x2, e0, e1, e2, e3, e4.keep (fun q hq hP => hk q (.inl hP.1) hq)⟩

/-- One more member. -/
theorem GRow.append {Q : Nat → Prop} {B d : Nat} {WA W4 : World} {lv x0 x1 x2 : Value} {ms : List Mem} {m : Mem} {g4 cap4 : Nat} {cs : List Value}
    (hcl : ∀ k m, ms[k]? = some m → ∃ x0 x1 x2, cs[k * 4]? = some (.bool m.1) ∧ cs[k * 4 + 1]? = some x0 ∧ cs[k * 4 + 2]? = some x1 ∧ cs[k * 4 + 3]? = some x2 ∧ TAt (fun b => Q b ∧ lv.ownBlock ≠ some b) d WA x0 x1 x2 m.2) (hcn : cs.length = ms.length * 4)
    (hT : TAt (fun b => Q b ∧ lv.ownBlock ≠ some b) d WA x0 x1 x2 m.2)
    (hown4 : W4.ownsRow B 55 4 (.slice (some ⟨g4, 0, none⟩) (ms.length + 1) cap4) (ms.length + 1) (cs ++ [.bool m.1, x0, x1, x2])) (hg4 : WA.grownBy W4 lv.ownBlock) (hat4 : lv.ownBlock = some g4 ∨ g4 = WA.heap.size) :
    GRow Q B d W4 (.slice (some ⟨g4, 0, none⟩) (ms.length + 1) cap4) (ms ++ [m]) := by
  have up : ∀ {y0 y1 y2 : Value} {S : Tree}, TAt (fun b => Q b ∧ lv.ownBlock ≠ some b) d WA y0 y1 y2 S → TAt (fun b => Q b ∧ (Value.slice (some ⟨g4, 0, none⟩) (ms.length + 1) cap4).ownBlock ≠ some b) d W4 y0 y1 y2 S := fun h =>
    TAt.both (fun q hq hP => hg4.block q hq (fun e => hP.2 e.symm)) (fun q hq hP => ⟨hP.1, fun e => by
      have e' : g4 = q := by simpa [Value.ownBlock] using e
      rcases hat4 with hat | hat
      · exact hP.2 (by rw [hat, e'])
      · omega⟩) _ _ _ _ _ h
  refine ⟨cs ++ [.bool m.1, x0, x1, x2], by simpa using hown4, fun k S hS => ?_⟩
  rcases Nat.lt_or_ge k ms.length with hk | hk
  · rw [List.getElem?_append_left hk] at hS
    obtain ⟨y0, y1, y2, e0, e1, e2, e3, e4⟩ := hcl k S hS
    exact ⟨y0, y1, y2, by rw [List.getElem?_append_left (by omega)]; exact e0, by rw [List.getElem?_append_left (by omega)]; exact e1, by rw [List.getElem?_append_left (by omega)]; exact e2, by rw [List.getElem?_append_left (by omega)]; exact e3, up e4⟩
  · have hk2 : k = ms.length := by
      have := (List.getElem?_eq_some_iff.1 hS).1
      simp at this; omega
    subst hk2
    have hS' : S = m := by simpa using hS.symm
    subst hS'
    refine ⟨x0, x1, x2, ?_, ?_, ?_, ?_, up hT⟩
    · rw [List.getElem?_append_right (by omega)]; simp [hcn]
    · rw [List.getElem?_append_right (by omega), show ms.length * 4 + 1 - cs.length = 1 by omega]; rfl
    · rw [List.getElem?_append_right (by omega), show ms.length * 4 + 2 - cs.length = 2 by omega]; rfl
    · rw [List.getElem?_append_right (by omega), show ms.length * 4 + 3 - cs.length = 3 by omega]; rfl

theorem GRow.mems {Q : Nat → Prop} {B d : Nat} {W : World} {v : Value} {ms : List Mem} {P : Nat → Prop} (h : GRow Q B d W v ms) (hP : ∀ b, (Q b ∨ B ≤ b) → P b) : MemsAt P d W v ms := by
  obtain ⟨cs, h1, h2⟩ := h
  rcases h1.2 with ⟨hv, h0⟩ | ⟨g, cap, cur, hv, hb, _⟩
  · exact ⟨none, 0, by rw [hv, h0], fun k T hT => by have := (List.getElem?_eq_some_iff.1 hT).1; omega⟩
  · refine ⟨some ⟨g, 0, none⟩, cap, hv, fun k m hm => ?_⟩
    obtain ⟨x0, x1, x2, e0, e1, e2, e3, e4⟩ := h2 k m hm
    have c : ∀ j u, cs[j]? = some u → W.cell? ⟨g, 0 + j, none⟩ = some u := fun j u hu => by
      have := h1.cells (g := g) (by rw [hv]; rfl) j u hu
      rwa [Addr.add_lit] at this
    exact ⟨g, 0, x0, x1, x2, rfl, hP g (.inr hb), c _ _ e0, by rw [Nat.add_assoc]; exact c _ _ e1, by rw [Nat.add_assoc]; exact c _ _ e2, by rw [Nat.add_assoc]; exact c _ _ e3, e4.imp (fun q _ hq => hP q (.inl hq.1))⟩

set_option maxRecDepth 100000 in
set_option maxHeartbeats 2000000 in
theorem rdelT_run (P : Nat → Prop) (n : Int) (s k d : Nat) (T : Tree) (x0 x1 x2 : Value) (w : World) (hs : s < 1024) (h : TAt P (d + 1) w x0 x1 x2 T) (hWF : WF n (d + 1) T) :
    Calls Tryz.prog 44 #[.agg #[x0, x1, x2], .int .i64 (k : Int), .int .i64 (s : Int)] w fun e w' => ∃ y0 y1 y2, e = .returned (.agg #[y0, y1, y2]) ∧ TAt (fun b => w.heap.size ≤ b) (d + 1) w' y0 y1 y2 (delT s k (d + 1) T) ∧ Below w.heap.size w w' := by
  obtain ⟨t', A', n', ca, B', m', cb, rfl, rfl, rfl⟩ := h.form
  have hsv := Lib.hid (show setB (s : Int) = true from setB_iff.2 ⟨by omega, by omega⟩)
  have hb2 : Below w.heap.size w ((w.alloc (.cells #[.int .i64 t', .slice A' n' ca, .slice B' m' cb] 51)).alloc (.cells #[.int .i64 0, .slice none 0 0, .slice none 0 0] 51)) := balloc (balloc (bref w) _) _
  have k0 : ((w.alloc (.cells #[.int .i64 t', .slice A' n' ca, .slice B' m' cb] 51)).alloc (.cells #[.int .i64 0, .slice none 0 0, .slice none 0 0] 51)).heap[w.heap.size]? = some (.cells #[.int .i64 t', .slice A' n' ca, .slice B' m' cb] 51 (0, 0)) := alloc_on (alloc_at rfl)
  have k1 : OutAt ((w.alloc (.cells #[.int .i64 t', .slice A' n' ca, .slice B' m' cb] 51)).alloc (.cells #[.int .i64 0, .slice none 0 0, .slice none 0 0] 51)) (w.heap.size + 1) 0 (.slice none 0 0) (.slice none 0 0) := alloc_at (alloc_sz _ _)
  have HT := Lib.hid (h.below hb2)
  have HB := Lib.hid hb2
  have K0 := Lib.hid k0
  have K1 := Lib.hid k1
  have HW := Lib.hid hWF
  clear h hb2 k0 k1 hWF
  go_enter Tryz.func44, Tryz.ntmps44
  go_upto_region 1 with fail
  generalize ((w.alloc (.cells #[.int .i64 t', .slice A' n' ca, .slice B' m' cb] 51)).alloc (.cells #[.int .i64 0, .slice none 0 0, .slice none 0 0] 51)) = W1 at *
  generalize hg : w.heap.size = g at *
  have HG := Lib.hid hg
  clear hg
  have c0 : W1.cell? ⟨g, 0, none⟩ = some (.int .i64 t') := cell_of_row _ _ 0 _ _ (0, 0) K0.out
  have c1 : W1.cell? ⟨g, 1, none⟩ = some (.slice A' n' ca) := cell_of_row _ _ 1 _ _ (0, 0) K0.out
  have c2 : W1.cell? ⟨g, 2, none⟩ = some (.slice B' m' cb) := cell_of_row _ _ 2 _ _ (0, 0) K0.out
  have hol := K1.out.lt
  go_wp2_with fail
  refine (rsetValid_run _ _).mono ?_
  rintro e w2 ⟨rfl, rfl⟩
  rw [hsv.out]
  go_wp2_with fail
  refine (less_run s hs (d + 1) _ n T _ _ _ _ HT.out HW.out).mono ?_
  rintro e W2 ⟨y0, y1, y2, rfl, hT2, hb2⟩
  obtain ⟨t2, A2, n2, c2', B2, m2, c3, rfl, rfl, rfl⟩ := hT2.form
  have hthr := hT2.thr
  have hbA := balloc hb2 (.cells #[.int .i64 t2, .slice A2 n2 c2', .slice B2 m2 c3] 51)
  have k3 : (W2.alloc (.cells #[.int .i64 t2, .slice A2 n2 c2', .slice B2 m2 c3] 51)).heap[W2.heap.size]? = some (.cells #[.int .i64 t2, .slice A2 n2 c2', .slice B2 m2 c3] 51 (0, 0)) := alloc_at rfl
  have HT3 := Lib.hid (hT2.below (balloc (bref W2) (.cells #[.int .i64 t2, .slice A2 n2 c2', .slice B2 m2 c3] 51)))
  have HK3 := Lib.hid k3
  have HO3 := Lib.hid (K1.out.keep (hbA.block _ hol))
  have HB3 := Lib.hid (show Below w.heap.size w (W2.alloc (.cells #[.int .i64 t2, .slice A2 n2 c2', .slice B2 m2 c3] 51)) by
    have h1 := HB.out
    rw [← HG.out] at h1
    exact bstep h1 hbA)
  have HS3 := Lib.hid hbA.size
  clear hT2 hb2 hbA k3 c0 c1 c2
  go_upto_region 4 with fail
  generalize W2.alloc (.cells #[.int .i64 t2, .slice A2 n2 c2', .slice B2 m2 c3] 51) = W3 at *
  generalize W2.heap.size = r3 at *
  have r0 : W3.cell? ⟨r3, 0, none⟩ = some (.int .i64 t2) := cell_of_row _ _ 0 _ _ (0, 0) HK3.out
  have r1 : W3.cell? ⟨r3, 1, none⟩ = some (.slice A2 n2 c2') := cell_of_row _ _ 1 _ _ (0, 0) HK3.out
  have r2 : W3.cell? ⟨r3, 2, none⟩ = some (.slice B2 m2 c3) := cell_of_row _ _ 2 _ _ (0, 0) HK3.out
  obtain ⟨o0, o1, o2⟩ := HO3.out.cs
  have of0 := HO3.out.fr 0
  have of1 := HO3.out.fr 1
  have of2 := HO3.out.fr 2
  have hol3 := HO3.out.lt
  have hgl := HG.out
  have HBG := Lib.hid (fun (W : World) (h : Below w.heap.size w W) => (by rw [← HG.out]; exact h : Below g w W))
  cases hdd : deadT (lessT s (d + 1) T)
  · have hpos : ¬ t2 ≤ 0 := by unfold deadT at hdd; rw [hthr] at hdd; exact of_decide_eq_false hdd
    have HE := Lib.hid (show delT s k (d + 1) T = lessT s (d + 1) T by unfold delT; rw [hdd]; rfl)
    clear hdd hthr
    go_wp2_with fail
    refine bodyPost_ret (v := .agg #[.int .i64 t2, .slice A2 n2 c2', .slice B2 m2 c3]) ?_ rfl ⟨_, _, _, rfl, ?_, ?_⟩
    · simp [results, Tryz.results44, go_sem, o0, o1, o2]
    · rw [HE.out]
      exact TAt.both (fun q hq hP => (Below.heap_setCell _ _ _ _ (by simp; omega)).trans ((Below.heap_setCell _ _ _ _ (by simp; omega)).trans (Below.heap_setCell _ _ _ _ (by simp; omega)))) (fun q _ hP => by omega) _ _ _ _ _ HT3.out
    · exact HBG.out _ (bset (bset (bset HB3.out (p := ⟨g + 1, 0, none⟩) (by show w.heap.size ≤ g + 1; omega) _) (p := ⟨g + 1, 1, none⟩) (by show w.heap.size ≤ g + 1; omega) _) (p := ⟨g + 1, 2, none⟩) (by show w.heap.size ≤ g + 1; omega) _)
  · have hpos : t2 ≤ 0 := by unfold deadT at hdd; rw [hthr] at hdd; exact of_decide_eq_true hdd
    have HE := Lib.hid (show delT s k (d + 1) T = .mk 1 [(k : Int)] [] by unfold delT; rw [hdd]; rfl)
    clear hdd hthr
    go_wp2_with fail
    refine bodyPost_ret (v := .agg #[.int .i64 1, .slice (some ⟨W3.heap.size, 0, none⟩) 1 1, .slice none 0 0]) ?_ rfl ⟨_, _, _, rfl, ?_, ?_⟩
    · simp [results, Tryz.results44, go_sem, o0, o1, o2, hol3]
    · rw [HE.out]
      refine ⟨rfl, by simp, by simp, ⟨some ⟨W3.heap.size, 0, none⟩, 1, rfl, fun j hj => ⟨W3.heap.size, 0, rfl, by omega, ?_⟩⟩, ⟨none, 0, rfl, fun k T hT => by simp at hT⟩⟩
      obtain rfl : j = 0 := by simpa using hj
      refine (cell_of_row _ _ 0 #[.int .i64 (k : Int)] 3 (0, 0) ?_)
      have := heap_alloc_new (((W3.setCell ⟨g + 1, 0, none⟩ (.int .i64 1)).setCell ⟨g + 1, 1, none⟩ (.slice (some ⟨W3.heap.size, 0, none⟩) 1 1)).setCell ⟨g + 1, 2, none⟩ (.slice none 0 0)) (.cells #[.int .i64 (k : Int)] 3)
      simpa using this
    · exact (balloc (bset (bset (bset HB3.out (p := ⟨g + 1, 0, none⟩) (by show w.heap.size ≤ g + 1; omega) _) (p := ⟨g + 1, 1, none⟩) (by show w.heap.size ≤ g + 1; omega) _) (p := ⟨g + 1, 2, none⟩) (by show w.heap.size ≤ g + 1; omega) _) _)

theorem delM_take {s k : Nat} {ms : List Mem} {m : Mem} (h : ms[k]? = some m) : (delM s ms).take (k + 1) = (delM s ms).take k ++ [delOne s k m] := take_one (delM_get h)

theorem TAt.empty (P : Nat → Prop) (d : Nat) (w : World) (A B : Option Addr) (c c' : Nat) : TAt P (d + 1) w (.int .i64 0) (.slice A 0 c) (.slice B 0 c') (.mk 0 [] []) := ⟨rfl, by simp, by simp, ⟨A, c, rfl, fun k hk => by simp at hk⟩, ⟨B, c', rfl, fun k T hT => by simp at hT⟩⟩

set_option maxRecDepth 100000 in
set_option maxHeartbeats 8000000 in
theorem rdelete_run (P : Nat → Prop) (ms : List Mem) (v : Value) (s : Nat) (w : World) (hl : ms.length ≤ 10) (hs : s < 1024) (h : MemsAt P 2 w v ms) (hok : MemsOk ms.length ms) :
    Calls Tryz.prog 18 #[.agg #[v], .int .i64 (s : Int)] w fun e w' => ∃ v', e = .returned (.agg #[v']) ∧ MemsAt (fun b => w.heap.size ≤ b) 2 w' v' (delM s ms) ∧ Below w.heap.size w w' := by
  obtain ⟨A, c, rfl⟩ := h.slice
  have hsv := Lib.hid (show setB (s : Int) = true from setB_iff.2 ⟨by omega, by omega⟩)
  obtain ⟨i4, hi4, hy0, hy1, hy2⟩ := info_parts infoMember
  have hb3 : Below w.heap.size w (((w.alloc (.cells #[.slice A ms.length c] 27)).alloc (.cells #[.slice none 0 0] 27)).alloc (.cells #[.slice none 0 0] 27)) := balloc (balloc (balloc (bref w) _) _) _
  have k0 : (((w.alloc (.cells #[.slice A ms.length c] 27)).alloc (.cells #[.slice none 0 0] 27)).alloc (.cells #[.slice none 0 0] 27)).heap[w.heap.size]? = some (.cells #[.slice A ms.length c] 27 (0, 0)) := alloc_on (alloc_on (alloc_at rfl))
  have k1 : (((w.alloc (.cells #[.slice A ms.length c] 27)).alloc (.cells #[.slice none 0 0] 27)).alloc (.cells #[.slice none 0 0] 27)).heap[w.heap.size + 1]? = some (.cells #[.slice none 0 0] 27 (0, 0)) := alloc_on (alloc_at (alloc_sz _ _))
  have k2 : (((w.alloc (.cells #[.slice A ms.length c] 27)).alloc (.cells #[.slice none 0 0] 27)).alloc (.cells #[.slice none 0 0] 27)).heap[w.heap.size + 2]? = some (.cells #[.slice none 0 0] 27 (0, 0)) := alloc_at (by rw [alloc_sz, alloc_sz])
  have hsz : (((w.alloc (.cells #[.slice A ms.length c] 27)).alloc (.cells #[.slice none 0 0] 27)).alloc (.cells #[.slice none 0 0] 27)).heap.size = w.heap.size + 3 := by rw [alloc_sz, alloc_sz, alloc_sz]
  have H := Lib.hid ((h.both (Q := fun b => b < w.heap.size) (fun _ _ _ => rfl) (fun k hk _ => hk)).below hb3)
  have HB := Lib.hid hb3
  have K0 := Lib.hid k0
  have K1 := Lib.hid k1
  have K2 := Lib.hid k2
  have HOK := Lib.hid hok
  clear h hb3 k0 k1 k2 hok
  go_enter Tryz.func18, Tryz.ntmps18
  go_upto_region 1 with fail
  go_wp2_with fail
  refine (rsetValid_run _ _).mono ?_
  rintro e w2 ⟨rfl, rfl⟩
  rw [hsv.out]
  go_upto_region 4 with fail
  generalize (((w.alloc (.cells #[.slice A ms.length c] 27)).alloc (.cells #[.slice none 0 0] 27)).alloc (.cells #[.slice none 0 0] 27)) = W1 at *
  generalize hg : w.heap.size = g at *
  have HG := Lib.hid hg
  clear hg
  have c0 : W1.cell? ⟨g, 0, none⟩ = some (.slice A ms.length c) := cell_of_row _ _ 0 _ _ (0, 0) K0.out
  go_wp2_with fail
  clear c0
  go_loopw [15] (fun t W => ∃ (k : Nat) (v : Value), k ≤ ms.length ∧ t = .int .i64 k ∧ Hid (GRow (fun b => g + 3 ≤ b) (g + 3) 2 W v ((delM s ms).take k)) ∧ Hid (W.heap[g + 2]? = some (.cells #[v] 27 (0, 0))) ∧ Hid (W1.grownBy W (some (g + 2)))) (fun t _ => ms.length - (intOf t).toNat)
  case atStart => exact ⟨0, .slice none 0 0, by omega, rfl, Lib.hid (GRow.nil _ _ _ _), K2, Lib.hid (World.grownBy.refl _ _)⟩
  case round =>
    obtain ⟨k, v, hk, rfl, hRow, hOut, hGr⟩ := hrel
    have hwr := hGr.out.size
    by_cases hlt : k < ms.length
    · obtain ⟨m, hm⟩ : ∃ m, ms[k]? = some m := ⟨_, List.getElem?_eq_getElem hlt⟩
      obtain ⟨b, off, t, A1, n1, c1, A2, n2, c2, rfl, hP, hbl, e0, e1, e2, e3, hT⟩ := memBox H.out hm
      have lw := hGr.out.block b hbl (by simp; omega)
      have d0 := (World.cell?_of_block (a := ⟨b, off + k * 4, none⟩) lw).trans e0
      have d1 := (World.cell?_of_block (a := ⟨b, off + k * 4 + 1, none⟩) lw).trans e1
      have d2 := (World.cell?_of_block (a := ⟨b, off + k * 4 + 2, none⟩) lw).trans e2
      have d3 := (World.cell?_of_block (a := ⟨b, off + k * 4 + 3, none⟩) lw).trans e3
      have hTr := hT.keep (w' := wr) (fun q hq hP => hGr.out.block q hq (by simp; omega))
      have HTK := Lib.hid (delM_take (s := s) hm)
      have HTL := Lib.hid (show ((delM s ms).take k).length = k by rw [List.length_take, delM_len]; omega)
      generalize List.take k (delM s ms) = Lk at *
      have hmo := HOK.out m (List.mem_of_getElem? hm)
      have HM1 := Lib.hid hmo.1
      have HM2 := Lib.hid hmo.2
      have hbit := hasB_bit hs (show k < 10 by omega)
      have HDO := Lib.hid (show delOne s k m = if hasB (s : Int) (k : Int) then (false, .mk 0 [] []) else if m.1 then (true, delT s k 2 m.2) else m from rfl)
      generalize delOne s k m = mo at *
      obtain ⟨dec, T⟩ := m
      have hba := balloc (bref wr) (.cells #[.bool dec, .int .i64 t, .slice A1 n1 c1, .slice A2 n2 c2] 55)
      have kx : (wr.alloc (.cells #[.bool dec, .int .i64 t, .slice A1 n1 c1, .slice A2 n2 c2] 55)).heap[wr.heap.size]? = some (.cells #[.bool dec, .int .i64 t, .slice A1 n1 c1, .slice A2 n2 c2] 55 (0, 0)) := alloc_at rfl
      have HKX := Lib.hid kx
      have HTX := Lib.hid (hTr.below hba)
      have HGX := Lib.hid (grown_trans hGr.out (grown_below hba))
      have HLX := Lib.hid (fun q (hq : q < wr.heap.size) => hba.block q hq)
      have HRW := hRow
      have HOW := hOut
      have HROX := Lib.hid (fun q (hq : v.ownBlock = some q) => (hRow.out.own q hq))
      have hwl : g + 3 ≤ wr.heap.size := by omega
      have HSX := Lib.hid (alloc_sz wr (.cells #[.bool dec, .int .i64 t, .slice A1 n1 c1, .slice A2 n2 c2] 55))
      clear hba kx hTr hT hm hmo hRow hOut hGr lw e0 e1 e2 e3
      go_upto_region 7 with fail
      generalize wr.alloc (.cells #[.bool dec, .int .i64 t, .slice A1 n1 c1, .slice A2 n2 c2] 55) = W3 at *
      generalize hrq : wr.heap.size = r at *
      have HRQ := Lib.hid hrq
      clear hrq
      have r0 : W3.cell? ⟨r, 0, none⟩ = some (.bool dec) := cell_of_row _ _ 0 _ _ (0, 0) HKX.out
      have r1 : W3.cell? ⟨r, 1, none⟩ = some (.int .i64 t) := cell_of_row _ _ 1 _ _ (0, 0) HKX.out
      have r2 : W3.cell? ⟨r, 2, none⟩ = some (.slice A1 n1 c1) := cell_of_row _ _ 2 _ _ (0, 0) HKX.out
      have r3 : W3.cell? ⟨r, 3, none⟩ = some (.slice A2 n2 c2) := cell_of_row _ _ 3 _ _ (0, 0) HKX.out
      have rf : ∀ j, W3.frozen? ⟨r, j, none⟩ = false := fun j => by simp [World.frozen?, HKX.out]
      have rf0 := rf 0
      have rf1 := rf 1
      have rf2 := rf 2
      have rf3 := rf 3
      have hrl := cell_lt r0
      have hszx := HSX.out
      clear rf d0 d1 d2 d3
      cases hb : s.testBit k
      · rw [hb] at hbit
        rw [hbit] at HDO
        rw [if_neg (by simp)] at HDO
        cases dec
        · obtain rfl := HM2.out rfl
          rw [if_neg (show ¬ (false = true) by simp)] at HDO
          obtain ⟨ht, _, _, hN, hL⟩ := HTX.out.parts
          obtain ⟨A3, c3, hv1⟩ := hN.slice
          obtain ⟨A4, c5, hv2⟩ := hL.slice
          cases ht
          cases hv1
          cases hv2
          clear hN hL
          go_wp2_with fail
          refine (rhas_run _ _ _).mono ?_
          rintro e w2 ⟨rfl, rfl⟩
          rw [hbit]
          go_upto_region 11 with fail
          have K6 := Lib.hid (show W3.heap[r]? = some (.cells #[.bool false, .int .i64 0, .slice A1 0 c1, .slice A2 0 c2] 55 (0, 0)) from HKX.out)
          have L6 := HLX
          clear hszx
          have HT6 := Lib.hid (TAt.empty (fun b => g + 3 ≤ b ∧ v.ownBlock ≠ some b) 1 W3 A1 A2 c1 c2)
          have HG6 := HGX
          have HMO := HDO
          clear r0 r1 r2 r3 rf0 rf1 rf2 rf3
          have x0 : W3.cell? ⟨r, 0, none⟩ = some (.bool false) := cell_of_row _ _ 0 _ _ (0, 0) K6.out
          have x1 : W3.cell? ⟨r, 1, none⟩ = some (.int .i64 0) := cell_of_row _ _ 1 _ _ (0, 0) K6.out
          have x2 : W3.cell? ⟨r, 2, none⟩ = some (.slice A1 0 c1) := cell_of_row _ _ 2 _ _ (0, 0) K6.out
          have x3 : W3.cell? ⟨r, 3, none⟩ = some (.slice A2 0 c2) := cell_of_row _ _ 3 _ _ (0, 0) K6.out
          have hcb6 : W3.heap[g + 2]? = some (.cells #[v] 27 (0, 0)) := (L6.out (g + 2) (by omega)).trans HOW.out
          have q2 : W3.cell? ⟨g + 2, 0, none⟩ = some v := cell_of_row _ _ 0 _ _ (0, 0) hcb6
          have HCB6 := Lib.hid hcb6
          have hR6 := HRW.out.keep (W' := W3) (fun q _ hq => L6.out q (by rw [← HRQ.out]; exact hq))
          obtain ⟨cs, hcs, hcl⟩ := hR6
          have hcn := hcs.1
          have HCSA := Lib.hid (hcs.alloc (.cells #[.bool false, .int .i64 0, .slice A1 0 c1, .slice A2 0 c2] 55))
          have HNEW := Lib.hid (cell_four_new W3 (.bool false) (.int .i64 0) (.slice A1 0 c1) (.slice A2 0 c2) 55)
          have HBA4 := Lib.hid (balloc (bref W3) (.cells #[.bool false, .int .i64 0, .slice A1 0 c1, .slice A2 0 c2] 55))
          have HSZ4 := Lib.hid (alloc_sz W3 (.cells #[.bool false, .int .i64 0, .slice A1 0 c1, .slice A2 0 c2] 55))
          have HCL := Lib.hid hcl
          have hz6 : r < W3.heap.size := cell_lt x0
          clear hcs hcl hcb6
          go_wp2_with (at_builtin; refine wpList_append_lies _ rfl _ _ 25 rfl (g + 3) 55 i4 (.agg #[.bool false, .int .i64 0, .slice none 0 0, .slice none 0 0]) 4 64 Tryz.underlying25 hi4 hy0 hy1 hy2 rfl (by decide) _ Lk.length cs rfl (by exact HCSA.out) ⟨_, 0, none⟩ 1 1 [.bool false, .int .i64 0, .slice A1 0 c1, .slice A2 0 c2] rfl rfl (by exact HNEW.out) (by intro u hu; simp at hu; rcases hu with rfl | rfl | rfl | rfl <;> rfl) (by omega) (by have := HTL.out; unfold maxLen; omega) (by have := HTL.out; omega) (by have := HSZ4.out; omega) _ rfl ?_; intro g4 cap4 W7 hown4 hgrow4 hat4 hlt4; have hcb5 : W7.heap[g + 2]? = some (.cells #[v] 27 (0, 0)) := (hgrow4.block (g + 2) (by have := HSZ4.out; omega) (fun e => by have := (HROX.out _ e.symm).1; omega)).trans ((HBA4.out.block (g + 2) (by omega)).trans HCB6.out); have s0 : W7.cell? ⟨g + 2, 0, none⟩ = some v := cell_of_row _ _ 0 _ _ (0, 0) hcb5; have sf : W7.frozen? ⟨g + 2, 0, none⟩ = false := by simp [World.frozen?, hcb5])
          have hgB : (W3.alloc (.cells #[.bool false, .int .i64 0, .slice A1 0 c1, .slice A2 0 c2] 55)).grownBy W7 v.ownBlock := ⟨hgrow4.os, hgrow4.tape, hgrow4.output, hgrow4.size, hgrow4.block⟩
          have hrow5 := GRow.append (Q := fun b => g + 3 ≤ b) (m := (false, .mk 0 [] [])) (WA := W3.alloc (.cells #[.bool false, .int .i64 0, .slice A1 0 c1, .slice A2 0 c2] 55)) (fun k m hm => by
              obtain ⟨z0, z1, z2, e0, e1, e2, e3, e4⟩ := HCL.out k m hm
              exact ⟨z0, z1, z2, e0, e1, e2, e3, e4.below HBA4.out⟩) hcn (HT6.out.below HBA4.out) hown4 hgB hat4
          rw [← HMO.out, ← HTK.out] at hrow5
          have HROW5 := Lib.hid (hrow5.keep (W' := W7.setCell ⟨g + 2, 0, none⟩ (.slice (some ⟨g4, 0, none⟩) (Lk.length + 1) cap4)) (fun q hq _ => Below.heap_setCell _ _ _ _ (by simp; omega)))
          have hset5 : (W7.setCell ⟨g + 2, 0, none⟩ (.slice (some ⟨g4, 0, none⟩) (Lk.length + 1) cap4)).heap[g + 2]? = some (.cells #[.slice (some ⟨g4, 0, none⟩) (Lk.length + 1) cap4] 27 (0, 0)) := by
            simp [World.setCell, Array.getElem?_modify, hcb5]
          have HSET5 := Lib.hid hset5
          have HGR5 := Lib.hid (grown_at (gown (grown_trans HG6.out (grown_below HBA4.out)) hgB (fun q hq => by have := (HROX.out q hq).1; omega)) 0 (.slice (some ⟨g4, 0, none⟩) (Lk.length + 1) cap4))
          clear hown4 hgrow4 hat4 hlt4 hcb5 s0 sf hgB hrow5 hset5
          go_roundw
          case rel => exact ⟨k + 1, _, by omega, by go_num, HROW5, HSET5, HGR5⟩
          case measure => simp [intOf]; omega
        · have HW := Lib.hid (HM1.out rfl)
          rw [if_pos rfl] at HDO
          have hk0 : (0 : Int) ≤ (k : Int) := by omega
          go_wp2_with fail
          refine (rhas_run _ _ _).mono ?_
          rintro e w2 ⟨rfl, rfl⟩
          rw [hbit]
          go_wp2_with fail
          refine (rdelT_run _ ms.length s k 1 T _ _ _ _ hs HTX.out HW.out).mono ?_
          rintro e W5 ⟨y0, y1, y2, rfl, hT5, hb5⟩
          obtain ⟨t6, B1, n6, c6, B2, m6, c7, rfl, rfl, rfl⟩ := hT5.form
          have z0 := (hb5.cell hrl).trans r0
          have kz := (hb5.block r hrl).trans HKX.out
          have zf1 : W5.frozen? ⟨r, 1, none⟩ = false := by simp [World.frozen?, kz]
          have zf2 : W5.frozen? ⟨r, 2, none⟩ = false := by simp [World.frozen?, kz]
          have zf3 : W5.frozen? ⟨r, 3, none⟩ = false := by simp [World.frozen?, kz]
          have z1 : W5.cell? ⟨r, 1, none⟩ = some (.int .i64 t) := cell_of_row _ _ 1 _ _ (0, 0) kz
          have z2 : W5.cell? ⟨r, 2, none⟩ = some (.slice A1 n1 c1) := cell_of_row _ _ 2 _ _ (0, 0) kz
          have z3 : W5.cell? ⟨r, 3, none⟩ = some (.slice A2 n2 c2) := cell_of_row _ _ 3 _ _ (0, 0) kz
          have hz5 : r < W5.heap.size := cell_lt z0
          have K6 := Lib.hid (show (((W5.setCell ⟨r, 1, none⟩ (.int .i64 t6)).setCell ⟨r, 2, none⟩ (.slice B1 n6 c6)).setCell ⟨r, 3, none⟩ (.slice B2 m6 c7)).heap[r]? = some (.cells #[.bool true, .int .i64 t6, .slice B1 n6 c6, .slice B2 m6 c7] 55 (0, 0)) by
            simp [World.setCell, Array.getElem?_modify, kz])
          have l6 : ∀ q, q ≠ r → (((W5.setCell ⟨r, 1, none⟩ (.int .i64 t6)).setCell ⟨r, 2, none⟩ (.slice B1 n6 c6)).setCell ⟨r, 3, none⟩ (.slice B2 m6 c7)).heap[q]? = W5.heap[q]? := fun q hq =>
            (Below.heap_setCell _ _ _ _ (by simpa using hq)).trans ((Below.heap_setCell _ _ _ _ (by simpa using hq)).trans (Below.heap_setCell _ _ _ _ (by simpa using hq)))
          have L6 := Lib.hid (fun q (hq : q < r) => (l6 q (by omega)).trans ((hb5.block q (by omega)).trans (HLX.out q (by omega))))
          have HT6 := Lib.hid (TAt.both (Q := fun b => g + 3 ≤ b ∧ v.ownBlock ≠ some b) (w' := (((W5.setCell ⟨r, 1, none⟩ (.int .i64 t6)).setCell ⟨r, 2, none⟩ (.slice B1 n6 c6)).setCell ⟨r, 3, none⟩ (.slice B2 m6 c7))) (fun q hq hP => l6 q (by omega)) (fun q _ hP => ⟨by omega, fun e => by have := (HROX.out q e).2; have := HRQ.out; omega⟩) _ _ _ _ _ hT5)
          have HG6 := Lib.hid (gset (gset (gset (grown_trans HGX.out (grown_below hb5)) (p := ⟨r, 1, none⟩) (by show W1.heap.size ≤ r; omega) (.int .i64 t6)) (p := ⟨r, 2, none⟩) (by show W1.heap.size ≤ r; omega) (.slice B1 n6 c6)) (p := ⟨r, 3, none⟩) (by show W1.heap.size ≤ r; omega) (.slice B2 m6 c7))
          obtain ⟨T6, hT6⟩ : ∃ T6, delT s k 2 T = T6 := ⟨_, rfl⟩
          rw [hT6] at HDO HT6
          have HMO := HDO
          clear hT5 l6 hb5 kz z0 hT6
          go_upto_region 11 with fail
          generalize (((W5.setCell ⟨r, 1, none⟩ (.int .i64 t6)).setCell ⟨r, 2, none⟩ (.slice B1 n6 c6)).setCell ⟨r, 3, none⟩ (.slice B2 m6 c7)) = W6 at *
          clear z1 z2 z3 zf1 zf2 zf3 r0 r1 r2 r3 rf0 rf1 rf2 rf3
          have x0 : W6.cell? ⟨r, 0, none⟩ = some (.bool true) := cell_of_row _ _ 0 _ _ (0, 0) K6.out
          have x1 : W6.cell? ⟨r, 1, none⟩ = some (.int .i64 t6) := cell_of_row _ _ 1 _ _ (0, 0) K6.out
          have x2 : W6.cell? ⟨r, 2, none⟩ = some (.slice B1 n6 c6) := cell_of_row _ _ 2 _ _ (0, 0) K6.out
          have x3 : W6.cell? ⟨r, 3, none⟩ = some (.slice B2 m6 c7) := cell_of_row _ _ 3 _ _ (0, 0) K6.out
          have hcb6 : W6.heap[g + 2]? = some (.cells #[v] 27 (0, 0)) := (L6.out (g + 2) (by omega)).trans HOW.out
          have q2 : W6.cell? ⟨g + 2, 0, none⟩ = some v := cell_of_row _ _ 0 _ _ (0, 0) hcb6
          have HCB6 := Lib.hid hcb6
          have hR6 := HRW.out.keep (W' := W6) (fun q _ hq => L6.out q (by rw [← HRQ.out]; exact hq))
          obtain ⟨cs, hcs, hcl⟩ := hR6
          have hcn := hcs.1
          have HCSA := Lib.hid (hcs.alloc (.cells #[.bool true, .int .i64 t6, .slice B1 n6 c6, .slice B2 m6 c7] 55))
          have HNEW := Lib.hid (cell_four_new W6 (.bool true) (.int .i64 t6) (.slice B1 n6 c6) (.slice B2 m6 c7) 55)
          have HBA4 := Lib.hid (balloc (bref W6) (.cells #[.bool true, .int .i64 t6, .slice B1 n6 c6, .slice B2 m6 c7] 55))
          have HSZ4 := Lib.hid (alloc_sz W6 (.cells #[.bool true, .int .i64 t6, .slice B1 n6 c6, .slice B2 m6 c7] 55))
          have HCL := Lib.hid hcl
          have hz6 : r < W6.heap.size := cell_lt x0
          clear hcs hcl hcb6
          go_wp2_with (at_builtin; refine wpList_append_lies _ rfl _ _ 25 rfl (g + 3) 55 i4 (.agg #[.bool false, .int .i64 0, .slice none 0 0, .slice none 0 0]) 4 64 Tryz.underlying25 hi4 hy0 hy1 hy2 rfl (by decide) _ Lk.length cs rfl (by exact HCSA.out) ⟨_, 0, none⟩ 1 1 [.bool true, .int .i64 t6, .slice B1 n6 c6, .slice B2 m6 c7] rfl rfl (by exact HNEW.out) (by intro u hu; simp at hu; rcases hu with rfl | rfl | rfl | rfl <;> rfl) (by omega) (by have := HTL.out; unfold maxLen; omega) (by have := HTL.out; omega) (by have := HSZ4.out; omega) _ rfl ?_; intro g4 cap4 W7 hown4 hgrow4 hat4 hlt4; have hcb5 : W7.heap[g + 2]? = some (.cells #[v] 27 (0, 0)) := (hgrow4.block (g + 2) (by have := HSZ4.out; omega) (fun e => by have := (HROX.out _ e.symm).1; omega)).trans ((HBA4.out.block (g + 2) (by omega)).trans HCB6.out); have s0 : W7.cell? ⟨g + 2, 0, none⟩ = some v := cell_of_row _ _ 0 _ _ (0, 0) hcb5; have sf : W7.frozen? ⟨g + 2, 0, none⟩ = false := by simp [World.frozen?, hcb5])
          have hgB : (W6.alloc (.cells #[.bool true, .int .i64 t6, .slice B1 n6 c6, .slice B2 m6 c7] 55)).grownBy W7 v.ownBlock := ⟨hgrow4.os, hgrow4.tape, hgrow4.output, hgrow4.size, hgrow4.block⟩
          have hrow5 := GRow.append (Q := fun b => g + 3 ≤ b) (m := (true, T6)) (WA := W6.alloc (.cells #[.bool true, .int .i64 t6, .slice B1 n6 c6, .slice B2 m6 c7] 55)) (fun k m hm => by
              obtain ⟨z0, z1, z2, e0, e1, e2, e3, e4⟩ := HCL.out k m hm
              exact ⟨z0, z1, z2, e0, e1, e2, e3, e4.below HBA4.out⟩) hcn (HT6.out.below HBA4.out) hown4 hgB hat4
          rw [← HMO.out, ← HTK.out] at hrow5
          have HROW5 := Lib.hid (hrow5.keep (W' := W7.setCell ⟨g + 2, 0, none⟩ (.slice (some ⟨g4, 0, none⟩) (Lk.length + 1) cap4)) (fun q hq _ => Below.heap_setCell _ _ _ _ (by simp; omega)))
          have hset5 : (W7.setCell ⟨g + 2, 0, none⟩ (.slice (some ⟨g4, 0, none⟩) (Lk.length + 1) cap4)).heap[g + 2]? = some (.cells #[.slice (some ⟨g4, 0, none⟩) (Lk.length + 1) cap4] 27 (0, 0)) := by
            simp [World.setCell, Array.getElem?_modify, hcb5]
          have HSET5 := Lib.hid hset5
          have HGR5 := Lib.hid (grown_at (gown (grown_trans HG6.out (grown_below HBA4.out)) hgB (fun q hq => by have := (HROX.out q hq).1; omega)) 0 (.slice (some ⟨g4, 0, none⟩) (Lk.length + 1) cap4))
          clear hown4 hgrow4 hat4 hlt4 hcb5 s0 sf hgB hrow5 hset5
          go_roundw
          case rel => exact ⟨k + 1, _, by omega, by go_num, HROW5, HSET5, HGR5⟩
          case measure => simp [intOf]; omega
      · rw [hb] at hbit
        rw [hbit] at HDO
        rw [if_pos rfl] at HDO
        go_wp2_with fail
        refine (rhas_run _ _ _).mono ?_
        rintro e w2 ⟨rfl, rfl⟩
        rw [hbit]
        have K6 := Lib.hid (show ((((W3.setCell ⟨r, 0, none⟩ (.bool false)).setCell ⟨r, 1, none⟩ (.int .i64 0)).setCell ⟨r, 2, none⟩ (.slice none 0 0)).setCell ⟨r, 3, none⟩ (.slice none 0 0)).heap[r]? = some (.cells #[.bool false, .int .i64 0, .slice none 0 0, .slice none 0 0] 55 (0, 0)) by
          simp [World.setCell, Array.getElem?_modify, HKX.out])
        have l6 : ∀ q, q ≠ r → ((((W3.setCell ⟨r, 0, none⟩ (.bool false)).setCell ⟨r, 1, none⟩ (.int .i64 0)).setCell ⟨r, 2, none⟩ (.slice none 0 0)).setCell ⟨r, 3, none⟩ (.slice none 0 0)).heap[q]? = W3.heap[q]? := fun q hq =>
          (Below.heap_setCell _ _ _ _ (by simpa using hq)).trans ((Below.heap_setCell _ _ _ _ (by simpa using hq)).trans ((Below.heap_setCell _ _ _ _ (by simpa using hq)).trans (Below.heap_setCell _ _ _ _ (by simpa using hq))))
        have L6 := Lib.hid (fun q (hq : q < r) => (l6 q (by omega)).trans (HLX.out q hq))
        have HG6 := Lib.hid (gset (gset (gset (gset HGX.out (p := ⟨r, 0, none⟩) (by show W1.heap.size ≤ r; omega) (.bool false)) (p := ⟨r, 1, none⟩) (by show W1.heap.size ≤ r; omega) (.int .i64 0)) (p := ⟨r, 2, none⟩) (by show W1.heap.size ≤ r; omega) (.slice none 0 0)) (p := ⟨r, 3, none⟩) (by show W1.heap.size ≤ r; omega) (.slice none 0 0))
        have HMO := HDO
        clear l6
        go_upto_region 11 with fail
        generalize ((((W3.setCell ⟨r, 0, none⟩ (.bool false)).setCell ⟨r, 1, none⟩ (.int .i64 0)).setCell ⟨r, 2, none⟩ (.slice none 0 0)).setCell ⟨r, 3, none⟩ (.slice none 0 0)) = W6 at *
        have HT6 := Lib.hid (TAt.empty (fun b => g + 3 ≤ b ∧ v.ownBlock ≠ some b) 1 W6 none none 0 0)
        clear r0 r1 r2 r3 rf0 rf1 rf2 rf3
        have x0 : W6.cell? ⟨r, 0, none⟩ = some (.bool false) := cell_of_row _ _ 0 _ _ (0, 0) K6.out
        have x1 : W6.cell? ⟨r, 1, none⟩ = some (.int .i64 0) := cell_of_row _ _ 1 _ _ (0, 0) K6.out
        have x2 : W6.cell? ⟨r, 2, none⟩ = some (.slice none 0 0) := cell_of_row _ _ 2 _ _ (0, 0) K6.out
        have x3 : W6.cell? ⟨r, 3, none⟩ = some (.slice none 0 0) := cell_of_row _ _ 3 _ _ (0, 0) K6.out
        have hcb6 : W6.heap[g + 2]? = some (.cells #[v] 27 (0, 0)) := (L6.out (g + 2) (by omega)).trans HOW.out
        have q2 : W6.cell? ⟨g + 2, 0, none⟩ = some v := cell_of_row _ _ 0 _ _ (0, 0) hcb6
        have HCB6 := Lib.hid hcb6
        have hR6 := HRW.out.keep (W' := W6) (fun q _ hq => L6.out q (by rw [← HRQ.out]; exact hq))
        obtain ⟨cs, hcs, hcl⟩ := hR6
        have hcn := hcs.1
        have HCSA := Lib.hid (hcs.alloc (.cells #[.bool false, .int .i64 0, .slice none 0 0, .slice none 0 0] 55))
        have HNEW := Lib.hid (cell_four_new W6 (.bool false) (.int .i64 0) (.slice none 0 0) (.slice none 0 0) 55)
        have HBA4 := Lib.hid (balloc (bref W6) (.cells #[.bool false, .int .i64 0, .slice none 0 0, .slice none 0 0] 55))
        have HSZ4 := Lib.hid (alloc_sz W6 (.cells #[.bool false, .int .i64 0, .slice none 0 0, .slice none 0 0] 55))
        have HCL := Lib.hid hcl
        have hz6 : r < W6.heap.size := cell_lt x0
        clear hcs hcl hcb6
        go_wp2_with (at_builtin; refine wpList_append_lies _ rfl _ _ 25 rfl (g + 3) 55 i4 (.agg #[.bool false, .int .i64 0, .slice none 0 0, .slice none 0 0]) 4 64 Tryz.underlying25 hi4 hy0 hy1 hy2 rfl (by decide) _ Lk.length cs rfl (by exact HCSA.out) ⟨_, 0, none⟩ 1 1 [.bool false, .int .i64 0, .slice none 0 0, .slice none 0 0] rfl rfl (by exact HNEW.out) (by intro u hu; simp at hu; rcases hu with rfl | rfl | rfl | rfl <;> rfl) (by omega) (by have := HTL.out; unfold maxLen; omega) (by have := HTL.out; omega) (by have := HSZ4.out; omega) _ rfl ?_; intro g4 cap4 W7 hown4 hgrow4 hat4 hlt4; have hcb5 : W7.heap[g + 2]? = some (.cells #[v] 27 (0, 0)) := (hgrow4.block (g + 2) (by have := HSZ4.out; omega) (fun e => by have := (HROX.out _ e.symm).1; omega)).trans ((HBA4.out.block (g + 2) (by omega)).trans HCB6.out); have s0 : W7.cell? ⟨g + 2, 0, none⟩ = some v := cell_of_row _ _ 0 _ _ (0, 0) hcb5; have sf : W7.frozen? ⟨g + 2, 0, none⟩ = false := by simp [World.frozen?, hcb5])
        have hgB : (W6.alloc (.cells #[.bool false, .int .i64 0, .slice none 0 0, .slice none 0 0] 55)).grownBy W7 v.ownBlock := ⟨hgrow4.os, hgrow4.tape, hgrow4.output, hgrow4.size, hgrow4.block⟩
        have hrow5 := GRow.append (Q := fun b => g + 3 ≤ b) (m := (false, .mk 0 [] [])) (WA := W6.alloc (.cells #[.bool false, .int .i64 0, .slice none 0 0, .slice none 0 0] 55)) (fun k m hm => by
            obtain ⟨z0, z1, z2, e0, e1, e2, e3, e4⟩ := HCL.out k m hm
            exact ⟨z0, z1, z2, e0, e1, e2, e3, e4.below HBA4.out⟩) hcn (HT6.out.below HBA4.out) hown4 hgB hat4
        rw [← HMO.out, ← HTK.out] at hrow5
        have HROW5 := Lib.hid (hrow5.keep (W' := W7.setCell ⟨g + 2, 0, none⟩ (.slice (some ⟨g4, 0, none⟩) (Lk.length + 1) cap4)) (fun q hq _ => Below.heap_setCell _ _ _ _ (by simp; omega)))
        have hset5 : (W7.setCell ⟨g + 2, 0, none⟩ (.slice (some ⟨g4, 0, none⟩) (Lk.length + 1) cap4)).heap[g + 2]? = some (.cells #[.slice (some ⟨g4, 0, none⟩) (Lk.length + 1) cap4] 27 (0, 0)) := by
          simp [World.setCell, Array.getElem?_modify, hcb5]
        have HSET5 := Lib.hid hset5
        have HGR5 := Lib.hid (grown_at (gown (grown_trans HG6.out (grown_below HBA4.out)) hgB (fun q hq => by have := (HROX.out q hq).1; omega)) 0 (.slice (some ⟨g4, 0, none⟩) (Lk.length + 1) cap4))
        clear hown4 hgrow4 hat4 hlt4 hcb5 s0 sf hgB hrow5 hset5
        go_roundw
        case rel => exact ⟨k + 1, _, by omega, by go_num, HROW5, HSET5, HGR5⟩
        case measure => simp [intOf]; omega
    · obtain rfl : k = ms.length := by omega
      have HLE := Lib.hid (show (delM s ms).take ms.length = delM s ms by rw [← delM_len s ms, List.take_length])
      have hrl : GRow (fun b => g + 3 ≤ b) (g + 3) 2 wr v (delM s ms) := by have h1 := hRow.out; rw [HLE.out] at h1; exact h1
      have hvs : ∃ A c, v = .slice A (delM s ms).length c := (hrl.mems (P := fun _ => True) (fun _ _ => trivial)).slice
      obtain ⟨Av, cv, rfl⟩ := hvs
      generalize (delM s ms).length = nv at *
      have c2 : wr.cell? ⟨g + 2, 0, none⟩ = some (.slice Av nv cv) := cell_of_row _ _ 0 _ _ (0, 0) hOut.out
      have hres : wr.heap[g + 1]? = some (.cells #[.slice none 0 0] 27 (0, 0)) := (hGr.out.block (g + 1) (by omega) (by simp)).trans K1.out
      have z0 : wr.cell? ⟨g + 1, 0, none⟩ = some (.slice none 0 0) := cell_of_row _ _ 0 _ _ (0, 0) hres
      have zf : wr.frozen? ⟨g + 1, 0, none⟩ = false := by simp [World.frozen?, hres]
      have hset : (wr.setCell ⟨g + 1, 0, none⟩ (.slice Av nv cv)).heap[g + 1]? = some (.cells #[.slice Av nv cv] 27 (0, 0)) := by
        simp [World.setCell, Array.getElem?_modify, hres]
      have q0 : (wr.setCell ⟨g + 1, 0, none⟩ (.slice Av nv cv)).cell? ⟨g + 1, 0, none⟩ = some (.slice Av nv cv) := cell_of_row _ _ 0 _ _ (0, 0) hset
      have hms : MemsAt (fun b => w.heap.size ≤ b) 2 (wr.setCell ⟨g + 1, 0, none⟩ (.slice Av nv cv)) (.slice Av nv cv) (delM s ms) := (hrl.keep (fun q hq _ => Below.heap_setCell _ _ _ _ (by simp; omega))).mems (fun b hb => by have := HG.out; omega)
      have hbW : Below w.heap.size w (wr.setCell ⟨g + 1, 0, none⟩ (.slice Av nv cv)) := by
        have h1 := HB.out
        rw [← HG.out] at h1
        exact bset (h1.grown hGr.out h1.size (fun q hq => by obtain rfl := Option.some.inj hq; have := HG.out; omega)) (p := ⟨g + 1, 0, none⟩) (by have := HG.out; show w.heap.size ≤ g + 1; omega) _
      have HF := Lib.hid (And.intro hms hbW)
      have Q0 := Lib.hid q0
      clear hset q0 hms hbW hres hrl
      go_wp2_with fail
      have q0 := Q0.out
      refine bodyPost_ret (v := .agg #[.slice Av nv cv]) ?_ rfl ⟨_, rfl, HF.out⟩
      simp [results, Tryz.results18, go_sem, q0]

end Go.Proofs.YtobdnepmjcbjeaaGreat

namespace Go.Proofs.YtobdnepmjcbjeaaGreat
set_option linter.unusedVariables false
set_option linter.unusedSimpArgs false
open Go.RowKit

theorem own_down {W : World} {B B' n e size : Nat} {v : Value} {xs : List Value} (h : W.ownsRow B e size v n xs) (hb : B' ≤ B) : W.ownsRow B' e size v n xs := by
  refine ⟨h.1, ?_⟩
  rcases h.2 with hn | ⟨g, cap, cur, h1, h2, h3⟩
  · exact .inl hn
  · exact .inr ⟨g, cap, cur, h1, by omega, h3⟩

/-- The world of data.Member: the box g, the result g + 1. -/
def MemC (w : World) (g d : Nat) (b : Bool) (t : Int) (v1 v2 : Value) (T : Tree) (W : World) : Prop :=
  W.heap[g]? = some (.cells #[.bool b, .int .i64 t, v1, v2] 55 (0, 0)) ∧ (∃ r0 r1 r2 r3, W.heap[g + 1]? = some (.cells #[r0, r1, r2, r3] 55 (0, 0))) ∧ TAt (fun q => q < g) d W (.int .i64 t) v1 v2 T ∧ Below w.heap.size w W

theorem MemC.bel {w W W' : World} {g d : Nat} {b : Bool} {t : Int} {v1 v2 : Value} {T : Tree} (h : MemC w g d b t v1 v2 T W) (hb : Below W.heap.size W W') : MemC w g d b t v1 v2 T W' := by
  obtain ⟨h1, ⟨r0, r1, r2, r3, h2⟩, h3, h4⟩ := h
  exact ⟨(hb.block _ (Array.getElem?_eq_some_iff.1 h1).1).trans h1, ⟨r0, r1, r2, r3, (hb.block _ (Array.getElem?_eq_some_iff.1 h2).1).trans h2⟩, h3.below hb, bstep h4 hb⟩

theorem MemC.cs {w W : World} {g d : Nat} {b : Bool} {t : Int} {v1 v2 : Value} {T : Tree} (h : MemC w g d b t v1 v2 T W) : W.cell? ⟨g, 0, none⟩ = some (.bool b) ∧ W.cell? ⟨g, 1, none⟩ = some (.int .i64 t) ∧ W.cell? ⟨g, 2, none⟩ = some v1 ∧ W.cell? ⟨g, 3, none⟩ = some v2 ∧ MemC w g d b t v1 v2 T W :=
  ⟨cell_of_row _ _ 0 _ _ (0, 0) h.1, cell_of_row _ _ 1 _ _ (0, 0) h.1, cell_of_row _ _ 2 _ _ (0, 0) h.1, cell_of_row _ _ 3 _ _ (0, 0) h.1, h⟩

theorem keepMC {w W W' : World} {g d : Nat} {b : Bool} {t : Int} {v1 v2 : Value} {T : Tree}
    (h : W.cell? ⟨g, 0, none⟩ = some (.bool b) ∧ W.cell? ⟨g, 1, none⟩ = some (.int .i64 t) ∧ W.cell? ⟨g, 2, none⟩ = some v1 ∧ W.cell? ⟨g, 3, none⟩ = some v2 ∧ MemC w g d b t v1 v2 T W) (hb : Below W.heap.size W W') :
    W'.cell? ⟨g, 0, none⟩ = some (.bool b) ∧ W'.cell? ⟨g, 1, none⟩ = some (.int .i64 t) ∧ W'.cell? ⟨g, 2, none⟩ = some v1 ∧ W'.cell? ⟨g, 3, none⟩ = some v2 ∧ MemC w g d b t v1 v2 T W' := (h.2.2.2.2.bel hb).cs

theorem tatMC {w W : World} {g d : Nat} {b : Bool} {t : Int} {v1 v2 : Value} {T : Tree}
    (h : W.cell? ⟨g, 0, none⟩ = some (.bool b) ∧ W.cell? ⟨g, 1, none⟩ = some (.int .i64 t) ∧ W.cell? ⟨g, 2, none⟩ = some v1 ∧ W.cell? ⟨g, 3, none⟩ = some v2 ∧ MemC w g d b t v1 v2 T W) : TAt (fun q => q < g) d W (.int .i64 t) v1 v2 T := h.2.2.2.2.2.2.1

theorem szMC {w W : World} {g d : Nat} {b : Bool} {t : Int} {v1 v2 : Value} {T : Tree}
    (h : W.cell? ⟨g, 0, none⟩ = some (.bool b) ∧ W.cell? ⟨g, 1, none⟩ = some (.int .i64 t) ∧ W.cell? ⟨g, 2, none⟩ = some v1 ∧ W.cell? ⟨g, 3, none⟩ = some v2 ∧ MemC w g d b t v1 v2 T W) : g + 2 ≤ W.heap.size := by
  obtain ⟨r0, r1, r2, r3, h2⟩ := h.2.2.2.2.2.1
  exact (Array.getElem?_eq_some_iff.1 h2).1

theorem setMC {w W : World} {g d : Nat} {b : Bool} {t : Int} {v1 v2 : Value} {T : Tree}
    (h : W.cell? ⟨g, 0, none⟩ = some (.bool b) ∧ W.cell? ⟨g, 1, none⟩ = some (.int .i64 t) ∧ W.cell? ⟨g, 2, none⟩ = some v1 ∧ W.cell? ⟨g, 3, none⟩ = some v2 ∧ MemC w g d b t v1 v2 T W) (hg : w.heap.size = g) (a0 a1 a2 a3 : Value) :
    ((((W.setCell ⟨g + 1, 0, none⟩ a0).setCell ⟨g + 1, 1, none⟩ a1).setCell ⟨g + 1, 2, none⟩ a2).setCell ⟨g + 1, 3, none⟩ a3).cell? ⟨g, 0, none⟩ = some (.bool b) ∧ ((((W.setCell ⟨g + 1, 0, none⟩ a0).setCell ⟨g + 1, 1, none⟩ a1).setCell ⟨g + 1, 2, none⟩ a2).setCell ⟨g + 1, 3, none⟩ a3).cell? ⟨g, 1, none⟩ = some (.int .i64 t) ∧ ((((W.setCell ⟨g + 1, 0, none⟩ a0).setCell ⟨g + 1, 1, none⟩ a1).setCell ⟨g + 1, 2, none⟩ a2).setCell ⟨g + 1, 3, none⟩ a3).cell? ⟨g, 2, none⟩ = some v1 ∧ ((((W.setCell ⟨g + 1, 0, none⟩ a0).setCell ⟨g + 1, 1, none⟩ a1).setCell ⟨g + 1, 2, none⟩ a2).setCell ⟨g + 1, 3, none⟩ a3).cell? ⟨g, 3, none⟩ = some v2 ∧ MemC w g d b t v1 v2 T ((((W.setCell ⟨g + 1, 0, none⟩ a0).setCell ⟨g + 1, 1, none⟩ a1).setCell ⟨g + 1, 2, none⟩ a2).setCell ⟨g + 1, 3, none⟩ a3) := by
  obtain ⟨h1, ⟨r0, r1, r2, r3, h2⟩, h3, h4⟩ := h.2.2.2.2
  have far : ∀ q, q ≠ g + 1 → ((((W.setCell ⟨g + 1, 0, none⟩ a0).setCell ⟨g + 1, 1, none⟩ a1).setCell ⟨g + 1, 2, none⟩ a2).setCell ⟨g + 1, 3, none⟩ a3).heap[q]? = W.heap[q]? := fun q hq =>
    (Below.heap_setCell _ _ _ _ (by simpa using hq)).trans ((Below.heap_setCell _ _ _ _ (by simpa using hq)).trans ((Below.heap_setCell _ _ _ _ (by simpa using hq)).trans (Below.heap_setCell _ _ _ _ (by simpa using hq))))
  refine MemC.cs ⟨(far g (by omega)).trans h1, ⟨a0, a1, a2, a3, ?_⟩, h3.keep (fun q _ hq => far q (by omega)), ?_⟩
  · simp [World.setCell, Array.getElem?_modify, h2]
  · exact bset (bset (bset (bset h4 (p := ⟨g + 1, 0, none⟩) (by show w.heap.size ≤ g + 1; omega) _) (p := ⟨g + 1, 1, none⟩) (by show w.heap.size ≤ g + 1; omega) _) (p := ⟨g + 1, 2, none⟩) (by show w.heap.size ≤ g + 1; omega) _) (p := ⟨g + 1, 3, none⟩) (by show w.heap.size ≤ g + 1; omega) _

/-- The contract of one member's copy. -/
def OneM (d : Nat) : Prop := ∀ (P : Nat → Prop) (b : Bool) (T : Tree) (x0 x1 x2 : Value) (w : World), TAt P d w x0 x1 x2 T →
    Calls Tryz.prog 88 #[.agg #[.bool b, x0, x1, x2]] w fun e w' => ∃ y0 y1 y2, e = .returned (.agg #[.bool b, y0, y1, y2]) ∧ TAt (fun q => w.heap.size ≤ q) d w' y0 y1 y2 T ∧ Below w.heap.size w w'

set_option maxRecDepth 100000 in
set_option maxHeartbeats 4000000 in
theorem member_run (d : Nat) : OneM d := by
  intro P b T x0 x1 x2 w h
  obtain ⟨t, A1, n1, c1, A2, n2, c2, rfl, rfl, rfl⟩ := h.form
  have hb2 : Below w.heap.size w ((w.alloc (.cells #[.bool b, .int .i64 t, .slice A1 n1 c1, .slice A2 n2 c2] 55)).alloc (.cells #[.bool false, .int .i64 0, .slice none 0 0, .slice none 0 0] 55)) := balloc (balloc (bref w) _) _
  have HM := Lib.hid (show MemC w w.heap.size d b t (.slice A1 n1 c1) (.slice A2 n2 c2) T ((w.alloc (.cells #[.bool b, .int .i64 t, .slice A1 n1 c1, .slice A2 n2 c2] 55)).alloc (.cells #[.bool false, .int .i64 0, .slice none 0 0, .slice none 0 0] 55)) from
    ⟨alloc_on (alloc_at rfl), ⟨_, _, _, _, alloc_at (alloc_sz _ _)⟩, (h.both (Q := fun q => q < w.heap.size) (fun _ _ _ => rfl) (fun k hk _ => hk)).below hb2, hb2⟩)
  have hsz : ((w.alloc (.cells #[.bool b, .int .i64 t, .slice A1 n1 c1, .slice A2 n2 c2] 55)).alloc (.cells #[.bool false, .int .i64 0, .slice none 0 0, .slice none 0 0] 55)).heap.size = w.heap.size + 2 := by rw [alloc_sz, alloc_sz]
  clear h hb2
  go_enter Tryz.func88, Tryz.ntmps88
  go_upto_region 1 with fail
  generalize ((w.alloc (.cells #[.bool b, .int .i64 t, .slice A1 n1 c1, .slice A2 n2 c2] 55)).alloc (.cells #[.bool false, .int .i64 0, .slice none 0 0, .slice none 0 0] 55)) = W1 at *
  generalize hg : w.heap.size = g at *
  have HG := Lib.hid hg
  clear hg
  have hS6 := Lib.hid (show W1.drew.cell? ⟨g, 0, none⟩ = some (.bool b) ∧ W1.drew.cell? ⟨g, 1, none⟩ = some (.int .i64 t) ∧ W1.drew.cell? ⟨g, 2, none⟩ = some (.slice A1 n1 c1) ∧ W1.drew.cell? ⟨g, 3, none⟩ = some (.slice A2 n2 c2) ∧ MemC w g d b t (.slice A1 n1 c1) (.slice A2 n2 c2) T W1.drew from (HM.out.bel (W' := W1.drew) ⟨rfl, rfl, rfl, Nat.le_refl _, fun _ _ => rfl⟩).cs)
  go_region_held3 (fun W => W.cell? ⟨g, 0, none⟩ = some (.bool b) ∧ W.cell? ⟨g, 1, none⟩ = some (.int .i64 t) ∧ W.cell? ⟨g, 2, none⟩ = some (.slice A1 n1 c1) ∧ W.cell? ⟨g, 3, none⟩ = some (.slice A2 n2 c2) ∧ MemC w g d b t (.slice A1 n1 c1) (.slice A2 n2 c2) T W) (first | exact hS6.out | exact hSK | exact keepMC (by assumption) hbK | exact setMC (by assumption) (by exact HG.out) _ _ _ _ | go_keep)
    (first
      | (go_at_call 90; refine (copy_one d _ T _ _ _ _ (by exact tatMC (by assumption)) trivial).mono ?_; rintro e WK ⟨y0, y1, y2, rfl, hTK0, hbK⟩; have hTK := TAt.imp (Q := fun q => g + 2 ≤ q) (fun q _ hq => Nat.le_trans (szMC (w := w) (g := g) (d := d) (b := b) (t := t) (v1 := .slice A1 n1 c1) (v2 := .slice A2 n2 c2) (T := T) (by assumption)) hq) hTK0; obtain ⟨t2, B1, m1, e1, B2, m2, e2, rfl, rfl, rfl⟩ := hTK.form; have hSK := keepMC (by assumption) hbK; obtain ⟨r0, r1, r2, r3, hOK⟩ := hSK.2.2.2.2.2.1; have p0 := cell_of_row WK (g + 1) 0 _ _ (0, 0) hOK; have p1 := cell_of_row WK (g + 1) 1 _ _ (0, 0) hOK; have p2 := cell_of_row WK (g + 1) 2 _ _ (0, 0) hOK; have p3 := cell_of_row WK (g + 1) 3 _ _ (0, 0) hOK; have f0 : WK.frozen? ⟨g + 1, 0, none⟩ = false := (by simp [World.frozen?, hOK]); have f1 : WK.frozen? ⟨g + 1, 1, none⟩ = false := (by simp [World.frozen?, hOK]); have f2 : WK.frozen? ⟨g + 1, 2, none⟩ = false := (by simp [World.frozen?, hOK]); have f3 : WK.frozen? ⟨g + 1, 3, none⟩ = false := (by simp [World.frozen?, hOK])))
  have hF := setMC hSK HG.out (.bool b) (.int .i64 t2) (.slice B1 m1 e1) (.slice B2 m2 e2)
  have hw1 : W1.heap.size = g + 2 := hsz
  go_wp2_with fail
  refine bodyPost_ret (v := .agg #[.bool b, .int .i64 t2, .slice B1 m1 e1, .slice B2 m2 e2]) ?_ rfl ⟨_, _, _, rfl, ?_, ?_⟩
  · simp [results, Tryz.results88, go_sem, p0, p1, p2, p3]
  · exact TAt.both (fun q _ hq => (Below.heap_setCell _ _ _ _ (by simp; omega)).trans ((Below.heap_setCell _ _ _ _ (by simp; omega)).trans ((Below.heap_setCell _ _ _ _ (by simp; omega)).trans (Below.heap_setCell _ _ _ _ (by simp; omega))))) (fun q _ hq => by have := HG.out; omega) _ _ _ _ _ hTK
  · exact hF.2.2.2.2.2.2.2

set_option maxHeartbeats 4000000 in
set_option maxRecDepth 100000 in
theorem listMember_run (d : Nat) (P : Nat → Prop) (v : Value) (ms : List Mem) (w : World) (hn : ms.length ≤ 10) (h : MemsAt P d w v ms) :
    Calls Tryz.prog 87 #[v, .func (.func 88) #[] #[]] w fun e w' => ∃ v', e = .returned v' ∧ GRow (fun q => w.heap.size ≤ q) w.heap.size d w' v' ms ∧ Below w.heap.size w w' := by
  obtain ⟨i0, hi, hz0, hz1, hz2⟩ := info_parts infoMember
  obtain ⟨A, c, rfl, h1⟩ := h
  have H1 := Lib.hid h1
  clear h1
  by_cases h0 : ms.length = 0
  · have hl0 : ((ms.length : Int) == 0) = true := by rw [h0]; rfl
    have hE := Lib.hid (List.eq_nil_of_length_eq_zero h0)
    clear h0
    go_enter Tryz.func87, Tryz.ntmps87
    go_wp2_with fail
    go_ret
    exact ⟨_, rfl, by rw [hE.out]; exact GRow.nil _ _ _ _, bref _⟩
  · have hl0 : ((ms.length : Int) == 0) = false := by rw [beq_eq_false_iff_ne]; omega
    go_enter Tryz.func87, Tryz.ntmps87
    go_wp2_with (at_make; refine wpList_make_full _ rfl _ _ 25 rfl w.heap.size 55 i0 (.agg #[.bool false, .int .i64 0, .slice none 0 0, .slice none 0 0]) 4 Tryz.underlying25 hi hz0 hz1 .i64 .i64 _ _ ms.length rfl rfl rfl rfl (by rw [hz2]; omega) (by unfold maxLen; omega) (Nat.le_refl _) ?_; intro w1 hown hgrow)
    have hcs1 := hown.1
    have HB1 := Lib.hid (show Below w.heap.size w w1 from (bref w).grown hgrow (Nat.le_refl _) (fun j hj => by cases hj))
    have hgl : w.heap.size < w1.heap.size := (hown.lt w.heap.size rfl).2
    go_loopw [16] (fun t wr => ∃ (k : Nat) (cs : List Value), k ≤ ms.length ∧ t = .int .i64 k ∧ Hid (wr.ownsRow w.heap.size 55 4 (.slice (some ⟨w.heap.size, 0, none⟩) ms.length ms.length) ms.length cs) ∧
      Hid (∀ j (m : Mem), j < k → ms[j]? = some m → ∃ y0 y1 y2, cs[j * 4]? = some (.bool m.1) ∧ cs[j * 4 + 1]? = some y0 ∧ cs[j * 4 + 2]? = some y1 ∧ cs[j * 4 + 3]? = some y2 ∧ TAt (fun b => w.heap.size < b) d wr y0 y1 y2 m.2) ∧ Hid (Below w.heap.size w wr)) (fun t _ => ms.length - (intOf t).toNat)
    case atStart => exact ⟨0, _, by omega, rfl, Lib.hid hown, Lib.hid (fun j T hj => by omega), HB1⟩
    case round =>
      clear hown hgrow hcs1 HB1 hgl
      obtain ⟨k, cs, hk, rfl, hO, hY, hB⟩ := hrel
      have hcl := hO.out.1
      have hgl := (hO.out.lt w.heap.size rfl).2
      by_cases hlt : k < ms.length
      · obtain ⟨m, hT⟩ : ∃ m, ms[k]? = some m := ⟨_, List.getElem?_eq_getElem hlt⟩
        obtain ⟨b, off, x0, x1, x2, rfl, hPb, cb0, c0, c1, c2, hTk⟩ := H1.out k m hT
        obtain ⟨t', A', n', ca, B', m', cb, rfl, rfl, rfl⟩ := hTk.form
        obtain ⟨bm, T⟩ := m
        have hbl := cell_lt c0
        simp only at hbl
        have eb : wr.cell? ⟨b, off + k * 4, none⟩ = some (.bool bm) := (hB.out.cell (p := ⟨b, off + k * 4, none⟩) hbl).trans cb0
        have e0 : wr.cell? ⟨b, off + k * 4 + 1, none⟩ = some (.int .i64 t') := (hB.out.cell (p := ⟨b, off + k * 4 + 1, none⟩) hbl).trans c0
        have e1 : wr.cell? ⟨b, off + k * 4 + 2, none⟩ = some (.slice A' n' ca) := (hB.out.cell (p := ⟨b, off + k * 4 + 2, none⟩) hbl).trans c1
        have e2 : wr.cell? ⟨b, off + k * 4 + 3, none⟩ = some (.slice B' m' cb) := (hB.out.cell (p := ⟨b, off + k * 4 + 3, none⟩) hbl).trans c2
        have hTr := Lib.hid ((hTk.below hB.out).below (balloc (bref wr) (.cells #[.bool bm, .int .i64 t', .slice A' n' ca, .slice B' m' cb] 55)))
        have HT := Lib.hid hT
        have hO1 := Lib.hid (hO.out.alloc (.cells #[.bool bm, .int .i64 t', .slice A' n' ca, .slice B' m' cb] 55))
        have hB1 := Lib.hid (balloc hB.out (.cells #[.bool bm, .int .i64 t', .slice A' n' ca, .slice B' m' cb] 55))
        have HF := Lib.hid (member_run d P bm T _ _ _ _ hTr.out)
        clear cb0 c0 c1 c2 hTk hT
        go_wp2_with fail
        refine HF.out.mono ?_
        rintro e w2 ⟨z0, z1, z2, rfl, hz, hb2⟩
        obtain ⟨t2, A2, n2, ca2, B2, m2, cb2, rfl, rfl, rfl⟩ := hz.form
        have hO2 := hO1.out.kept (grown_below (r := none) hb2) (.inr (by simp [Value.ownBlock]))
        have fb : w2.cell? ⟨w.heap.size, k * 4, none⟩ = cs[k * 4]? := hO2.cellAt (k * 4) (by omega)
        have f0 : w2.cell? ⟨w.heap.size, k * 4 + 1, none⟩ = cs[k * 4 + 1]? := hO2.cellAt (k * 4 + 1) (by omega)
        have f1 : w2.cell? ⟨w.heap.size, k * 4 + 2, none⟩ = cs[k * 4 + 2]? := hO2.cellAt (k * 4 + 2) (by omega)
        have f2 : w2.cell? ⟨w.heap.size, k * 4 + 3, none⟩ = cs[k * 4 + 3]? := hO2.cellAt (k * 4 + 3) (by omega)
        rw [List.getElem?_eq_getElem (by omega)] at fb f0 f1 f2
        have gb := hO2.frozenAt (k * 4)
        have g0 := hO2.frozenAt (k * 4 + 1)
        have g1 := hO2.frozenAt (k * 4 + 2)
        have g2 := hO2.frozenAt (k * 4 + 3)
        generalize cs[k * 4]'(by omega) = ub at fb
        generalize cs[k * 4 + 1]'(by omega) = u0 at f0
        generalize cs[k * 4 + 2]'(by omega) = u1 at f1
        generalize cs[k * 4 + 3]'(by omega) = u2 at f2
        have hO3 := Lib.hid (((((hO2.stored (k * 4) (.bool bm)).1.stored (k * 4 + 1) (.int .i64 t2)).1.stored (k * 4 + 2) (.slice A2 n2 ca2)).1.stored (k * 4 + 3) (.slice B2 m2 cb2)).1)
        have hB2 := Lib.hid (bset (bset (bset (bset (bstep hB1.out hb2) (p := ⟨w.heap.size, k * 4, none⟩) (Nat.le_refl _) (.bool bm)) (p := ⟨w.heap.size, k * 4 + 1, none⟩) (Nat.le_refl _) (.int .i64 t2)) (p := ⟨w.heap.size, k * 4 + 2, none⟩) (Nat.le_refl _) (.slice A2 n2 ca2)) (p := ⟨w.heap.size, k * 4 + 3, none⟩) (Nat.le_refl _) (.slice B2 m2 cb2))
        have hfar : ∀ q, q ≠ w.heap.size → ((((w2.setCell ⟨w.heap.size, k * 4, none⟩ (.bool bm)).setCell ⟨w.heap.size, k * 4 + 1, none⟩ (.int .i64 t2)).setCell ⟨w.heap.size, k * 4 + 2, none⟩ (.slice A2 n2 ca2)).setCell ⟨w.heap.size, k * 4 + 3, none⟩ (.slice B2 m2 cb2)).heap[q]? = w2.heap[q]? := fun q hq =>
          (Below.heap_setCell _ _ _ _ (by simpa using hq)).trans ((Below.heap_setCell _ _ _ _ (by simpa using hq)).trans ((Below.heap_setCell _ _ _ _ (by simpa using hq)).trans (Below.heap_setCell _ _ _ _ (by simpa using hq))))
        have hY3 : Hid (∀ j (m : Mem), j < k + 1 → ms[j]? = some m → ∃ y0 y1 y2, ((((cs.set (k * 4) (.bool bm)).set (k * 4 + 1) (.int .i64 t2)).set (k * 4 + 2) (.slice A2 n2 ca2)).set (k * 4 + 3) (.slice B2 m2 cb2))[j * 4]? = some (.bool m.1) ∧ ((((cs.set (k * 4) (.bool bm)).set (k * 4 + 1) (.int .i64 t2)).set (k * 4 + 2) (.slice A2 n2 ca2)).set (k * 4 + 3) (.slice B2 m2 cb2))[j * 4 + 1]? = some y0 ∧ ((((cs.set (k * 4) (.bool bm)).set (k * 4 + 1) (.int .i64 t2)).set (k * 4 + 2) (.slice A2 n2 ca2)).set (k * 4 + 3) (.slice B2 m2 cb2))[j * 4 + 2]? = some y1 ∧ ((((cs.set (k * 4) (.bool bm)).set (k * 4 + 1) (.int .i64 t2)).set (k * 4 + 2) (.slice A2 n2 ca2)).set (k * 4 + 3) (.slice B2 m2 cb2))[j * 4 + 3]? = some y2 ∧
            TAt (fun b => w.heap.size < b) d ((((w2.setCell ⟨w.heap.size, k * 4, none⟩ (.bool bm)).setCell ⟨w.heap.size, k * 4 + 1, none⟩ (.int .i64 t2)).setCell ⟨w.heap.size, k * 4 + 2, none⟩ (.slice A2 n2 ca2)).setCell ⟨w.heap.size, k * 4 + 3, none⟩ (.slice B2 m2 cb2)) y0 y1 y2 m.2) := Lib.hid (by
          intro j mj hj hT'
          rcases Nat.lt_or_ge j k with hjk | hjk
          · obtain ⟨y0, y1, y2, ab, a0, a1, a2, a3⟩ := hY.out j mj hjk hT'
            refine ⟨y0, y1, y2, ?_, ?_, ?_, ?_, ?_⟩
            · rw [List.getElem?_set_ne (by omega), List.getElem?_set_ne (by omega), List.getElem?_set_ne (by omega), List.getElem?_set_ne (by omega)]; exact ab
            · rw [List.getElem?_set_ne (by omega), List.getElem?_set_ne (by omega), List.getElem?_set_ne (by omega), List.getElem?_set_ne (by omega)]; exact a0
            · rw [List.getElem?_set_ne (by omega), List.getElem?_set_ne (by omega), List.getElem?_set_ne (by omega), List.getElem?_set_ne (by omega)]; exact a1
            · rw [List.getElem?_set_ne (by omega), List.getElem?_set_ne (by omega), List.getElem?_set_ne (by omega), List.getElem?_set_ne (by omega)]; exact a2
            · exact TAt.keep (fun q _ hq => hfar q (by omega)) (TAt.below (TAt.below a3 (balloc (bref wr) (.cells #[.bool bm, .int .i64 t', .slice A' n' ca, .slice B' m' cb] 55))) hb2)
          · obtain rfl : j = k := by omega
            have hTT : mj = (bm, T) := by rw [HT.out] at hT'; exact (Option.some.inj hT').symm
            subst hTT
            refine ⟨_, _, _, ?_, ?_, ?_, ?_, TAt.both (fun q _ hq => hfar q (by simp at hq; omega)) (fun q _ hq => by simp at hq; omega) _ _ _ _ _ hz⟩
            · rw [List.getElem?_set_ne (by omega), List.getElem?_set_ne (by omega), List.getElem?_set_ne (by omega), List.getElem?_set_self (by omega)]
            · rw [List.getElem?_set_ne (by omega), List.getElem?_set_ne (by omega), List.getElem?_set_self (by simp; omega)]
            · rw [List.getElem?_set_ne (by omega), List.getElem?_set_self (by simp; omega)]
            · rw [List.getElem?_set_self (by simp; omega)])
        clear hO2 hz hb2 hfar
        go_wp2_with fail
        go_roundw
        case rel => exact ⟨k + 1, _, by omega, by go_num, hO3, hY3, hB2⟩
        case measure => simp [intOf]; omega
      · obtain rfl : k = ms.length := by omega
        go_wp2_with fail
        go_ret
        refine ⟨_, rfl, ⟨cs, hO.out, fun j m hm => ?_⟩, hB.out⟩
        obtain ⟨y0, y1, y2, ab, a0, a1, a2, a3⟩ := hY.out j m (List.getElem?_eq_some_iff.1 hm).1 hm
        exact ⟨y0, y1, y2, ab, a0, a1, a2, a3.imp (fun q _ hq => ⟨by omega, fun e => by simp [Value.ownBlock] at e; omega⟩)⟩

set_option maxHeartbeats 4000000 in
set_option maxRecDepth 100000 in
theorem pconfig_run (d : Nat) (P : Nat → Prop) (v : Value) (ms : List Mem) (w : World) (hn : ms.length ≤ 10) (h : MemsAt P d w v ms) :
    Calls Tryz.prog 64 #[.agg #[v]] w fun e w' => ∃ v', e = .returned (.agg #[v']) ∧ GRow (fun q => w.heap.size ≤ q) w.heap.size d w' v' ms ∧ Below w.heap.size w w' := by
  obtain ⟨A, c, rfl⟩ := h.slice
  have hb2 : Below w.heap.size w ((w.alloc (.cells #[.slice A ms.length c] 27)).alloc (.cells #[.slice none 0 0] 27)) := balloc (balloc (bref w) _) _
  have k0 : ((w.alloc (.cells #[.slice A ms.length c] 27)).alloc (.cells #[.slice none 0 0] 27)).heap[w.heap.size]? = some (.cells #[.slice A ms.length c] 27 (0, 0)) := alloc_on (alloc_at rfl)
  have k1 : ((w.alloc (.cells #[.slice A ms.length c] 27)).alloc (.cells #[.slice none 0 0] 27)).heap[w.heap.size + 1]? = some (.cells #[.slice none 0 0] 27 (0, 0)) := alloc_at (alloc_sz _ _)
  have hsz : ((w.alloc (.cells #[.slice A ms.length c] 27)).alloc (.cells #[.slice none 0 0] 27)).heap.size = w.heap.size + 2 := by rw [alloc_sz, alloc_sz]
  have H := Lib.hid (h.below hb2)
  have HB := Lib.hid hb2
  have K0 := Lib.hid k0
  have K1 := Lib.hid k1
  clear h hb2 k0 k1
  go_enter Tryz.func64, Tryz.ntmps64
  go_upto_region 1 with fail
  generalize ((w.alloc (.cells #[.slice A ms.length c] 27)).alloc (.cells #[.slice none 0 0] 27)) = W1 at *
  generalize hg : w.heap.size = g at *
  have HG := Lib.hid hg
  clear hg
  have c0 : W1.cell? ⟨g, 0, none⟩ = some (.slice A ms.length c) := cell_of_row _ _ 0 _ _ (0, 0) K0.out
  go_wp2_with fail
  refine (listMember_run d P _ ms _ hn H.out).mono ?_
  rintro e W2 ⟨v', rfl, hR, hb⟩
  have hms := hR.mems (P := fun _ => True) (fun _ _ => trivial)
  obtain ⟨A2, c2, rfl⟩ := hms.slice
  have K2 := Lib.hid ((hb.block (g + 1) (by omega)).trans K1.out)
  have z0 : W2.cell? ⟨g + 1, 0, none⟩ = some (.slice none 0 0) := cell_of_row _ _ 0 _ _ (0, 0) K2.out
  have zf : W2.frozen? ⟨g + 1, 0, none⟩ = false := by simp [World.frozen?, K2.out]
  have hzl := cell_lt z0
  have HR := Lib.hid hR
  have HB2 := Lib.hid (show Below w.heap.size w W2 from (by have h1 := HB.out; rw [← HG.out] at h1; exact h1.trans (hb.mono (by have := HG.out; omega))))
  have hw1 := hb.size
  clear hms hR hb c0
  go_wp2_with fail
  refine bodyPost_ret (v := .agg #[.slice A2 ms.length c2]) ?_ rfl ⟨_, rfl, ?_, ?_⟩
  · simp [results, Tryz.results64, go_sem, z0]
  · have h2 := HR.out
    obtain ⟨cs, h3, h4⟩ := h2
    have hk : ∀ q, W1.heap.size ≤ q → (W2.setCell ⟨g + 1, 0, none⟩ (.slice A2 ms.length c2)).heap[q]? = W2.heap[q]? := fun q hq => Below.heap_setCell _ _ _ _ (by simp; omega)
    refine ⟨cs, ?_, fun k m hm => ?_⟩
    · have h5 := own_keepG h3 (W' := W2.setCell ⟨g + 1, 0, none⟩ (.slice A2 ms.length c2)) (fun j _ hB hl => hk j hB)
      exact own_down h5 (by have := HG.out; omega)
    · obtain ⟨x0, x1, x2, e0, e1, e2, e3, e4⟩ := h4 k m hm
      exact ⟨x0, x1, x2, e0, e1, e2, e3, TAt.both (fun q _ hP => hk q hP.1) (fun q _ hP => ⟨by have := HG.out; omega, hP.2⟩) _ _ _ _ _ e4⟩
  · exact bset HB2.out (p := ⟨g + 1, 0, none⟩) (by show w.heap.size ≤ g + 1; have := HG.out; omega) _

end Go.Proofs.YtobdnepmjcbjeaaGreat

namespace Go.Proofs.YtobdnepmjcbjeaaGreat
set_option linter.unusedVariables false
set_option linter.unusedSimpArgs false
open Go.RowKit

/-- What without returns: whether anything is still needed, and if so the trust. -/
def WithR (s d : Nat) (T R : Tree) : Prop := deadT (lessT s d T) = false → R = lessT s d T

/-- The contract of without. -/
def WithC (s d : Nat) : Prop := ∀ (P : Nat → Prop) (n : Int) (T : Tree) (x0 x1 x2 : Value) (w : World), TAt P d w x0 x1 x2 T → WF n d T →
    Calls Tryz.prog 91 #[.agg #[x0, x1, x2], .int .i64 (s : Int)] w fun e w' => ∃ y0 y1 y2, ∃ R, e = .returned (.tuple #[.agg #[y0, y1, y2], .bool (!deadT (lessT s d T))]) ∧ TAt (fun b => w.heap.size ≤ b) d w' y0 y1 y2 R ∧ WithR s d T R ∧ Below w.heap.size w w'

set_option maxRecDepth 100000 in
set_option maxHeartbeats 8000000 in
theorem with_step (s d : Nat) (hs : s < 1024) (ih : WithC s d) : WithC s (d + 1) := by
  intro P n T x0 x1 x2 w h hWF
  obtain ⟨thr, ns, is⟩ := T
  obtain ⟨i0, hin, hz0, hz1, hz2⟩ := info_parts infoInt
  obtain ⟨i3, hi3, hy0, hy1, hy2⟩ := info_parts infoTrust
  obtain ⟨rfl, hn, hi, hN, hL⟩ := h.parts
  obtain ⟨A, c, rfl⟩ := hN.slice
  obtain ⟨B, c', rfl⟩ := hL.slice
  obtain ⟨ht0, ht1, hl10, hl3, _, _, hWi⟩ := hWF
  obtain ⟨t0, rfl⟩ := Int.eq_ofNat_of_zero_le (show 0 ≤ thr by omega)
  have HWI := Lib.hid hWi
  have HT1 := Lib.hid (show t0 ≤ 13 by omega)
  clear ht1
  have HI := Lib.hid ih
  have hb2 : Below w.heap.size w ((w.alloc (.cells #[.int .i64 (t0 : Int), .slice A ns.length c, .slice B is.length c'] 51)).alloc (.cells #[.int .i64 0, .slice none 0 0, .slice none 0 0] 51)) := balloc (balloc (bref w) _) _
  have k0 : ((w.alloc (.cells #[.int .i64 (t0 : Int), .slice A ns.length c, .slice B is.length c'] 51)).alloc (.cells #[.int .i64 0, .slice none 0 0, .slice none 0 0] 51)).heap[w.heap.size]? = some (.cells #[.int .i64 (t0 : Int), .slice A ns.length c, .slice B is.length c'] 51 (0, 0)) := alloc_on (alloc_at rfl)
  have k1 : OutAt ((w.alloc (.cells #[.int .i64 (t0 : Int), .slice A ns.length c, .slice B is.length c'] 51)).alloc (.cells #[.int .i64 0, .slice none 0 0, .slice none 0 0] 51)) (w.heap.size + 1) 0 (.slice none 0 0) (.slice none 0 0) := alloc_at (alloc_sz _ _)
  have hsz0 : ((w.alloc (.cells #[.int .i64 (t0 : Int), .slice A ns.length c, .slice B is.length c'] 51)).alloc (.cells #[.int .i64 0, .slice none 0 0, .slice none 0 0] 51)).heap.size = w.heap.size + 2 := by rw [alloc_sz, alloc_sz]
  have HN0 := Lib.hid ((hN.both (Q := fun b => b < w.heap.size) (fun _ _ _ => rfl) (fun k hk _ => hk)).below hb2)
  have HL0 := Lib.hid ((hL.both (Q := fun b => b < w.heap.size) (fun _ _ _ => rfl) (fun k hk _ => hk)).below hb2)
  have HB0 := Lib.hid hb2
  have K00 := Lib.hid k0
  have K10 := Lib.hid k1
  have hpos0 : ¬ (t0 : Int) ≤ 0 := by omega
  clear h hb2 k0 k1 hN hL hWi ih
  go_enter Tryz.func91, Tryz.ntmps91
  go_upto_region 1 with fail
  generalize ((w.alloc (.cells #[.int .i64 (t0 : Int), .slice A ns.length c, .slice B is.length c'] 51)).alloc (.cells #[.int .i64 0, .slice none 0 0, .slice none 0 0] 51)) = W0 at *
  generalize hg : w.heap.size = g at *
  have HG := Lib.hid hg
  clear hg
  have b0 : W0.cell? ⟨g, 0, none⟩ = some (.int .i64 (t0 : Int)) := cell_of_row _ _ 0 _ _ (0, 0) K00.out
  have hbA := balloc (bref W0) (.cells #[.int .i64 (t0 : Int), .slice none 0 0, .slice none 0 0] 51)
  have HN := Lib.hid (HN0.out.below hbA)
  have HL := Lib.hid (HL0.out.below hbA)
  have HB := Lib.hid (show Below g w (W0.alloc (.cells #[.int .i64 (t0 : Int), .slice none 0 0, .slice none 0 0] 51)) from by have h1 := HB0.out; exact h1.trans (hbA.mono (by omega)))
  have K0 := Lib.hid (alloc_on (o := .cells #[.int .i64 (t0 : Int), .slice none 0 0, .slice none 0 0] 51) K00.out)
  have K1 := Lib.hid (K10.out.keep (hbA.block _ K10.out.lt))
  have K2 := Lib.hid (show OutAt (W0.alloc (.cells #[.int .i64 (t0 : Int), .slice none 0 0, .slice none 0 0] 51)) (g + 2) (t0 : Int) (.slice none 0 0) (.slice none 0 0) from alloc_at hsz0)
  have hsz : (W0.alloc (.cells #[.int .i64 (t0 : Int), .slice none 0 0, .slice none 0 0] 51)).heap.size = g + 3 := by rw [alloc_sz, hsz0]
  clear hbA HN0 HL0 HB0 K00 K10
  go_upto_region 4 with fail
  generalize W0.alloc (.cells #[.int .i64 (t0 : Int), .slice none 0 0, .slice none 0 0] 51) = W1 at *
  clear b0 hsz0
  have b1 : W1.cell? ⟨g, 1, none⟩ = some (.slice A ns.length c) := cell_of_row _ _ 1 _ _ (0, 0) K0.out
  go_wp2_with fail
  clear b1
  go_loopw [23] (fun t W => ∃ (j : Nat) (v : Value), j ≤ ns.length ∧ t = .int .i64 j ∧ W.ownsRow (g + 3) 3 1 v (fN s (ns.take j)).length ((fN s (ns.take j)).map (Value.int .i64)) ∧ Hid (OutAt W (g + 2) ((t0 : Int) - (cnt (hasB (s : Int)) (ns.take j) : Nat)) v (.slice none 0 0)) ∧ Hid (W1.grownBy W (some (g + 2)))) (fun t _ => ns.length - (intOf t).toNat)
  case atStart => exact ⟨0, .slice none 0 0, by omega, rfl, World.ownsRow_nil _ _ _ _, K2, Lib.hid (World.grownBy.refl _ _)⟩
  case round =>
    obtain ⟨j, v, hj, rfl, hown, hO, hGr⟩ := hrel
    have hwr := hGr.out.size
    obtain ⟨o0, o1, o2⟩ := hO.out.cs
    have of0 := hO.out.fr 0
    have of1 := hO.out.fr 1
    have hol := hO.out.lt
    by_cases hlt : j < ns.length
    · obtain ⟨An, cn, hAn, hNc⟩ := HN.out
      injection hAn with hA1 hA2 hA3
      subst hA1
      subst hA3
      obtain ⟨b, off, rfl, hP, hc⟩ := hNc j hlt
      have hx0 : ns[j]? = some (ns.getD j 0) := by rw [List.getD_eq_getElem?_getD, List.getElem?_eq_getElem hlt]; rfl
      generalize ns.getD j 0 = x at *
      have d1 := (World.cell?_of_block (a := ⟨b, off + j, none⟩) (hGr.out.block b (by omega) (by simp; omega))).trans hc
      have HC := Lib.hid (cnt_take1 (p := hasB (s : Int)) hx0)
      have HF := Lib.hid (fN_take (s := s) hx0)
      have hfl := Nat.le_trans (fN_len s (ns.take j)) (by rw [List.length_take]; exact Nat.min_le_right _ _)
      clear hc hNc hx0
      cases hb : hasB (s : Int) x
      · rw [hb] at HC HF
        rw [if_neg (by simp)] at HC HF
        go_wp2_with fail
        refine (has_run _ _ _).mono ?_
        rintro e w2 ⟨rfl, rfl⟩
        rw [hb]
        have HOB := Lib.hid (fun (q : Nat) (hq : v.ownBlock = some q) => (hown.lt q hq).1)
        go_wp2_with (at_builtin; refine wpList_append_own _ rfl _ _ 22 rfl (g + 3) 3 i0 (.int .i64 0) 1 8 Tryz.underlying22 hin hz0 hz1 hz2 rfl (by decide) _ _ _ rfl (hown.alloc _) ⟨wr.heap.size, 0, none⟩ 1 1 [.int .i64 x] rfl rfl (cell_one_new _ _ _) (fun u hu => by simp at hu; subst hu; rfl) (by unfold maxLen; omega) (by omega) (by simp; omega) ?_; intro v' W2 hown' hgrow hnil; obtain ⟨gq, cq, rfl, hgq, hlq⟩ := hown'.form (by omega); have hO3 := hO.out.keep ((hgrow.block _ (by simp; omega) (fun e => by have := HOB.out _ e.symm; omega)).trans (Below.heap_alloc _ _ _ hol)); obtain ⟨p0, p1, p2⟩ := hO3.cs; have pf1 := hO3.fr 1)
        have hown4 := hown'.kept (gset1 W2 ⟨g + 2, 1, none⟩ (.slice (some ⟨gq, 0, none⟩) ((fN s (ns.take j)).length + 1) cq)) (.inr (by simp [Value.ownBlock]; omega))
        have HOW4 := Lib.hid (own_snoc hown4)
        have HG3 := Lib.hid (grown_at (gown (grown_trans hGr.out (grown_below (balloc (bref wr) (.cells #[.int .i64 x] 3)))) hgrow (fun q hq => by have := HOB.out q hq; omega)) 1 (.slice (some ⟨gq, 0, none⟩) ((fN s (ns.take j)).length + 1) cq))
        have HO4 := Lib.hid (hO3.set1 (.slice (some ⟨gq, 0, none⟩) ((fN s (ns.take j)).length + 1) cq))
        clear hown' hgrow hnil hown hown4
        go_roundw
        case rel => exact ⟨j + 1, _, by omega, by go_num, by rw [HF.out]; simpa using HOW4.out, by rw [HC.out]; exact HO4, HG3⟩
        case measure => simp [intOf]; omega
      · rw [hb] at HC HF
        rw [if_pos rfl] at HC HF
        have HOWN := Lib.hid hown
        have hcl := Nat.le_trans (cnt_le (hasB (s : Int)) (ns.take j)) (by rw [List.length_take]; exact Nat.min_le_right _ _)
        have HSUB := Lib.hid (show (t0 : Int) - (cnt (hasB (s : Int)) (ns.take (j + 1)) : Nat) = (t0 : Int) - (cnt (hasB (s : Int)) (ns.take j) : Nat) - 1 by have := HC.out; omega)
        have hq0 : -20 ≤ (t0 : Int) - (cnt (hasB (s : Int)) (ns.take j) : Nat) := by omega
        have hq1 : (t0 : Int) - (cnt (hasB (s : Int)) (ns.take j) : Nat) ≤ 20 := by have := HT1.out; omega
        generalize (t0 : Int) - (cnt (hasB (s : Int)) (ns.take j) : Nat) = m0 at *
        have HO4 := Lib.hid (hO.out.set0 (m0 - 1))
        have HG3 := Lib.hid (grown_at hGr.out 0 (.int .i64 (m0 - 1)))
        have HOW4 := Lib.hid (HOWN.out.kept (gset1 wr ⟨g + 2, 0, none⟩ (.int .i64 (m0 - 1))) (own_below HOWN.out (by simp)))
        clear hown
        go_wp2_with fail
        refine (has_run _ _ _).mono ?_
        rintro e w2 ⟨rfl, rfl⟩
        rw [hb]
        go_wp2_with fail
        go_roundw
        case rel => exact ⟨j + 1, v, by omega, by go_num, by rw [HF.out, List.append_nil]; exact HOW4.out, by rw [HSUB.out]; exact HO4, HG3⟩
        case measure => simp [intOf]; omega
    · obtain rfl : j = ns.length := by omega
      rw [List.take_length] at hown hO
      have HTK := Lib.hid (show cnt (hasB (s : Int)) (ns.take ns.length) = cnt (hasB (s : Int)) ns by rw [List.take_length])
      have hcl := cnt_le (hasB (s : Int)) ns
      generalize hm0 : (t0 : Int) - (cnt (hasB (s : Int)) ns : Nat) = m0 at *
      have hm13 : m0 ≤ 13 := by have := HT1.out; omega
      have hm10 : -10 ≤ m0 := by omega
      have HM0 := Lib.hid hm0
      clear hm0 hcl
      obtain ⟨A1, c1, rfl⟩ := own_slice hown
      have HOWN := Lib.hid hown
      have HO0 := hO
      have HG0 := hGr
      have b2 : wr.cell? ⟨g, 2, none⟩ = some (.slice B is.length c') := (World.cell?_of_block (a := ⟨g, 2, none⟩) (hGr.out.block g (by omega) (by simp))).trans (cell_of_row _ _ 2 _ _ (0, 0) K0.out)
      clear hown of0 of1 o0 o1 o2
      have hL1l := Nat.le_trans (fN_len s ns) hl10
      generalize hL1 : fN s ns = L1 at *
      have HL1 := Lib.hid hL1
      clear hL1
      go_wp2_with fail
      clear b2
      go_loopw [44] (fun t W => ∃ (j : Nat) (v2 : Value), j ≤ is.length ∧ t = .int .i64 j ∧ Hid (W.ownsRow (g + 3) 3 1 (.slice A1 L1.length c1) L1.length (L1.map (Value.int .i64))) ∧ Hid (Inner (g + 3) d W v2 (fI s d (is.take j))) ∧ Hid (OutAt W (g + 2) (m0 - (cnt (fun T => deadT (lessT s d T)) (is.take j) : Nat)) (.slice A1 L1.length c1) v2) ∧ Hid (W1.grownBy W (some (g + 2)))) (fun t _ => is.length - (intOf t).toNat)
      case atStart => exact ⟨0, .slice none 0 0, by omega, rfl, HOWN, Lib.hid (Inner.nil _ _ _), Lib.hid (by simpa [cnt] using HO0.out), HG0⟩
      case round =>
        clear HOWN HO0 HG0 hO hGr hwr hol
        obtain ⟨j, v2, hj, rfl, hOW, hInn, hO, hGr⟩ := hrel
        have hwr := hGr.out.size
        obtain ⟨o0, o1, o2⟩ := hO.out.cs
        have of0 := hO.out.fr 0
        have of2 := hO.out.fr 2
        have hol := hO.out.lt
        by_cases hlt : j < is.length
        · obtain ⟨Bn, cn, hBn, hLc⟩ := HL.out
          injection hBn with hA1 hA2 hA3
          subst hA1
          subst hA3
          obtain ⟨T, hT⟩ : ∃ T, is[j]? = some T := ⟨_, List.getElem?_eq_getElem hlt⟩
          obtain ⟨b, off, x0, x1, x2, rfl, hP, e0, e1, e2, hTk⟩ := hLc j T hT
          obtain ⟨t', A', n', ca, B', m', cb, rfl, rfl, rfl⟩ := hTk.form
          have lw := hGr.out.block b (by omega) (by simp; omega)
          have d0 := (World.cell?_of_block (a := ⟨b, off + j * 3, none⟩) lw).trans e0
          have d1 := (World.cell?_of_block (a := ⟨b, off + j * 3 + 1, none⟩) lw).trans e1
          have d2 := (World.cell?_of_block (a := ⟨b, off + j * 3 + 2, none⟩) lw).trans e2
          have hTr : TAt (fun b => b < g) d wr (.int .i64 t') (.slice A' n' ca) (.slice B' m' cb) T := hTk.keep (fun q hq hP => hGr.out.block q hq (by simp; omega))
          have HTb := Lib.hid (hTr.below (balloc (bref wr) (.cells #[.int .i64 t', .slice A' n' ca, .slice B' m' cb] 51)))
          have HWT := Lib.hid (HWI.out T (List.mem_of_getElem? hT))
          have HC := Lib.hid (cnt_take1 (p := fun T => deadT (lessT s d T)) hT)
          have HF := Lib.hid (fI_take (s := s) (d := d) hT)
          have hfl := Nat.le_trans (fI_len s d (is.take j)) (by rw [List.length_take]; exact Nat.min_le_right _ _)
          have HOWB := Lib.hid (fun q (hq : v2.ownBlock = some q) => (hInn.out.own q hq).2)
          have HGr := hGr
          have HO := hO
          clear lw e0 e1 e2 hTr hTk hLc hT hGr hO of0 of2 o0 o1 o2
          go_wp2_with fail
          refine (HI.out _ n T _ _ _ _ HTb.out HWT.out).mono ?_
          rintro e W2 ⟨y0, y1, y2, R2, rfl, hT2, hR2, hb2⟩
          obtain ⟨t2, A2, n2, c2, B2, m2, c3, rfl, rfl, rfl⟩ := hT2.form
          have HR2 := Lib.hid hR2
          clear hR2
          have hbA := balloc (bstep (balloc (bref wr) (.cells #[.int .i64 t', .slice A' n' ca, .slice B' m' cb] 51)) hb2) (.cells #[.int .i64 t2, .slice A2 n2 c2, .slice B2 m2 c3] 51)
          have k3 : (W2.alloc (.cells #[.int .i64 t2, .slice A2 n2 c2, .slice B2 m2 c3] 51)).heap[W2.heap.size]? = some (.cells #[.int .i64 t2, .slice A2 n2 c2, .slice B2 m2 c3] 51 (0, 0)) := alloc_at rfl
          have HT3 := Lib.hid (TAt.both (Q := fun b => wr.heap.size ≤ b) (fun _ _ _ => rfl) (fun q _ hq => by simp at hq; omega) _ _ _ _ _ (hT2.below (balloc (bref W2) (.cells #[.int .i64 t2, .slice A2 n2 c2, .slice B2 m2 c3] 51))))
          have HK3 := Lib.hid k3
          have HO3 := Lib.hid (HO.out.keep (hbA.block _ hol))
          have HOW3 := Lib.hid (own_bel hOW.out hbA)
          have HI3 := Lib.hid (hInn.out.below hbA)
          have HG3 := Lib.hid (grown_trans HGr.out (grown_below hbA))
          have HS3 := Lib.hid hbA.size
          clear hT2 hb2 hbA k3 d0 d1 d2
          go_upto_region 15 with fail
          generalize W2.alloc (.cells #[.int .i64 t2, .slice A2 n2 c2, .slice B2 m2 c3] 51) = W3 at *
          generalize W2.heap.size = r3 at *
          have r0 : W3.cell? ⟨r3, 0, none⟩ = some (.int .i64 t2) := cell_of_row _ _ 0 _ _ (0, 0) HK3.out
          have r1 : W3.cell? ⟨r3, 1, none⟩ = some (.slice A2 n2 c2) := cell_of_row _ _ 1 _ _ (0, 0) HK3.out
          have r2 : W3.cell? ⟨r3, 2, none⟩ = some (.slice B2 m2 c3) := cell_of_row _ _ 2 _ _ (0, 0) HK3.out
          obtain ⟨o0, o1, o2⟩ := HO3.out.cs
          have of0 := HO3.out.fr 0
          have of2 := HO3.out.fr 2
          have hol3 := HO3.out.lt
          cases hdd : deadT (lessT s d T)
          · rw [hdd] at HC HF
            rw [if_neg (by simp)] at HC HF
            have hR2 := HR2.out hdd
            subst hR2
            obtain ⟨cs, hcs, hcl⟩ := HI3.out
            have hcn := hcs.1
            have HOWI := Lib.hid (fun q (hq : v2.ownBlock = some q) => (hcs.lt q hq).1)
            have HCS3 := Lib.hid hcs
            have HCSA := Lib.hid (hcs.alloc (.cells #[.int .i64 t2, .slice A2 n2 c2, .slice B2 m2 c3] 51))
            have HNEW := Lib.hid (cell_three_new W3 (.int .i64 t2) (.slice A2 n2 c2) (.slice B2 m2 c3) 51)
            have HBA4 := Lib.hid (balloc (bref W3) (.cells #[.int .i64 t2, .slice A2 n2 c2, .slice B2 m2 c3] 51))
            have HSZ4 := Lib.hid (alloc_sz W3 (.cells #[.int .i64 t2, .slice A2 n2 c2, .slice B2 m2 c3] 51))
            have HCL := Lib.hid hcl
            clear hcs hcl hdd
            rw [Bool.not_false]
            go_wp2_with (at_builtin; refine wpList_append_lies _ rfl _ _ 49 rfl (g + 3) 51 i3 (.agg #[.int .i64 0, .slice none 0 0, .slice none 0 0]) 3 56 Tryz.underlying49 hi3 hy0 hy1 hy2 rfl (by decide) _ (fI s d (is.take j)).length cs rfl (by exact HCSA.out) ⟨_, 0, none⟩ 1 1 [.int .i64 t2, .slice A2 n2 c2, .slice B2 m2 c3] rfl rfl (by exact HNEW.out) (by intro u hu; simp at hu; rcases hu with rfl | rfl | rfl <;> rfl) (by omega) (by unfold maxLen; omega) (by omega) (by have := HSZ4.out; omega) _ rfl ?_; intro g4 cap4 W5 hown4 hgrow4 hat4 hlt4; have hO5 := HO3.out.keep ((hgrow4.block (g + 2) (by have := HSZ4.out; omega) (fun e => by have := HOWI.out _ e.symm; omega)).trans (HBA4.out.block (g + 2) hol3)); obtain ⟨s0, s1, s2⟩ := hO5.cs; have sf2 := hO5.fr 2)
            have hgB : (W3.alloc (.cells #[.int .i64 t2, .slice A2 n2 c2, .slice B2 m2 c3] 51)).grownBy W5 v2.ownBlock := ⟨hgrow4.os, hgrow4.tape, hgrow4.output, hgrow4.size, hgrow4.block⟩
            have hI5 := Inner.append (W := W3.alloc (.cells #[.int .i64 t2, .slice A2 n2 c2, .slice B2 m2 c3] 51)) (fun k T hT => by
                obtain ⟨z0, z1, z2, e0, e1, e2, e3⟩ := HCL.out k T hT
                exact ⟨z0, z1, z2, e0, e1, e2, e3.below HBA4.out⟩) hcn
              ((HT3.out.below HBA4.out).imp (fun q _ hq => ⟨by omega, fun e => by have := (HCS3.out.lt q e).2; have := HOWB.out q e; omega⟩)) hown4 hgB hat4
            have HI5 := Lib.hid (hI5.setLow (p := ⟨g + 2, 2, none⟩) (by simp) (.slice (some ⟨g4, 0, none⟩) ((fI s d (is.take j)).length + 1) cap4))
            have HO5 := Lib.hid (hO5.set2 (.slice (some ⟨g4, 0, none⟩) ((fI s d (is.take j)).length + 1) cap4))
            have HG5 := Lib.hid (grown_at (gown (grown_trans HG3.out (grown_below HBA4.out)) hgB (fun q hq => by have := HOWI.out q hq; omega)) 2 (.slice (some ⟨g4, 0, none⟩) ((fI s d (is.take j)).length + 1) cap4))
            have hOWA := own_bel HOW3.out HBA4.out
            have HOW5 := Lib.hid ((hOWA.kept hgB (own_apart hOWA HCSA.out)).kept (gset1 W5 ⟨g + 2, 2, none⟩ (.slice (some ⟨g4, 0, none⟩) ((fI s d (is.take j)).length + 1) cap4)) (own_below (hOWA.kept hgB (own_apart hOWA HCSA.out)) (by simp)))
            clear hown4 hgrow4 hat4 hlt4 hgB hI5 hO5 hOWA s0 s1 s2 sf2
            have HCE := Lib.hid (show cnt (fun T => deadT (lessT s d T)) (is.take (j + 1)) = cnt (fun T => deadT (lessT s d T)) (is.take j) by have := HC.out; omega)
            go_roundw
            case rel => exact ⟨j + 1, _, by omega, by go_num, HOW5, by rw [HF.out]; exact HI5, by rw [HCE.out]; exact HO5, HG5⟩
            case measure => simp [intOf]; omega
          · rw [hdd] at HC HF
            rw [if_pos rfl] at HC HF
            have HSUB := Lib.hid (show m0 - (cnt (fun T => deadT (lessT s d T)) (is.take (j + 1)) : Nat) = m0 - (cnt (fun T => deadT (lessT s d T)) (is.take j) : Nat) - 1 by have := HC.out; omega)
            have hcl := Nat.le_trans (cnt_le (fun T => deadT (lessT s d T)) (is.take j)) (by rw [List.length_take]; exact Nat.min_le_right _ _)
            have hq0 : -20 ≤ m0 - (cnt (fun T => deadT (lessT s d T)) (is.take j) : Nat) := by omega
            have hq1 : m0 - (cnt (fun T => deadT (lessT s d T)) (is.take j) : Nat) ≤ 20 := by omega
            generalize m0 - (cnt (fun T => deadT (lessT s d T)) (is.take j) : Nat) = q0 at *
            clear hdd hcl
            rw [Bool.not_true]
            have HO4 := Lib.hid (HO3.out.set0 (q0 - 1))
            have HG4 := Lib.hid (grown_at HG3.out 0 (.int .i64 (q0 - 1)))
            have HOW4 := Lib.hid (HOW3.out.kept (gset1 W3 ⟨g + 2, 0, none⟩ (.int .i64 (q0 - 1))) (own_below HOW3.out (by simp)))
            have HI4 := Lib.hid (HI3.out.setLow (p := ⟨g + 2, 0, none⟩) (by simp) (.int .i64 (q0 - 1)))
            go_wp2_with fail
            go_roundw
            case rel => exact ⟨j + 1, v2, by omega, by go_num, HOW4, by rw [HF.out, List.append_nil]; exact HI4, by rw [HSUB.out]; exact HO4, HG4⟩
            case measure => simp [intOf]; omega
        · obtain rfl : j = is.length := by omega
          obtain ⟨A2, c2, rfl⟩ := hInn.out.slice
          have HTI := Lib.hid (show fI s d (is.take is.length) = fI s d is by rw [List.take_length])
          have hR : OutAt wr (g + 1) 0 (.slice none 0 0) (.slice none 0 0) := K1.out.keep (hGr.out.block (g + 1) (by omega) (by simp))
          obtain ⟨r0, r1, r2⟩ := hR.cs
          have rf0 := hR.fr 0
          have rf1 := hR.fr 1
          have rf2 := hR.fr 2
          have HZB := Lib.hid (show Below w.heap.size w wr by
            have h1 := HB.out
            rw [← HG.out] at h1
            exact h1.grown hGr.out h1.size (fun q hq => by obtain rfl := Option.some.inj hq; have := HG.out; omega))
          have hfl := Nat.le_trans (fI_len s d (is.take is.length)) (by rw [List.length_take]; exact Nat.min_le_right _ _)
          have HLE := Lib.hid (show (!deadT (lessT s (d + 1) (.mk (t0 : Int) ns is))) = decide (0 < m0 - (cnt (fun T => deadT (lessT s d T)) (is.take is.length) : Nat)) ∧ WithR s (d + 1) (.mk (t0 : Int) ns is) (.mk (m0 - (cnt (fun T => deadT (lessT s d T)) (is.take is.length) : Nat)) L1 (fI s d (is.take is.length))) by
            rw [← HM0.out, ← HL1.out, List.take_length]
            have e1 : cnt deadT (is.map (lessT s d)) = cnt (fun T => deadT (lessT s d T)) is := by
              unfold cnt; rw [List.filter_map, List.length_map]; rfl
            have e2 : lessT s (d + 1) (.mk (t0 : Int) ns is) = .mk ((t0 - cnt (hasB (s : Int)) ns - cnt (fun T => deadT (lessT s d T)) is : Nat) : Int) (fN s ns) (fI s d is) := by
              show Tree.mk _ _ _ = _
              rw [e1]
              rfl
            unfold WithR
            rw [e2]
            have e3 : deadT (.mk ((t0 - cnt (hasB (s : Int)) ns - cnt (fun T => deadT (lessT s d T)) is : Nat) : Int) (fN s ns) (fI s d is)) = !decide (0 < (t0 : Int) - (cnt (hasB (s : Int)) ns : Nat) - (cnt (fun T => deadT (lessT s d T)) is : Nat)) := by
              unfold deadT
              rw [← decide_not]
              refine decide_eq_decide.2 ?_
              have key : ∀ (t a b : Nat), ((t - a - b : Nat) : Int) ≤ 0 ↔ ¬ (0 < (t : Int) - (a : Nat) - (b : Nat)) := by intros; omega
              exact key _ _ _
            rw [e3]
            refine ⟨by simp, fun h => ?_⟩
            have h1 : (0 : Int) < (t0 : Int) - (cnt (hasB (s : Int)) ns : Nat) - (cnt (fun T => deadT (lessT s d T)) is : Nat) := by simpa using h
            have h2 : ((t0 : Int) - (cnt (hasB (s : Int)) ns : Nat) - (cnt (fun T => deadT (lessT s d T)) is : Nat)) = ((t0 - cnt (hasB (s : Int)) ns - cnt (fun T => deadT (lessT s d T)) is : Nat) : Int) := by omega
            rw [h2])
          generalize m0 - (cnt (fun T => deadT (lessT s d T)) (is.take is.length) : Nat) = tz at *
          clear HTI
          generalize fI s d (is.take is.length) = L2 at *
          have HOW := hOW
          have HInn := hInn
          clear hOW hInn hR
          obtain ⟨s0, s1, s2⟩ := hO.out.cs
          go_wp2_with fail
          go_region
          go_wp2_with fail
          have K1' := ((HOW.out.kept (gset1 wr ⟨g + 1, 0, none⟩ (.int .i64 (tz : Int))) (own_below HOW.out (by simp))).kept (gset1 _ ⟨g + 1, 1, none⟩ (.slice A1 L1.length c1)) (own_below HOW.out (by simp))).kept (gset1 _ ⟨g + 1, 2, none⟩ (.slice A2 L2.length c2)) (own_below HOW.out (by simp))
          have K2' := ((HInn.out.setLow (p := ⟨g + 1, 0, none⟩) (by simp) (.int .i64 (tz : Int))).setLow (p := ⟨g + 1, 1, none⟩) (by simp) (.slice A1 L1.length c1)).setLow (p := ⟨g + 1, 2, none⟩) (by simp) (.slice A2 L2.length c2)
          have hgl := HG.out
          refine bodyPost_ret (v := .tuple #[.agg #[.int .i64 (tz : Int), .slice A1 L1.length c1, .slice A2 L2.length c2], .bool (decide (0 < tz))]) ?_ rfl ⟨_, _, _, _, by rw [HLE.out.1], ?_, HLE.out.2, ?_⟩
          · simp [results, Tryz.results91, go_sem, r0, r1, r2]
          · exact made (fun b hb => by omega) (by omega) (by omega) K1' K2'.drew
          · exact bdrew (bset (bset (bset HZB.out (p := ⟨g + 1, 0, none⟩) (by show w.heap.size ≤ g + 1; omega) _) (p := ⟨g + 1, 1, none⟩) (by show w.heap.size ≤ g + 1; omega) _) (p := ⟨g + 1, 2, none⟩) (by show w.heap.size ≤ g + 1; omega) _)

theorem with_run (s : Nat) (hs : s < 1024) : ∀ d, WithC s d
  | 0 => fun P n T x0 x1 x2 w h _ => h.elim
  | d + 1 => with_step s d hs (with_run s hs d)

end Go.Proofs.YtobdnepmjcbjeaaGreat

namespace Go.Proofs.YtobdnepmjcbjeaaGreat
set_option linter.unusedVariables false
set_option linter.unusedSimpArgs false
open Go.RowKit

set_option maxRecDepth 100000 in
set_option maxHeartbeats 2000000 in
theorem delT_run (P : Nat → Prop) (n : Int) (s k d : Nat) (T : Tree) (x0 x1 x2 : Value) (w : World) (hs : s < 1024) (h : TAt P (d + 1) w x0 x1 x2 T) (hWF : WF n (d + 1) T) :
    Calls Tryz.prog 67 #[.agg #[x0, x1, x2], .int .i64 (k : Int), .int .i64 (s : Int)] w fun e w' => ∃ y0 y1 y2, e = .returned (.agg #[y0, y1, y2]) ∧ TAt (fun b => w.heap.size ≤ b) (d + 1) w' y0 y1 y2 (delT s k (d + 1) T) ∧ Below w.heap.size w w' := by
  obtain ⟨t', A', n', ca, B', m', cb, rfl, rfl, rfl⟩ := h.form
  have hsv := Lib.hid (show setB (s : Int) = true from setB_iff.2 ⟨by omega, by omega⟩)
  have hb2 : Below w.heap.size w ((w.alloc (.cells #[.int .i64 t', .slice A' n' ca, .slice B' m' cb] 51)).alloc (.cells #[.int .i64 0, .slice none 0 0, .slice none 0 0] 51)) := balloc (balloc (bref w) _) _
  have k0 : ((w.alloc (.cells #[.int .i64 t', .slice A' n' ca, .slice B' m' cb] 51)).alloc (.cells #[.int .i64 0, .slice none 0 0, .slice none 0 0] 51)).heap[w.heap.size]? = some (.cells #[.int .i64 t', .slice A' n' ca, .slice B' m' cb] 51 (0, 0)) := alloc_on (alloc_at rfl)
  have k1 : OutAt ((w.alloc (.cells #[.int .i64 t', .slice A' n' ca, .slice B' m' cb] 51)).alloc (.cells #[.int .i64 0, .slice none 0 0, .slice none 0 0] 51)) (w.heap.size + 1) 0 (.slice none 0 0) (.slice none 0 0) := alloc_at (alloc_sz _ _)
  have HT := Lib.hid (h.below hb2)
  have HB := Lib.hid hb2
  have K0 := Lib.hid k0
  have K1 := Lib.hid k1
  have HW := Lib.hid hWF
  clear h hb2 k0 k1 hWF
  go_enter Tryz.func67, Tryz.ntmps67
  go_upto_region 1 with fail
  generalize ((w.alloc (.cells #[.int .i64 t', .slice A' n' ca, .slice B' m' cb] 51)).alloc (.cells #[.int .i64 0, .slice none 0 0, .slice none 0 0] 51)) = W1 at *
  generalize hg : w.heap.size = g at *
  have HG := Lib.hid hg
  clear hg
  have c0 : W1.cell? ⟨g, 0, none⟩ = some (.int .i64 t') := cell_of_row _ _ 0 _ _ (0, 0) K0.out
  have c1 : W1.cell? ⟨g, 1, none⟩ = some (.slice A' n' ca) := cell_of_row _ _ 1 _ _ (0, 0) K0.out
  have c2 : W1.cell? ⟨g, 2, none⟩ = some (.slice B' m' cb) := cell_of_row _ _ 2 _ _ (0, 0) K0.out
  have hol := K1.out.lt
  go_wp2_with fail
  refine (setValid_run _ _).mono ?_
  rintro e w2 ⟨rfl, rfl⟩
  rw [hsv.out]
  go_wp2_with fail
  refine (with_run s hs (d + 1) _ n T _ _ _ _ HT.out HW.out).mono ?_
  rintro e W2 ⟨y0, y1, y2, R2, rfl, hT2, hR2, hb2⟩
  obtain ⟨t2, A2, n2, c2', B2, m2, c3, rfl, rfl, rfl⟩ := hT2.form
  have HR2 := Lib.hid hR2
  have hbA := balloc hb2 (.cells #[.int .i64 t2, .slice A2 n2 c2', .slice B2 m2 c3] 51)
  have k3 : (W2.alloc (.cells #[.int .i64 t2, .slice A2 n2 c2', .slice B2 m2 c3] 51)).heap[W2.heap.size]? = some (.cells #[.int .i64 t2, .slice A2 n2 c2', .slice B2 m2 c3] 51 (0, 0)) := alloc_at rfl
  have HT3 := Lib.hid (hT2.below (balloc (bref W2) (.cells #[.int .i64 t2, .slice A2 n2 c2', .slice B2 m2 c3] 51)))
  have HK3 := Lib.hid k3
  have HO3 := Lib.hid (K1.out.keep (hbA.block _ hol))
  have HB3 := Lib.hid (show Below w.heap.size w (W2.alloc (.cells #[.int .i64 t2, .slice A2 n2 c2', .slice B2 m2 c3] 51)) by
    have h1 := HB.out
    rw [← HG.out] at h1
    exact bstep h1 hbA)
  have HS3 := Lib.hid hbA.size
  clear hT2 hb2 hbA k3 c0 c1 c2 hR2
  go_upto_region 4 with fail
  generalize W2.alloc (.cells #[.int .i64 t2, .slice A2 n2 c2', .slice B2 m2 c3] 51) = W3 at *
  generalize W2.heap.size = r3 at *
  have r0 : W3.cell? ⟨r3, 0, none⟩ = some (.int .i64 t2) := cell_of_row _ _ 0 _ _ (0, 0) HK3.out
  have r1 : W3.cell? ⟨r3, 1, none⟩ = some (.slice A2 n2 c2') := cell_of_row _ _ 1 _ _ (0, 0) HK3.out
  have r2 : W3.cell? ⟨r3, 2, none⟩ = some (.slice B2 m2 c3) := cell_of_row _ _ 2 _ _ (0, 0) HK3.out
  obtain ⟨o0, o1, o2⟩ := HO3.out.cs
  have of0 := HO3.out.fr 0
  have of1 := HO3.out.fr 1
  have of2 := HO3.out.fr 2
  have hol3 := HO3.out.lt
  have hgl := HG.out
  have HBG := Lib.hid (fun (W : World) (h : Below w.heap.size w W) => (by rw [← HG.out]; exact h : Below g w W))
  cases hdd : deadT (lessT s (d + 1) T)
  · obtain rfl := HR2.out hdd
    have HE := Lib.hid (show delT s k (d + 1) T = lessT s (d + 1) T by unfold delT; rw [hdd]; rfl)
    clear hdd
    try rw [Bool.not_false]
    try rw [Bool.not_true]
    go_wp2_with fail
    refine bodyPost_ret (v := .agg #[.int .i64 t2, .slice A2 n2 c2', .slice B2 m2 c3]) ?_ rfl ⟨_, _, _, rfl, ?_, ?_⟩
    · simp [results, Tryz.results67, go_sem, o0, o1, o2]
    · rw [HE.out]
      exact TAt.both (fun q hq hP => (Below.heap_setCell _ _ _ _ (by simp; omega)).trans ((Below.heap_setCell _ _ _ _ (by simp; omega)).trans (Below.heap_setCell _ _ _ _ (by simp; omega)))) (fun q _ hP => by omega) _ _ _ _ _ HT3.out
    · exact (bset (bset (bset HB3.out (p := ⟨g + 1, 0, none⟩) (by show w.heap.size ≤ g + 1; omega) _) (p := ⟨g + 1, 1, none⟩) (by show w.heap.size ≤ g + 1; omega) _) (p := ⟨g + 1, 2, none⟩) (by show w.heap.size ≤ g + 1; omega) _)
  · have HE := Lib.hid (show delT s k (d + 1) T = .mk 1 [(k : Int)] [] by unfold delT; rw [hdd]; rfl)
    clear hdd
    try rw [Bool.not_false]
    try rw [Bool.not_true]
    go_wp2_with fail
    refine bodyPost_ret (v := .agg #[.int .i64 1, .slice (some ⟨W3.heap.size, 0, none⟩) 1 1, .slice none 0 0]) ?_ rfl ⟨_, _, _, rfl, ?_, ?_⟩
    · simp [results, Tryz.results67, go_sem, o0, o1, o2, hol3]
    · rw [HE.out]
      refine ⟨rfl, by simp, by simp, ⟨some ⟨W3.heap.size, 0, none⟩, 1, rfl, fun j hj => ⟨W3.heap.size, 0, rfl, by omega, ?_⟩⟩, ⟨none, 0, rfl, fun k T hT => by simp at hT⟩⟩
      obtain rfl : j = 0 := by simpa using hj
      refine (cell_of_row _ _ 0 #[.int .i64 (k : Int)] 3 (0, 0) ?_)
      have := heap_alloc_new (((W3.setCell ⟨g + 1, 0, none⟩ (.int .i64 1)).setCell ⟨g + 1, 1, none⟩ (.slice (some ⟨W3.heap.size, 0, none⟩) 1 1)).setCell ⟨g + 1, 2, none⟩ (.slice none 0 0)) (.cells #[.int .i64 (k : Int)] 3)
      simpa using this
    · exact (balloc (bset (bset (bset HB3.out (p := ⟨g + 1, 0, none⟩) (by show w.heap.size ≤ g + 1; omega) _) (p := ⟨g + 1, 1, none⟩) (by show w.heap.size ≤ g + 1; omega) _) (p := ⟨g + 1, 2, none⟩) (by show w.heap.size ≤ g + 1; omega) _) _)

end Go.Proofs.YtobdnepmjcbjeaaGreat

namespace Go.Proofs.YtobdnepmjcbjeaaGreat
set_option linter.unusedVariables false
set_option linter.unusedSimpArgs false
open Go.RowKit

def mixL (s : Nat) (ms : List Mem) (k : Nat) : List Mem := (delM s ms).take k ++ ms.drop k

theorem mixL_len (s : Nat) (ms : List Mem) (k : Nat) : (mixL s ms k).length = ms.length := by
  unfold mixL
  rw [List.length_append, List.length_take, List.length_drop, delM_len]
  omega

theorem mixL_get {s k : Nat} {ms : List Mem} {m : Mem} (h : ms[k]? = some m) : (mixL s ms k)[k]? = some m := by
  have hl := (List.getElem?_eq_some_iff.1 h).1
  unfold mixL
  rw [List.getElem?_append_right (by rw [List.length_take, delM_len]; omega), List.length_take, delM_len, Nat.min_eq_left (by omega), Nat.sub_self, List.getElem?_drop]
  exact h

theorem mixL_set {s k : Nat} {ms : List Mem} {m : Mem} (h : ms[k]? = some m) : (mixL s ms k).set k (delOne s k m) = mixL s ms (k + 1) := by
  have hl := (List.getElem?_eq_some_iff.1 h).1
  have hm := (List.getElem?_eq_some_iff.1 h).2
  have e1 : ms.drop k = m :: ms.drop (k + 1) := by rw [← hm]; exact List.drop_eq_getElem_cons hl
  have e2 := delM_take (s := s) h
  have e3 : ((delM s ms).take k).length = k := by rw [List.length_take, delM_len]; omega
  unfold mixL
  rw [e1, e2, List.set_append_right _ _ (by omega), e3, Nat.sub_self, List.set_cons_zero, List.append_assoc]
  rfl

theorem mixL_same {s k : Nat} {ms : List Mem} {m : Mem} (h : ms[k]? = some m) (hd : delOne s k m = m) : mixL s ms (k + 1) = mixL s ms k := by
  rw [← mixL_set h, hd]
  have hg := mixL_get (s := s) h
  have hl := (List.getElem?_eq_some_iff.1 hg).1
  apply List.ext_getElem?
  intro i
  rcases (show i = k ∨ i ≠ k by omega) with rfl | hi
  · rw [List.getElem?_set_self hl, hg]
  · rw [List.getElem?_set_ne (by omega)]

/-- Another member in a row of members. -/
theorem GRow.put {Q : Nat → Prop} {B d gb n cap k : Nat} {W W' : World} {ms : List Mem} {m : Mem} {cs : List Value} {y0 y1 y2 : Value}
    (hk : k < ms.length) (hn : n = ms.length) (hown : W'.ownsRow B 55 4 (.slice (some ⟨gb, 0, none⟩) n cap) n cs)
    (hcs : ∀ j x, j ≠ k → ms[j]? = some x → ∃ x0 x1 x2, cs[j * 4]? = some (.bool x.1) ∧ cs[j * 4 + 1]? = some x0 ∧ cs[j * 4 + 2]? = some x1 ∧ cs[j * 4 + 3]? = some x2 ∧ TAt (fun b => Q b ∧ b ≠ gb) d W x0 x1 x2 x.2)
    (h0 : cs[k * 4]? = some (.bool m.1)) (h1 : cs[k * 4 + 1]? = some y0) (h2 : cs[k * 4 + 2]? = some y1) (h3 : cs[k * 4 + 3]? = some y2)
    (hT : TAt (fun b => Q b ∧ b ≠ gb) d W y0 y1 y2 m.2) (hfar : ∀ q, q ≠ gb → W'.heap[q]? = W.heap[q]?) : GRow Q B d W' (.slice (some ⟨gb, 0, none⟩) n cap) (ms.set k m) := by
  have up : ∀ {z0 z1 z2 : Value} {S : Tree}, TAt (fun b => Q b ∧ b ≠ gb) d W z0 z1 z2 S → TAt (fun b => Q b ∧ (Value.slice (some ⟨gb, 0, none⟩) n cap).ownBlock ≠ some b) d W' z0 z1 z2 S := fun h =>
    TAt.both (fun q _ hq => hfar q hq.2) (fun q _ hq => ⟨hq.1, fun e => hq.2 (by simp [Value.ownBlock] at e; omega)⟩) _ _ _ _ _ h
  refine ⟨cs, by rw [List.length_set, ← hn]; exact hown, fun j x hx => ?_⟩
  rcases Nat.lt_trichotomy j k with hj | hj | hj
  · rw [List.getElem?_set_ne (by omega)] at hx
    obtain ⟨x0, x1, x2, e0, e1, e2, e3, e4⟩ := hcs j x (by omega) hx
    exact ⟨x0, x1, x2, e0, e1, e2, e3, up e4⟩
  · subst hj
    rw [List.getElem?_set_self hk] at hx
    obtain rfl := Option.some.inj hx
    exact ⟨y0, y1, y2, h0, h1, h2, h3, up hT⟩
  · rw [List.getElem?_set_ne (by omega)] at hx
    obtain ⟨x0, x1, x2, e0, e1, e2, e3, e4⟩ := hcs j x (by omega) hx
    exact ⟨x0, x1, x2, e0, e1, e2, e3, up e4⟩

theorem GRow.open' {Q : Nat → Prop} {B d k : Nat} {W : World} {v : Value} {ms : List Mem} (h : GRow Q B d W v ms) (hk : k < ms.length) : ∃ gb cap cs, v = .slice (some ⟨gb, 0, none⟩) ms.length cap ∧ B ≤ gb ∧ W.ownsRow B 55 4 (.slice (some ⟨gb, 0, none⟩) ms.length cap) ms.length cs ∧
    ∀ j x, ms[j]? = some x → ∃ x0 x1 x2, cs[j * 4]? = some (.bool x.1) ∧ cs[j * 4 + 1]? = some x0 ∧ cs[j * 4 + 2]? = some x1 ∧ cs[j * 4 + 3]? = some x2 ∧ TAt (fun b => Q b ∧ b ≠ gb) d W x0 x1 x2 x.2 := by
  obtain ⟨cs, h1, h2⟩ := h
  have h1' := h1
  rcases h1.2 with ⟨hv, h0⟩ | ⟨g, cap, cur, hv, hb, _⟩
  · omega
  · subst hv
    refine ⟨g, cap, cs, rfl, hb, h1', fun j x hx => ?_⟩
    obtain ⟨x0, x1, x2, e0, e1, e2, e3, e4⟩ := h2 j x hx
    exact ⟨x0, x1, x2, e0, e1, e2, e3, e4.imp (fun q _ hq => ⟨hq.1, fun e => hq.2 (by rw [e]; rfl)⟩)⟩

/-- The world of Delete: the argument's box g, the result g + 1, the copy in box r. -/
structure DelW (w : World) (g r : Nat) (v0 v : Value) (ms L : List Mem) (W : World) : Prop where
  box : W.heap[g]? = some (.cells #[v0] 27 (0, 0))
  res : W.heap[g + 1]? = some (.cells #[.slice none 0 0] 27 (0, 0))
  out : W.heap[r]? = some (.cells #[v] 27 (0, 0))
  row : GRow (fun q => g + 2 ≤ q) (g + 2) 2 W v L
  old : MemsAt (fun q => q < g) 2 W v0 ms
  below : Below w.heap.size w W

theorem DelW.bel {w W W' : World} {g r : Nat} {v0 v : Value} {ms L : List Mem} (h : DelW w g r v0 v ms L W) (hb : Below W.heap.size W W') : DelW w g r v0 v ms L W' :=
  ⟨(hb.block _ (Array.getElem?_eq_some_iff.1 h.box).1).trans h.box, (hb.block _ (Array.getElem?_eq_some_iff.1 h.res).1).trans h.res, (hb.block _ (Array.getElem?_eq_some_iff.1 h.out).1).trans h.out, h.row.keep (fun q _ hq => hb.block q hq), h.old.below hb, bstep h.below hb⟩

/-- What changes the row's block alone. -/
theorem DelW.put {w W W' : World} {g r gb : Nat} {v0 v : Value} {ms L L' : List Mem} (h : DelW w g r v0 v ms L W) (hg : w.heap.size = g) (hgb : g + 2 ≤ gb) (hr : r ≠ gb) (hfar : ∀ q, q ≠ gb → W'.heap[q]? = W.heap[q]?) (hrow : GRow (fun q => g + 2 ≤ q) (g + 2) 2 W' v L') (hbel : Below w.heap.size w W') : DelW w g r v0 v ms L' W' :=
  ⟨(hfar g (by omega)).trans h.box, (hfar (g + 1) (by omega)).trans h.res, (hfar r hr).trans h.out, hrow, h.old.both (fun k _ hk => hfar k (by omega)) (fun k _ hk => hk), hbel⟩

/-- A member is stored whole. -/
theorem DelW.store4 {w W : World} {g r gb n cap k : Nat} {v0 : Value} {ms L : List Mem} {m : Mem} {y0 y1 y2 : Value} (h : DelW w g r v0 (.slice (some ⟨gb, 0, none⟩) n cap) ms L W) (hg : w.heap.size = g) (hr : r ≠ gb) (hk : k < L.length)
    (hT : TAt (fun q => g + 2 ≤ q ∧ q ≠ gb) 2 W y0 y1 y2 m.2) : DelW w g r v0 (.slice (some ⟨gb, 0, none⟩) n cap) ms (L.set k m) ((((W.setCell ⟨gb, k * 4, none⟩ (.bool m.1)).setCell ⟨gb, k * 4 + 1, none⟩ y0).setCell ⟨gb, k * 4 + 2, none⟩ y1).setCell ⟨gb, k * 4 + 3, none⟩ y2) := by
  obtain ⟨gb', cap', cs, hv, hgb, hown, hcs⟩ := h.row.open' hk
  injection hv with e1 e2 e3
  injection e1 with e1
  injection e1 with e1 _ _
  subst e1 e2 e3
  have hl := hown.1
  have far : ∀ q, q ≠ gb → ((((W.setCell ⟨gb, k * 4, none⟩ (.bool m.1)).setCell ⟨gb, k * 4 + 1, none⟩ y0).setCell ⟨gb, k * 4 + 2, none⟩ y1).setCell ⟨gb, k * 4 + 3, none⟩ y2).heap[q]? = W.heap[q]? := fun q hq =>
    (Below.heap_setCell _ _ _ _ (by simpa using hq)).trans ((Below.heap_setCell _ _ _ _ (by simpa using hq)).trans ((Below.heap_setCell _ _ _ _ (by simpa using hq)).trans (Below.heap_setCell _ _ _ _ (by simpa using hq))))
  refine h.put hg hgb hr far (GRow.put hk rfl ((((hown.stored (k * 4) (.bool m.1)).1.stored (k * 4 + 1) y0).1.stored (k * 4 + 2) y1).1.stored (k * 4 + 3) y2).1 (fun j x hj hx => ?_) ?_ ?_ ?_ ?_ hT far) ?_
  · obtain ⟨x0, x1, x2, a0, a1, a2, a3, a4⟩ := hcs j x hx
    refine ⟨x0, x1, x2, ?_, ?_, ?_, ?_, a4⟩
    · rw [List.getElem?_set_ne (by omega), List.getElem?_set_ne (by omega), List.getElem?_set_ne (by omega), List.getElem?_set_ne (by omega)]; exact a0
    · rw [List.getElem?_set_ne (by omega), List.getElem?_set_ne (by omega), List.getElem?_set_ne (by omega), List.getElem?_set_ne (by omega)]; exact a1
    · rw [List.getElem?_set_ne (by omega), List.getElem?_set_ne (by omega), List.getElem?_set_ne (by omega), List.getElem?_set_ne (by omega)]; exact a2
    · rw [List.getElem?_set_ne (by omega), List.getElem?_set_ne (by omega), List.getElem?_set_ne (by omega), List.getElem?_set_ne (by omega)]; exact a3
  · rw [List.getElem?_set_ne (by omega), List.getElem?_set_ne (by omega), List.getElem?_set_ne (by omega), List.getElem?_set_self (by omega)]
  · rw [List.getElem?_set_ne (by omega), List.getElem?_set_ne (by omega), List.getElem?_set_self (by first | omega | (simp; omega))]
  · rw [List.getElem?_set_ne (by omega), List.getElem?_set_self (by simp; omega)]
  · rw [List.getElem?_set_self (by simp; omega)]
  · exact bset (bset (bset (bset h.below (p := ⟨gb, k * 4, none⟩) (by show w.heap.size ≤ gb; omega) _) (p := ⟨gb, k * 4 + 1, none⟩) (by show w.heap.size ≤ gb; omega) _) (p := ⟨gb, k * 4 + 2, none⟩) (by show w.heap.size ≤ gb; omega) _) (p := ⟨gb, k * 4 + 3, none⟩) (by show w.heap.size ≤ gb; omega) _

/-- A declared member's trust is stored. -/
theorem DelW.store3 {w W : World} {g r gb n cap k : Nat} {v0 : Value} {ms L : List Mem} {m : Mem} {y0 y1 y2 : Value} (h : DelW w g r v0 (.slice (some ⟨gb, 0, none⟩) n cap) ms L W) (hg : w.heap.size = g) (hr : r ≠ gb) (hk : k < L.length) (hb : ∀ x, L[k]? = some x → x.1 = m.1)
    (hT : TAt (fun q => g + 2 ≤ q ∧ q ≠ gb) 2 W y0 y1 y2 m.2) : DelW w g r v0 (.slice (some ⟨gb, 0, none⟩) n cap) ms (L.set k m) (((W.setCell ⟨gb, k * 4 + 1, none⟩ y0).setCell ⟨gb, k * 4 + 2, none⟩ y1).setCell ⟨gb, k * 4 + 3, none⟩ y2) := by
  obtain ⟨gb', cap', cs, hv, hgb, hown, hcs⟩ := h.row.open' hk
  injection hv with e1 e2 e3
  injection e1 with e1
  injection e1 with e1 _ _
  subst e1 e2 e3
  have hl := hown.1
  have far : ∀ q, q ≠ gb → (((W.setCell ⟨gb, k * 4 + 1, none⟩ y0).setCell ⟨gb, k * 4 + 2, none⟩ y1).setCell ⟨gb, k * 4 + 3, none⟩ y2).heap[q]? = W.heap[q]? := fun q hq =>
    (Below.heap_setCell _ _ _ _ (by simpa using hq)).trans ((Below.heap_setCell _ _ _ _ (by simpa using hq)).trans (Below.heap_setCell _ _ _ _ (by simpa using hq)))
  refine h.put hg hgb hr far (GRow.put hk rfl (((hown.stored (k * 4 + 1) y0).1.stored (k * 4 + 2) y1).1.stored (k * 4 + 3) y2).1 (fun j x hj hx => ?_) ?_ ?_ ?_ ?_ hT far) ?_
  · obtain ⟨x0, x1, x2, a0, a1, a2, a3, a4⟩ := hcs j x hx
    refine ⟨x0, x1, x2, ?_, ?_, ?_, ?_, a4⟩
    · rw [List.getElem?_set_ne (by omega), List.getElem?_set_ne (by omega), List.getElem?_set_ne (by omega)]; exact a0
    · rw [List.getElem?_set_ne (by omega), List.getElem?_set_ne (by omega), List.getElem?_set_ne (by omega)]; exact a1
    · rw [List.getElem?_set_ne (by omega), List.getElem?_set_ne (by omega), List.getElem?_set_ne (by omega)]; exact a2
    · rw [List.getElem?_set_ne (by omega), List.getElem?_set_ne (by omega), List.getElem?_set_ne (by omega)]; exact a3
  · rw [List.getElem?_set_ne (by omega), List.getElem?_set_ne (by omega), List.getElem?_set_ne (by omega)]
    obtain ⟨x0, x1, x2, a0, _⟩ := hcs k _ (List.getElem?_eq_getElem hk)
    rw [a0, hb _ (List.getElem?_eq_getElem hk)]
  · rw [List.getElem?_set_ne (by omega), List.getElem?_set_ne (by omega), List.getElem?_set_self (by first | omega | (simp; omega))]
  · rw [List.getElem?_set_ne (by omega), List.getElem?_set_self (by simp; omega)]
  · rw [List.getElem?_set_self (by simp; omega)]
  · exact bset (bset (bset h.below (p := ⟨gb, k * 4 + 1, none⟩) (by show w.heap.size ≤ gb; omega) _) (p := ⟨gb, k * 4 + 2, none⟩) (by show w.heap.size ≤ gb; omega) _) (p := ⟨gb, k * 4 + 3, none⟩) (by show w.heap.size ≤ gb; omega) _

/-- The cells of the row at a member. -/
theorem DelW.cells {w W : World} {g r gb n cap k : Nat} {v0 : Value} {ms L : List Mem} (h : DelW w g r v0 (.slice (some ⟨gb, 0, none⟩) n cap) ms L W) (hk : k < L.length) :
    (∃ u, W.cell? ⟨gb, k * 4, none⟩ = some u) ∧ (∃ u, W.cell? ⟨gb, k * 4 + 1, none⟩ = some u) ∧ (∃ u, W.cell? ⟨gb, k * 4 + 2, none⟩ = some u) ∧ (∃ u, W.cell? ⟨gb, k * 4 + 3, none⟩ = some u) ∧ (∀ j, W.frozen? ⟨gb, j, none⟩ = false) ∧ gb < W.heap.size := by
  obtain ⟨gb', cap', cs, hv, hgb, hown, hcs⟩ := h.row.open' hk
  injection hv with e1 e2 e3
  injection e1 with e1
  injection e1 with e1 _ _
  subst e1 e2 e3
  have hl := hown.1
  refine ⟨⟨_, (hown.cellAt (k * 4) (by omega)).trans (List.getElem?_eq_getElem (by omega))⟩, ⟨_, (hown.cellAt (k * 4 + 1) (by omega)).trans (List.getElem?_eq_getElem (by omega))⟩, ⟨_, (hown.cellAt (k * 4 + 2) (by omega)).trans (List.getElem?_eq_getElem (by omega))⟩, ⟨_, (hown.cellAt (k * 4 + 3) (by omega)).trans (List.getElem?_eq_getElem (by omega))⟩, hown.frozenAt, (hown.lt gb rfl).2⟩

set_option maxRecDepth 100000 in
set_option maxHeartbeats 8000000 in
theorem pdelete_run (P : Nat → Prop) (ms : List Mem) (v : Value) (s : Nat) (w : World) (hl : ms.length ≤ 10) (hs : s < 1024) (h : MemsAt P 2 w v ms) (hok : MemsOk ms.length ms) :
    Calls Tryz.prog 40 #[.agg #[v], .int .i64 (s : Int)] w fun e w' => ∃ v', e = .returned (.agg #[v']) ∧ MemsAt (fun b => w.heap.size ≤ b) 2 w' v' (delM s ms) ∧ Below w.heap.size w w' := by
  obtain ⟨A, c, rfl⟩ := h.slice
  have hsv := Lib.hid (show setB (s : Int) = true from setB_iff.2 ⟨by omega, by omega⟩)
  have hb2 : Below w.heap.size w ((w.alloc (.cells #[.slice A ms.length c] 27)).alloc (.cells #[.slice none 0 0] 27)) := balloc (balloc (bref w) _) _
  have k0 : ((w.alloc (.cells #[.slice A ms.length c] 27)).alloc (.cells #[.slice none 0 0] 27)).heap[w.heap.size]? = some (.cells #[.slice A ms.length c] 27 (0, 0)) := alloc_on (alloc_at rfl)
  have k1 : ((w.alloc (.cells #[.slice A ms.length c] 27)).alloc (.cells #[.slice none 0 0] 27)).heap[w.heap.size + 1]? = some (.cells #[.slice none 0 0] 27 (0, 0)) := alloc_at (alloc_sz _ _)
  have hsz : ((w.alloc (.cells #[.slice A ms.length c] 27)).alloc (.cells #[.slice none 0 0] 27)).heap.size = w.heap.size + 2 := by rw [alloc_sz, alloc_sz]
  have H := Lib.hid ((h.both (Q := fun b => b < w.heap.size) (fun _ _ _ => rfl) (fun k hk _ => hk)).below hb2)
  have HB := Lib.hid hb2
  have K0 := Lib.hid k0
  have K1 := Lib.hid k1
  have HOK := Lib.hid hok
  clear h hb2 k0 k1 hok
  go_enter Tryz.func40, Tryz.ntmps40
  go_upto_region 1 with fail
  generalize ((w.alloc (.cells #[.slice A ms.length c] 27)).alloc (.cells #[.slice none 0 0] 27)) = W1 at *
  generalize hg : w.heap.size = g at *
  have HG := Lib.hid hg
  clear hg
  have c0 : W1.cell? ⟨g, 0, none⟩ = some (.slice A ms.length c) := cell_of_row _ _ 0 _ _ (0, 0) K0.out
  go_wp2_with fail
  refine (pconfig_run 2 _ _ ms _ hl H.out).mono ?_
  rintro e W2 ⟨v', rfl, hR, hb⟩
  have hms := hR.mems (P := fun _ => True) (fun _ _ => trivial)
  obtain ⟨A2, c2, rfl⟩ := hms.slice
  have hbA := balloc hb (.cells #[.slice A2 ms.length c2] 27)
  have HD := Lib.hid (show DelW w g W2.heap.size (.slice A ms.length c) (.slice A2 ms.length c2) ms (mixL s ms 0) (W2.alloc (.cells #[.slice A2 ms.length c2] 27)) from by
    refine ⟨(hbA.block g (by omega)).trans K0.out, (hbA.block (g + 1) (by omega)).trans K1.out, alloc_at rfl, ?_, H.out.below hbA, ?_⟩
    · have h1 := hR.keep (W' := W2.alloc (.cells #[.slice A2 ms.length c2] 27)) (fun q _ hq => Below.heap_alloc _ _ _ hq)
      obtain ⟨cs, h3, h4⟩ := h1
      rw [show mixL s ms 0 = ms from rfl]
      exact ⟨cs, own_down h3 (by omega), fun k m hm => by
        obtain ⟨x0, x1, x2, e0, e1, e2, e3, e4⟩ := h4 k m hm
        exact ⟨x0, x1, x2, e0, e1, e2, e3, e4.imp (fun q _ hP => ⟨by have := hP.1; omega, hP.2⟩)⟩⟩
    · have h1 := HB.out
      rw [← HG.out] at h1
      exact h1.trans (hbA.mono (by have := HG.out; omega)))
  have hrl : W2.heap.size < (W2.alloc (.cells #[.slice A2 ms.length c2] 27)).heap.size := by rw [alloc_sz]; omega
  have hbs := hb.size
  have HNE := Lib.hid (show ∀ gb, (Value.slice A2 ms.length c2).ownBlock = some gb → gb < W2.heap.size from fun gb hgb => (hR.own gb hgb).2)
  clear hms hR hb hbA c0
  go_upto_region 2 with fail
  generalize W2.alloc (.cells #[.slice A2 ms.length c2] 27) = W3 at *
  generalize W2.heap.size = r at *
  go_wp2_with fail
  refine (setValid_run _ _).mono ?_
  rintro e w2 ⟨rfl, rfl⟩
  rw [hsv.out]
  have c0 : W3.cell? ⟨g, 0, none⟩ = some (.slice A ms.length c) := cell_of_row _ _ 0 _ _ (0, 0) HD.out.box
  go_wp2_with fail
  clear c0
  go_loopw [17] (fun t W => ∃ k : Nat, k ≤ ms.length ∧ t = .int .i64 k ∧ Hid (DelW w g r (.slice A ms.length c) (.slice A2 ms.length c2) ms (mixL s ms k) W)) (fun t _ => ms.length - (intOf t).toNat)
  case atStart => exact ⟨0, Nat.zero_le _, rfl, HD⟩
  case round =>
    clear HD hrl
    obtain ⟨k, hk, rfl, hD⟩ := hrel
    by_cases hlt : k < ms.length
    · obtain ⟨m, hm⟩ : ∃ m, ms[k]? = some m := ⟨_, List.getElem?_eq_getElem hlt⟩
      obtain ⟨A', c', hv, hc⟩ := hD.out.old
      injection hv with hv1 hv2 hv3
      subst hv1
      obtain ⟨b, off, x0, x1, x2, rfl, hPb, e0, e1, e2, e3, hTk⟩ := hc k m hm
      obtain ⟨t', A1, n1, c1, B1, m1, c1', rfl, rfl, rfl⟩ := hTk.form
      obtain ⟨bm, T⟩ := m
      have hM := HOK.out _ (List.mem_of_getElem? hm)
      have HM1 := Lib.hid hM.1
      have HM2 := Lib.hid hM.2
      have HX := Lib.hid hm
      have hkk : k < 10 := by omega
      clear hc hM hm hv2 hv3
      have hbl := cell_lt e0
      have hbx : (wr.alloc (.cells #[.bool bm, .int .i64 t', .slice A1 n1 c1, .slice B1 m1 c1'] 55)).heap[wr.heap.size]? = some (.cells #[.bool bm, .int .i64 t', .slice A1 n1 c1, .slice B1 m1 c1'] 55 (0, 0)) := alloc_at rfl
      have hbA := balloc (bref wr) (.cells #[.bool bm, .int .i64 t', .slice A1 n1 c1, .slice B1 m1 c1'] 55)
      have hD4 := Lib.hid (hD.out.bel hbA)
      have HT4 := Lib.hid ((hTk.below hbA))
      have hrw : r < wr.heap.size := (Array.getElem?_eq_some_iff.1 hD.out.out).1
      have hgw : g + 1 < wr.heap.size := (Array.getElem?_eq_some_iff.1 hD.out.res).1
      clear hbA hTk hD
      go_upto_region 7 with fail
      generalize wr.alloc (.cells #[.bool bm, .int .i64 t', .slice A1 n1 c1, .slice B1 m1 c1'] 55) = W4 at *
      generalize wr.heap.size = r7 at *
      clear e0 e1 e2 e3 hbl
      obtain ⟨gb, cap, cs0, hv, hgb, hown, hcs⟩ := hD4.out.row.open' (by rw [mixL_len]; exact hlt : k < (mixL s ms k).length)
      injection hv with hv1 hv2 hv3
      subst hv1
      have hgr : gb < r := HNE.out gb rfl
      clear hown hcs hv2 hv3
      have hkl : k < (mixL s ms k).length := by rw [mixL_len]; exact hlt
      have q0 : W4.cell? ⟨r, 0, none⟩ = some (.slice (some ⟨gb, 0, none⟩) ms.length c2) := cell_of_row _ _ 0 _ _ (0, 0) hD4.out.out
      have hbit := hasB_bit hs hkk
      cases hb : s.testBit k
      · rw [hb] at hbit
        have f0 : W4.cell? ⟨r7, 0, none⟩ = some (.bool bm) := cell_of_row _ _ 0 _ _ (0, 0) hbx
        cases bm
        · have hsame := mixL_same (s := s) HX.out (by unfold delOne; rw [hbit]; rfl)
          go_wp2_with fail
          refine (has_run _ _ _).mono ?_
          rintro e w2 ⟨rfl, rfl⟩
          rw [hbit]
          go_wp2_with fail
          go_roundw
          case rel => exact ⟨k + 1, by omega, by go_num, by rw [hsame]; exact hD4⟩
          case measure => simp [intOf]; omega
        · have f1 : W4.cell? ⟨r7, 1, none⟩ = some (.int .i64 t') := cell_of_row _ _ 1 _ _ (0, 0) hbx
          have f2 : W4.cell? ⟨r7, 2, none⟩ = some (.slice A1 n1 c1) := cell_of_row _ _ 2 _ _ (0, 0) hbx
          have f3 : W4.cell? ⟨r7, 3, none⟩ = some (.slice B1 m1 c1') := cell_of_row _ _ 3 _ _ (0, 0) hbx
          have HWT := Lib.hid (HM1.out rfl)
          go_wp2_with fail
          refine (has_run _ _ _).mono ?_
          rintro e w2 ⟨rfl, rfl⟩
          rw [hbit]
          go_upto_region 10 with fail
          have hDd := Lib.hid (hD4.out.bel (W' := W4.drew) ⟨rfl, rfl, rfl, Nat.le_refl _, fun _ _ => rfl⟩)
          have HTd := Lib.hid (HT4.out.below (w' := W4.drew) ⟨rfl, rfl, rfl, Nat.le_refl _, fun _ _ => rfl⟩)
          go_region_with ((go_at_call 67; refine (delT_run _ ms.length s k 1 T _ _ _ _ hs (by exact HTd.out) HWT.out).mono ?_; rintro e W5 ⟨y0, y1, y2, rfl, hT5, hb5⟩; obtain ⟨t2, E1, n2, d1, E2, n3, d2, rfl, rfl, rfl⟩ := hT5.form; have hD5 := Lib.hid (hDd.out.bel (W' := W5) hb5); have HT5 := Lib.hid hT5; have q5 := cell_of_row W5 r 0 _ _ (0, 0) hD5.out.out; obtain ⟨⟨u0, p0⟩, ⟨u1, p1⟩, ⟨u2, p2⟩, ⟨u3, p3⟩, hfz, hgl⟩ := hD5.out.cells hkl; have z1 := hfz (k * 4 + 1); have z2 := hfz (k * 4 + 2); have z3 := hfz (k * 4 + 3)))
          all_goals
            have hset := hD5.out.store3 (k := k) (m := (true, delT s k 2 T)) HG.out (by omega) hkl (fun x hx => by rw [mixL_get HX.out] at hx; rw [← Option.some.inj hx]) (HT5.out.imp (fun q _ hq => by
              have h1 : W4.heap.size ≤ q := hq
              have h2 : r < W4.heap.size := (Array.getElem?_eq_some_iff.1 hD4.out.out).1
              have h3 : g + 1 < W4.heap.size := (Array.getElem?_eq_some_iff.1 hD4.out.res).1
              omega))
            rw [show (mixL s ms k).set k (true, delT s k 2 T) = mixL s ms (k + 1) by rw [← mixL_set HX.out]; unfold delOne; rw [hbit]; rfl] at hset
            have HSET := Lib.hid hset
            clear hset hfz
            go_wp2_with fail
            go_roundw
            case rel => exact ⟨k + 1, by omega, by go_num, by first | exact HSET | exact Lib.hid (HSET.out.bel ⟨rfl, rfl, rfl, Nat.le_refl _, fun _ _ => rfl⟩)⟩
            case measure => simp [intOf]; omega
      · rw [hb] at hbit
        obtain ⟨⟨u0, p0⟩, ⟨u1, p1⟩, ⟨u2, p2⟩, ⟨u3, p3⟩, hfz, hgl⟩ := hD4.out.cells hkl
        have z0 := hfz (k * 4)
        have z1 := hfz (k * 4 + 1)
        have z2 := hfz (k * 4 + 2)
        have z3 := hfz (k * 4 + 3)
        have hset := hD4.out.store4 (k := k) (m := (false, .mk 0 [] [])) (y0 := .int .i64 0) (y1 := .slice none 0 0) (y2 := .slice none 0 0) HG.out (by omega) hkl (TAt.empty _ 1 _ none none 0 0)
        rw [show (mixL s ms k).set k (false, .mk 0 [] []) = mixL s ms (k + 1) by rw [← mixL_set HX.out]; unfold delOne; rw [hbit]; rfl] at hset
        have HSET := Lib.hid hset
        clear hset hfz
        go_wp2_with fail
        refine (has_run _ _ _).mono ?_
        rintro e w2 ⟨rfl, rfl⟩
        rw [hbit]
        go_wp2_with fail
        go_roundw
        case rel => exact ⟨k + 1, by omega, by go_num, HSET⟩
        case measure => simp [intOf]; omega
    · obtain rfl : k = ms.length := by omega
      have hfull : mixL s ms ms.length = delM s ms := by
        unfold mixL
        rw [List.drop_length, List.append_nil, ← delM_len s ms, List.take_length]
      rw [hfull] at hD
      have z0 : wr.cell? ⟨g + 1, 0, none⟩ = some (.slice none 0 0) := cell_of_row _ _ 0 _ _ (0, 0) hD.out.res
      have zf : wr.frozen? ⟨g + 1, 0, none⟩ = false := by simp [World.frozen?, hD.out.res]
      have q0 : wr.cell? ⟨r, 0, none⟩ = some (.slice A2 ms.length c2) := cell_of_row _ _ 0 _ _ (0, 0) hD.out.out
      have hzl := cell_lt z0
      go_wp2_with fail
      refine bodyPost_ret (v := .agg #[.slice A2 ms.length c2]) ?_ rfl ⟨_, rfl, ?_, ?_⟩
      · simp [results, Tryz.results40, go_sem, z0]
      · have hk := hD.out.row.keep (W' := wr.setCell ⟨g + 1, 0, none⟩ (.slice A2 ms.length c2)) (fun q hq _ => Below.heap_setCell _ _ _ _ (by simp; omega))
        exact hk.mems (fun q hq => by have := HG.out; omega)
      · exact bset hD.out.below (p := ⟨g + 1, 0, none⟩) (by show w.heap.size ≤ g + 1; have := HG.out; omega) _

end Go.Proofs.YtobdnepmjcbjeaaGreat

namespace Go.Proofs.YtobdnepmjcbjeaaGreat
set_option linter.unusedVariables false
set_option linter.unusedSimpArgs false
open Go.RowKit

set_option maxRecDepth 100000 in
set_option maxHeartbeats 400000 in
theorem dmembers_run (A : Option Addr) (n c : Nat) (hn : n ≤ 10) (w : World) : Calls Tryz.prog 34 #[.agg #[.slice A n c]] w fun e w' => e = .returned (.int .i64 ((2 ^ n - 1 : Nat) : Int)) ∧ Below w.heap.size w w' := by
  have hp := pow11 n (by omega)
  have hp1 : 1 ≤ 2 ^ n := Nat.one_le_pow _ _ (by omega)
  have hp2 : 2 ^ n ≤ 2 ^ 10 := Nat.pow_le_pow_right (by omega) hn
  obtain ⟨N, hN⟩ : ∃ N, 2 ^ n = N := ⟨_, rfl⟩
  rw [hN] at hp hp1 hp2 ⊢
  clear hN
  have hw1 : wrap64 ((N : Int) - 1) = (N : Int) - 1 := by unfold wrap64; omega
  have hn64 : (n : Int) < 64 := by omega
  have HE := Lib.hid (show ((N - 1 : Nat) : Int) = (N : Int) - 1 by omega)
  go_enter Tryz.func34, Tryz.ntmps34
  go_wp2_with fail
  go_ret
  exact ⟨by rw [HE.out]; rfl, balloc (bref _) _⟩

theorem minS_zero {s n : Nat} (hs : s < 2 ^ n) : minS s (2 ^ n - 1) = 0 := by
  apply Nat.eq_of_testBit_eq
  intro k
  rw [minS_bit, Nat.testBit_two_pow_sub_one, Nat.zero_testBit]
  rcases Nat.lt_or_ge k n with h | h
  · simp [h]
  · rw [Nat.testBit_lt_two_pow (Nat.lt_of_lt_of_le hs (Nat.pow_le_pow_right (by decide) h))]; rfl

set_option maxRecDepth 100000 in
set_option maxHeartbeats 2000000 in
theorem validSet_run (P : Nat → Prop) (ms : List Mem) (v : Value) (s : Nat) (w : World) (hl : ms.length ≤ 10) (hs : s < 2 ^ ms.length) (h : MemsAt P 2 w v ms) (hok : MemsOk ms.length ms) :
    Calls Tryz.prog 32 #[.agg #[v], .int .i64 (s : Int)] w fun e w' => e = .returned (.int .i64 0) ∧ Below w.heap.size w w' := by
  obtain ⟨A, c, rfl⟩ := h.slice
  have hb1 : Below w.heap.size w (w.alloc (.cells #[.slice A ms.length c] 27)) := balloc (bref w) _
  have k0 : (w.alloc (.cells #[.slice A ms.length c] 27)).heap[w.heap.size]? = some (.cells #[.slice A ms.length c] 27 (0, 0)) := alloc_at rfl
  have hp2 : 2 ^ ms.length ≤ 2 ^ 10 := Nat.pow_le_pow_right (by omega) hl
  have hs10 : s < 1024 := by omega
  have hm10 : 2 ^ ms.length - 1 < 1024 := by omega
  have han := andNot_nat s (2 ^ ms.length - 1) hs10 hm10
  rw [show s ^^^ (s &&& (2 ^ ms.length - 1)) = 0 from minS_zero hs] at han
  have HMR := Lib.hid (fun W => dmembers_run A ms.length c hl W)
  obtain ⟨M, hM⟩ : ∃ M, 2 ^ ms.length - 1 = M := ⟨_, rfl⟩
  rw [hM] at han HMR hm10
  have H := Lib.hid (h.below hb1)
  have HB := Lib.hid hb1
  have K0 := Lib.hid k0
  clear h hb1 k0 hM hp2 hs
  go_enter Tryz.func32, Tryz.ntmps32
  go_upto_region 1 with fail
  generalize w.alloc (.cells #[.slice A ms.length c] 27) = W1 at *
  generalize hg : w.heap.size = g at *
  have HG := Lib.hid hg
  clear hg
  have c0 : W1.cell? ⟨g, 0, none⟩ = some (.slice A ms.length c) := cell_of_row _ _ 0 _ _ (0, 0) K0.out
  have HBw := Lib.hid (show Below w.heap.size w W1 by rw [HG.out]; exact HB.out)
  have hs0 : ¬ (s : Int) < 0 := by omega
  go_wp2_with fail
  refine (cvalid_run P ms _ _ hl H.out hok).mono ?_
  rintro e W2 ⟨rfl, hb2⟩
  have c2 := (hb2.cell (cell_lt c0)).trans c0
  have HB2 := Lib.hid (bstep HBw.out hb2)
  clear hb2 c0
  go_wp2_with fail
  refine (HMR.out _).mono ?_
  rintro e W3 ⟨rfl, hb3⟩
  have HB3 := Lib.hid (bstep HB2.out hb3)
  clear hb3 c2
  go_wp2_with fail
  go_ret
  exact ⟨rfl, HB3.out⟩

/-- Does s split? -/
def Spl (ms : List Mem) (s : Nat) : Prop := ∃ t, t < 2 ^ ms.length ∧ Apart 2 (delM s ms) t

def SplOk (ms : List Mem) (s : Nat) (e : Ending) : Prop := ∃ b : Bool, e = .returned (.tuple #[.bool b, .int .i64 0]) ∧ (b = true ↔ Spl ms s)

set_option maxRecDepth 100000 in
set_option maxHeartbeats 2000000 in
theorem splits_run (P : Nat → Prop) (ms : List Mem) (v : Value) (s : Nat) (w : World) (hl : ms.length ≤ 10) (hs : s < 2 ^ ms.length) (h : MemsAt P 2 w v ms) (hok : MemsOk ms.length ms) :
    Calls Tryz.prog 16 #[.agg #[v], .int .i64 (s : Int)] w fun e w' => SplOk ms s e ∧ Below w.heap.size w w' := by
  obtain ⟨A, c, rfl⟩ := h.slice
  have hb1 : Below w.heap.size w (w.alloc (.cells #[.slice A ms.length c] 27)) := balloc (bref w) _
  have k0 : (w.alloc (.cells #[.slice A ms.length c] 27)).heap[w.heap.size]? = some (.cells #[.slice A ms.length c] 27 (0, 0)) := alloc_at rfl
  have hp2 : 2 ^ ms.length ≤ 2 ^ 10 := Nat.pow_le_pow_right (by omega) hl
  have hs10 : s < 1024 := by omega
  have H := Lib.hid (h.below hb1)
  have HB := Lib.hid hb1
  have K0 := Lib.hid k0
  have HOK := Lib.hid hok
  have HOKD := Lib.hid (delM_ok (s := s) hok)
  have HDL := Lib.hid (delM_len s ms)
  clear h hb1 k0 hok
  go_enter Tryz.func16, Tryz.ntmps16
  go_upto_region 1 with fail
  generalize w.alloc (.cells #[.slice A ms.length c] 27) = W1 at *
  generalize hg : w.heap.size = g at *
  have HG := Lib.hid hg
  clear hg
  have c0 : W1.cell? ⟨g, 0, none⟩ = some (.slice A ms.length c) := cell_of_row _ _ 0 _ _ (0, 0) K0.out
  have HBw := Lib.hid (show Below w.heap.size w W1 by rw [HG.out]; exact HB.out)
  go_wp2_with fail
  refine (validSet_run P ms _ s _ hl hs H.out HOK.out).mono ?_
  rintro e W2 ⟨rfl, hb2⟩
  have c2 := (hb2.cell (cell_lt c0)).trans c0
  have HB2 := Lib.hid (bstep HBw.out hb2)
  have H2 := Lib.hid (H.out.below hb2)
  clear hb2 c0
  go_wp2_with fail
  refine (pdelete_run _ ms _ s _ hl hs10 H2.out HOK.out).mono ?_
  rintro e W3 ⟨v3, rfl, hX, hb3⟩
  have HX := Lib.hid hX
  have HB3 := Lib.hid (bstep HB2.out hb3)
  clear hb3 c2 hX
  go_wp2_with fail
  refine (holds12_run _ (delM s ms) _ _ (by rw [HDL.out]; exact hl) HX.out HOKD.out).mono ?_
  rintro e W4 ⟨hh, hb4⟩
  have HB4 := Lib.hid (bstep HB3.out hb4)
  clear hb4
  rcases hh with ⟨rfl, hno⟩ | ⟨rfl, hyes⟩
  · have HN := Lib.hid (show SplOk ms s (.returned (.tuple #[.bool false, .int .i64 0])) from ⟨false, rfl, by
      rw [HDL.out] at hno
      simp only [Bool.false_eq_true, false_iff]
      rintro ⟨t, h1, h2⟩
      exact hno t h1 h2⟩)
    clear hno
    go_wp2_with fail
    go_ret2
    exact ⟨HN.out, HB4.out⟩
  · have HN := Lib.hid (show SplOk ms s (.returned (.tuple #[.bool true, .int .i64 0])) from ⟨true, rfl, by
      rw [HDL.out] at hyes
      simpa [Spl] using hyes⟩)
    clear hyes
    go_wp2_with fail
    go_ret2
    exact ⟨HN.out, HB4.out⟩


set_option maxRecDepth 100000 in
set_option maxHeartbeats 2000000 in
theorem dpair_run (P : Nat → Prop) (ms : List Mem) (v : Value) (s : Nat) (w : World) (hl : ms.length ≤ 10) (hs : s < 2 ^ ms.length) (h : MemsAt P 2 w v ms) (hok : MemsOk ms.length ms) :
    Calls Tryz.prog 17 #[.agg #[v], .int .i64 (s : Int)] w fun e w' => DisjOk 2 (delM s ms) e ∧ Below w.heap.size w w' := by
  obtain ⟨A, c, rfl⟩ := h.slice
  have hb1 : Below w.heap.size w (w.alloc (.cells #[.slice A ms.length c] 27)) := balloc (bref w) _
  have k0 : (w.alloc (.cells #[.slice A ms.length c] 27)).heap[w.heap.size]? = some (.cells #[.slice A ms.length c] 27 (0, 0)) := alloc_at rfl
  have hp2 : 2 ^ ms.length ≤ 2 ^ 10 := Nat.pow_le_pow_right (by omega) hl
  have hs10 : s < 1024 := by omega
  have H := Lib.hid (h.below hb1)
  have HB := Lib.hid hb1
  have K0 := Lib.hid k0
  have HOK := Lib.hid hok
  have HOKD := Lib.hid (delM_ok (s := s) hok)
  have HDL := Lib.hid (delM_len s ms)
  clear h hb1 k0 hok
  go_enter Tryz.func17, Tryz.ntmps17
  go_upto_region 1 with fail
  generalize w.alloc (.cells #[.slice A ms.length c] 27) = W1 at *
  generalize hg : w.heap.size = g at *
  have HG := Lib.hid hg
  clear hg
  have c0 : W1.cell? ⟨g, 0, none⟩ = some (.slice A ms.length c) := cell_of_row _ _ 0 _ _ (0, 0) K0.out
  have HBw := Lib.hid (show Below w.heap.size w W1 by rw [HG.out]; exact HB.out)
  go_wp2_with fail
  refine (validSet_run P ms _ s _ hl hs H.out HOK.out).mono ?_
  rintro e W2 ⟨rfl, hb2⟩
  have c2 := (hb2.cell (cell_lt c0)).trans c0
  have HB2 := Lib.hid (bstep HBw.out hb2)
  have H2 := Lib.hid (H.out.below hb2)
  clear hb2 c0
  go_wp2_with fail
  refine (pdelete_run _ ms _ s _ hl hs10 H2.out HOK.out).mono ?_
  rintro e W3 ⟨v3, rfl, hX, hb3⟩
  have HX := Lib.hid hX
  have HB3 := Lib.hid (bstep HB2.out hb3)
  clear hb3 c2 hX
  go_wp2_with fail
  refine (disjoint12_run _ (delM s ms) _ _ (by rw [HDL.out]; exact hl) HX.out HOKD.out).mono ?_
  rintro e W4 ⟨hh, hb4⟩
  have HB4 := Lib.hid (bstep HB3.out hb4)
  clear hb4
  rcases hh with ⟨i, a, b, rfl, h1, h2, h3, h4, h5⟩ | ⟨rfl, hno⟩
  · have HN := Lib.hid (show DisjOk 2 (delM s ms) (.returned (.tuple #[.int .i64 (a : Int), .int .i64 (b : Int), .int .i64 0])) from Or.inl ⟨i, a, b, rfl, h1, h2, h3, h4, h5⟩)
    clear h1 h2 h3 h4 h5
    go_wp2_with fail
    go_ret3
    exact ⟨HN.out, HB4.out⟩
  · have HN := Lib.hid (show DisjOk 2 (delM s ms) (.returned (.tuple #[.int .i64 0, .int .i64 0, .int .i64 11])) from Or.inr ⟨rfl, hno⟩)
    clear hno
    go_wp2_with fail
    go_ret3
    exact ⟨HN.out, HB4.out⟩

end Go.Proofs.YtobdnepmjcbjeaaGreat

namespace Go.Proofs.YtobdnepmjcbjeaaGreat
set_option linter.unusedVariables false
set_option linter.unusedSimpArgs false
open Go.RowKit

def orI (x y : Int) : Int := if x = 0 then y else x

def cmpI (a b : Int) : Int := if a < b then -1 else if b < a then 1 else 0

set_option maxHeartbeats 400000 in
theorem cmp_any (a b : Int) (w : World) :
    Calls Tryz.prog 99 #[.int .i64 a, .int .i64 b] w fun e w' => e = .returned (.int .i64 (cmpI a b)) ∧ w = w' := by
  rcases Int.lt_trichotomy a b with h | h | h
  · have hv : cmpI a b = -1 := by unfold cmpI; rw [if_pos h]
    have HV := Lib.hid hv
    clear hv
    go_enter Tryz.func99, Tryz.ntmps99
    go_wp2
    go_ret
    exact ⟨by rw [HV.out]; rfl, rfl⟩
  · subst h
    have hv : cmpI a a = 0 := by unfold cmpI; simp
    have HV := Lib.hid hv
    clear hv
    go_enter Tryz.func99, Tryz.ntmps99
    go_wp2
    go_ret
    exact ⟨by rw [HV.out]; rfl, rfl⟩
  · have hv : cmpI a b = 1 := by unfold cmpI; rw [if_neg (by omega), if_pos h]
    have HV := Lib.hid hv
    have hn : ¬ a < b := by omega
    clear hv
    go_enter Tryz.func99, Tryz.ntmps99
    go_wp2
    go_ret
    exact ⟨by rw [HV.out]; rfl, rfl⟩

set_option maxHeartbeats 1000000 in
theorem or_run (x y : Int) (g : Nat) (w : World) (h0 : w.cell? ⟨g, 0, none⟩ = some (.int .i64 x)) (h1 : w.cell? ⟨g, 1, none⟩ = some (.int .i64 y)) :
    Calls Tryz.prog 100 #[.slice (some ⟨g, 0, none⟩) 2 2] w fun e w' => e = .returned (.int .i64 (orI x y)) ∧ w = w' := by
  have key : ∀ r, orI x y = r → (x = 0 → y = 0 ∨ y ≠ 0) := fun _ _ _ => by omega
  by_cases hx : x = 0
  · have hx0 : (x == 0) = true := by simp [hx]
    have hx1 : (x != 0) = false := by simp [hx]
    by_cases hy : y = 0
    · have hy0 : (y != 0) = false := by simp [hy]
      have HO := Lib.hid (show orI x y = 0 by unfold orI; simp [hx, hy])
      clear key hx hy
      go_enter Tryz.func100, Tryz.ntmps100
      go_wp2_with fail
      go_loop [8] (fun t => ∃ q : Nat, q ≤ 2 ∧ t = .int .i64 q) (fun t => 2 - (intOf t).toNat)
      case atStart => exact ⟨0, by omega, rfl⟩
      case round =>
        obtain ⟨q, hq, rfl⟩ := hrel
        match q, hq with
        | 0, _ =>
          go_wp2_with fail
          go_round
          case rel => exact ⟨1, by omega, rfl⟩
          case measure => simp [intOf]
        | 1, _ =>
          go_wp2_with fail
          go_round
          case rel => exact ⟨2, by omega, rfl⟩
          case measure => simp [intOf]
        | 2, _ =>
          go_wp2_with fail
          go_ret
          exact ⟨by rw [HO.out]; rfl, rfl⟩
    · have hy0 : (y != 0) = true := by simp [hy]
      have HO := Lib.hid (show orI x y = y by unfold orI; simp [hx])
      clear key hx hy
      go_enter Tryz.func100, Tryz.ntmps100
      go_wp2_with fail
      go_loop [8] (fun t => ∃ q : Nat, q ≤ 1 ∧ t = .int .i64 q) (fun t => 2 - (intOf t).toNat)
      case atStart => exact ⟨0, by omega, rfl⟩
      case round =>
        obtain ⟨q, hq, rfl⟩ := hrel
        match q, hq with
        | 0, _ =>
          go_wp2_with fail
          go_round
          case rel => exact ⟨1, by omega, rfl⟩
          case measure => simp [intOf]
        | 1, _ =>
          go_wp2_with fail
          go_ret
          exact ⟨by rw [HO.out]; rfl, rfl⟩
  · have hx1 : (x != 0) = true := by simp [hx]
    have HO := Lib.hid (show orI x y = x by unfold orI; simp [hx])
    clear key hx
    go_enter Tryz.func100, Tryz.ntmps100
    go_wp2_with fail
    go_loop [8] (fun t => t = .int .i64 0) (fun t => 0)
    case atStart => rfl
    case round =>
      obtain rfl := hrel
      go_wp2_with fail
      go_ret
      exact ⟨by rw [HO.out]; rfl, rfl⟩

/-- The place of a set in the order of sets. -/
def keyC (s : Nat) : Nat := popc s * 1024 + s

/-- What nodeset.Compare answers. -/
def cmpN (a b : Int) : Int := if setB a = setB b then (if setB a = true then orI (cmpI (popc a.toNat : Nat) (popc b.toNat : Nat)) (cmpI a b) else cmpI a b) else if setB b = true then -1 else 1

set_option maxHeartbeats 2000000 in
theorem pcompare_run (a b : Int) (w : World) :
    Calls Tryz.prog 79 #[.int .i64 a, .int .i64 b] w fun e w' => e = .returned (.int .i64 (cmpN a b)) ∧ ∃ os, w' = Go.Sort.grow w os := by
  cases ha : setB a <;> cases hb : setB b
  · have HV := Lib.hid (show cmpN a b = cmpI a b by unfold cmpN; rw [ha, hb]; simp)
    go_enter Tryz.func79, Tryz.ntmps79
    go_wp2_with (first | (go_at_call 65; refine (setValid_run _ _).mono ?_; rintro e w2 ⟨rfl, rfl⟩) | (go_at_call 99; refine (cmp_any _ _ _).mono ?_; rintro e w2 ⟨rfl, rfl⟩))
    go_ret
    exact ⟨by rw [HV.out]; rfl, #[], by rw [Go.Sort.grow_empty]⟩
  · have HV := Lib.hid (show cmpN a b = -1 by unfold cmpN; rw [ha, hb]; simp)
    go_enter Tryz.func79, Tryz.ntmps79
    go_wp2_with (first | (go_at_call 65; refine (setValid_run _ _).mono ?_; rintro e w2 ⟨rfl, rfl⟩))
    go_ret
    exact ⟨by rw [HV.out]; rfl, #[], by rw [Go.Sort.grow_empty]⟩
  · have HV := Lib.hid (show cmpN a b = 1 by unfold cmpN; rw [ha, hb]; simp)
    go_enter Tryz.func79, Tryz.ntmps79
    go_wp2_with (first | (go_at_call 65; refine (setValid_run _ _).mono ?_; rintro e w2 ⟨rfl, rfl⟩))
    go_ret
    exact ⟨by rw [HV.out]; rfl, #[], by rw [Go.Sort.grow_empty]⟩
  · obtain ⟨a0, a1⟩ := setB_iff.1 ha
    obtain ⟨b0, b1⟩ := setB_iff.1 hb
    obtain ⟨s, rfl⟩ := Int.eq_ofNat_of_zero_le a0
    obtain ⟨t, rfl⟩ := Int.eq_ofNat_of_zero_le b0
    have HV := Lib.hid (show cmpN s t = orI (cmpI (popc s : Nat) (popc t : Nat)) (cmpI s t) by unfold cmpN; rw [ha, hb]; simp)
    go_enter Tryz.func79, Tryz.ntmps79
    go_wp2_with fail
    refine (setValid_run _ _).mono ?_
    rintro e w2 ⟨rfl, rfl⟩
    rw [ha]
    go_wp2_with fail
    refine (setValid_run _ _).mono ?_
    rintro e w2 ⟨rfl, rfl⟩
    rw [hb]
    go_wp2_with fail
    refine (setValid_run _ _).mono ?_
    rintro e w2 ⟨rfl, rfl⟩
    rw [ha]
    go_wp2_with fail
    refine (psize_run s (by omega) _).mono ?_
    rintro e w2 ⟨rfl, rfl⟩
    go_wp2_with fail
    refine (psize_run t (by omega) _).mono ?_
    rintro e w2 ⟨rfl, rfl⟩
    generalize popc s = ps at *
    generalize popc t = pt at *
    go_wp2_with fail
    refine (cmp_any _ _ _).mono ?_
    rintro e w2 ⟨rfl, rfl⟩
    generalize cmpI ps pt = u at *
    go_wp2_with fail
    refine (cmp_any _ _ _).mono ?_
    rintro e w2 ⟨rfl, rfl⟩
    generalize cmpI s t = v at *
    go_wp2_with fail
    refine (or_run u v _ _ (cell_of_row _ _ 0 _ _ (0, 0) (heap_alloc_new _ _)) (cell_of_row _ _ 1 _ _ (0, 0) (heap_alloc_new _ _))).mono ?_
    rintro e w2 ⟨rfl, rfl⟩
    go_wp2_with fail
    go_ret
    exact ⟨by rw [HV.out]; rfl, #[.cells #[.int .i64 u, .int .i64 v] 3], Go.Sort.alloc_eq_grow _ _⟩

/-- The three keys of the order of sets. -/
def rkA (a : Int) : Int := if setB a = true then 1 else 0

def rkB (a : Int) : Int := if setB a = true then (popc a.toNat : Nat) else 0

theorem orI_lt (x y : Int) : (orI x y < 0) ↔ (x < 0 ∨ (x = 0 ∧ y < 0)) := by unfold orI; split <;> omega

theorem cmpI_lt (x y : Int) : (cmpI x y < 0) ↔ x < y := by unfold cmpI; split <;> (try split) <;> omega

theorem cmpI_eq (x y : Int) : (cmpI x y = 0) ↔ x = y := by unfold cmpI; split <;> (try split) <;> omega

theorem cmpN_lt (x y : Int) : (cmpN x y < 0) ↔ (rkA x < rkA y ∨ (rkA x = rkA y ∧ (rkB x < rkB y ∨ (rkB x = rkB y ∧ x < y)))) := by
  unfold cmpN rkA rkB
  cases setB x <;> cases setB y <;> simp [orI_lt, cmpI_lt, cmpI_eq]

theorem cmpN_cast (s t : Nat) (hs : s < 1024) (ht : t < 1024) : (cmpN s t < 0) ↔ keyC s < keyC t := by
  have h1 : setB (s : Int) = true := setB_iff.2 ⟨by omega, by omega⟩
  have h2 : setB (t : Int) = true := setB_iff.2 ⟨by omega, by omega⟩
  rw [cmpN_lt]
  unfold rkA rkB keyC
  rw [if_pos h1, if_pos h2, if_pos h1, if_pos h2]
  simp only [Int.toNat_natCast, Int.lt_irrefl, false_or, true_and, Int.ofNat_lt, Int.natCast_inj]
  omega

theorem zc_eq : Tryz.zeroCells84 = Array.replicate 1024 (.bool false) := by kernel_rfl

theorem zc_size : Tryz.zeroCells84.size = 1024 := by rw [zc_eq]; exact Array.size_replicate

theorem zc_one : Tryz.zeroCells84.all (·.oneCell') = true := by rw [zc_eq, Array.all_eq_true]; intro i hi; rw [Array.getElem_replicate]; rfl

theorem zc_info : (Tryz.prog.info? 84).map (·.size) = some Tryz.zeroCells84.size := by rw [zc_size]; kernel_rfl

/-- Block tb says which sets are there. -/
def ThereAt (w : World) (tb : Nat) (p : Nat → Bool) : Prop := ∃ c, w.heap[tb]? = some (.cells c 84 (0, 0)) ∧ c.size = 1024 ∧ ∀ t, t < 1024 → c[t]? = some (.bool (p t))

theorem ThereAt.zero (w : World) : ThereAt (w.alloc (.cells Tryz.zeroCells84 84)) w.heap.size (fun _ => false) :=
  ⟨_, heap_alloc_new _ _, zc_size, fun t ht => by rw [zc_eq, Array.getElem?_replicate, if_pos ht]⟩

theorem ThereAt.keep {w w' : World} {tb : Nat} {p : Nat → Bool} (h : ThereAt w tb p) (hk : w'.heap[tb]? = w.heap[tb]?) : ThereAt w' tb p := by
  obtain ⟨c, h1, h2⟩ := h; exact ⟨c, hk.trans h1, h2⟩

theorem ThereAt.lt {w : World} {tb : Nat} {p : Nat → Bool} (h : ThereAt w tb p) : tb < w.heap.size := by
  obtain ⟨c, h1, h2⟩ := h
  rcases Nat.lt_or_ge tb w.heap.size with h3 | h3
  · exact h3
  · rw [Array.getElem?_eq_none h3] at h1; cases h1

theorem ThereAt.below {w w' : World} {tb : Nat} {p : Nat → Bool} (h : ThereAt w tb p) (hb : Below w.heap.size w w') : ThereAt w' tb p := h.keep (hb.block _ h.lt)

theorem ThereAt.cell {w : World} {tb : Nat} {p : Nat → Bool} (h : ThereAt w tb p) (t : Nat) (ht : t < 1024) : w.cell? ⟨tb, t, none⟩ = some (.bool (p t)) := by
  obtain ⟨c, h1, h2, h3⟩ := h
  rw [cell_of_row _ _ t c _ (0, 0) h1]; exact h3 t ht

theorem ThereAt.fr {w : World} {tb : Nat} {p : Nat → Bool} (h : ThereAt w tb p) (t : Nat) : w.frozen? ⟨tb, t, none⟩ = false := by
  obtain ⟨c, h1, _⟩ := h
  simp [World.frozen?, h1]

theorem ThereAt.congr {w : World} {tb : Nat} {p q : Nat → Bool} (h : ThereAt w tb p) (hq : ∀ t, t < 1024 → q t = p t) : ThereAt w tb q := by
  obtain ⟨c, h1, h2, h3⟩ := h
  exact ⟨c, h1, h2, fun t ht => by rw [hq t ht]; exact h3 t ht⟩

theorem ThereAt.set {w : World} {tb : Nat} {p : Nat → Bool} (h : ThereAt w tb p) (s : Nat) (hs : s < 1024) : ThereAt (w.setCell ⟨tb, s, none⟩ (.bool true)) tb (fun t => p t || t == s) := by
  obtain ⟨c, h1, h2, h3⟩ := h
  refine ⟨c.setIfInBounds s (.bool true), ?_, by simp [h2], fun t ht => ?_⟩
  · simp [World.setCell, Array.getElem?_modify, h1]
  · rw [Array.getElem?_setIfInBounds]
    by_cases e : s = t
    · subst e; rw [if_pos rfl, if_pos (by omega)]; simp
    · rw [if_neg e, h3 t ht]
      have : (t == s) = false := by simp; omega
      simp only [this, Bool.or_false]

set_option maxHeartbeats 1000000 in
theorem least1_run (tb : Nat) (p : Nat → Bool) (t : Nat) (ht : t < 1024) (w : World) (h : ThereAt w tb p) :
    Calls Tryz.prog 70 #[.int .i64 (t : Int), .pointer (some ⟨tb, 0, none⟩)] w fun e w' => e = .returned (.bool (p t)) ∧ w = w' := by
  have h1 := h.cell t ht
  generalize p t = b at *
  clear h
  go_enter Tryz.func70, Tryz.ntmps70
  go_wp2_with fail
  go_ret
  exact ⟨rfl, rfl⟩

theorem dif_nat (a b : Nat) (ha : a < 1024) (hb : b < 1024) : bits .andNot .i64 (a : Int) (b : Int) = ((a ^^^ (a &&& b) : Nat) : Int) := by
  have hx : a ^^^ (a &&& b) < 2 ^ 63 := Nat.xor_lt_two_pow (by omega) (Nat.lt_of_le_of_lt Nat.and_le_left (by omega))
  show IntKind.i64.wrap ((BitVec.ofInt 64 (a : Int) &&& ~~~BitVec.ofInt 64 (b : Int)).toNat : Int) = _
  have e : (BitVec.ofInt 64 (a : Int) &&& ~~~BitVec.ofInt 64 (b : Int)).toNat = a ^^^ (a &&& b) := by
    apply Nat.eq_of_testBit_eq
    intro i
    rw [BitVec.toNat_and, BitVec.toNat_not, ofInt_i64 a (by omega), ofInt_i64 b (by omega), Nat.testBit_and, Nat.testBit_xor, Nat.testBit_and]
    have h2 : (2 : Nat) ^ 64 - 1 - b = 2 ^ 64 - (b + 1) := by omega
    rw [h2, Nat.testBit_two_pow_sub_succ (by omega)]
    rcases Nat.lt_or_ge i 64 with hi | hi
    · simp only [hi, decide_true, Bool.true_and]
      cases a.testBit i <;> cases b.testBit i <;> rfl
    · have h10 : (1024 : Nat) ≤ 2 ^ i := Nat.le_trans (by decide) (Nat.pow_le_pow_right (n := 2) (by omega) hi)
      rw [Nat.testBit_lt_two_pow (show a < 2 ^ i by omega)]; rfl
  rw [e, IntKind.wrap_i64]
  omega

/-- Is t a subset of s? -/
def subB (t s : Nat) : Bool := t &&& s == t

theorem xor_zero {a b : Nat} : a ^^^ b = 0 ↔ a = b := by
  constructor
  · intro h
    apply Nat.eq_of_testBit_eq
    intro i
    have := congrArg (fun x => x.testBit i) h
    simp only [Nat.testBit_xor, Nat.zero_testBit] at this
    revert this
    cases a.testBit i <;> cases b.testBit i <;> simp
  · rintro rfl; exact Nat.xor_self _

theorem andnot_sub (t s : Nat) (ht : t < 1024) (hs : s < 1024) : (bits .andNot .i64 (t : Int) (s : Int) == 0) = subB t s := by
  rw [dif_nat t s ht hs]
  unfold subB
  rw [Bool.eq_iff_iff]
  simp only [beq_iff_eq]
  rw [show ((0 : Int)) = ((0 : Nat) : Int) from rfl, Int.natCast_inj, xor_zero]
  exact eq_comm

set_option maxHeartbeats 1000000 in
theorem least2_run (sb s t : Nat) (ht : t < 1024) (hs : s < 1024) (w : World) (h : w.cell? ⟨sb, 0, none⟩ = some (.int .i64 (s : Int))) :
    Calls Tryz.prog 71 #[.int .i64 (t : Int), .pointer (some ⟨sb, 0, none⟩)] w fun e w' => e = .returned (.bool (subB t s)) ∧ w = w' := by
  have HA := Lib.hid (andnot_sub t s ht hs)
  go_enter Tryz.func71, Tryz.ntmps71
  go_wp2_with fail
  go_ret
  exact ⟨by rw [← HA.out]; rfl, rfl⟩

end Go.Proofs.YtobdnepmjcbjeaaGreat
