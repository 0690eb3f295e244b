/- The contracts of closure.Check, Elimination, and of mk.Ints for equal lists. -/
import Derived.Test.YtkpfjflemlmhfaaClos2
import Derived.BigQuiet
namespace Go.Proofs.Ytkpfjflemlmhfaa
set_option linter.unusedVariables false
open Go.RowKit

set_option maxHeartbeats 1000000 in
theorem ints_run (P Q : Nat → Prop) (v u : Value) (ns : List Int) (w : World) (hn : ns.length ≤ 1000000) (h : NodesAt P w v ns) (h2 : NodesAt Q w u ns) :
    Calls Try.prog 37 #[v, u] w fun e w' => e = .returned (.bool true) ∧ Below w.heap.size w w' := by
  obtain ⟨A, c, rfl, hA⟩ := h
  obtain ⟨B, c', rfl, hB⟩ := h2
  have HA := Lib.hid hA
  have HB := Lib.hid hB
  clear hA hB
  go_enter Try.func37, Try.ntmps37
  go_wp2_with fail
  go_loopw [13] (fun t wr => ∃ k : Nat, k ≤ ns.length ∧ t = .int .i64 k ∧ Hid (Below w.heap.size w wr)) (fun t _ => ns.length - (intOf t).toNat)
  case atStart => exact ⟨0, by omega, rfl, Lib.hid (bref _)⟩
  case round =>
    obtain ⟨k, hk, rfl, hBr⟩ := hrel
    by_cases hlt : k < ns.length
    · obtain ⟨b, off, rfl, _, hc⟩ := HA.out k hlt
      obtain ⟨b', off', rfl, _, hc'⟩ := HB.out k hlt
      have d1 := (hBr.out.cell (cell_lt hc)).trans hc
      have d2 := (hBr.out.cell (cell_lt hc')).trans hc'
      clear hc hc'
      generalize ns.getD k 0 = x at *
      have hxx : (x == x) = true := by simp
      go_wp2_with fail
      go_quiet (fail)
      go_wp2_with fail
      go_roundw
      case rel => exact ⟨k + 1, by omega, by go_num, Lib.hid (bdrewN hBr.out _)⟩
      case measure => simp [intOf]; omega
    · obtain rfl : k = ns.length := by omega
      go_wp2_with fail
      go_ret
      exact ⟨rfl, hBr.out⟩

set_option maxHeartbeats 1000000 in
theorem elimination_run (P : Nat → Prop) (d : Nat) (ms : List Mem) (v : Value) (s : Nat) (w : World) (hl : ms.length ≤ 10) (hs : s < 1024) (h : MemsAt P d w v ms) :
    Calls Try.prog 23 #[.agg #[v], .int .i64 (s : Int)] w fun e w' => ∃ (gv : Value) (gs : List Int) (G : Nat), e = .returned gv ∧ NodesAt (fun b => w.heap.size ≤ b) w' gv gs ∧ gs.length ≤ 1023 ∧ ElimR d ms (s &&& declS ms ms.length) gs G ∧ IsGr d ms (s &&& declS ms ms.length) G ∧ Below w.heap.size w w' := by
  obtain ⟨A, c, rfl⟩ := h.slice
  have hb1 : Below w.heap.size w (w.alloc (.cells #[.slice A ms.length c] 27)) := balloc (bref w) _
  have H := Lib.hid (h.below hb1)
  have HB := Lib.hid hb1
  clear h hb1
  go_enter Try.func23, Try.ntmps23
  go_wp2_with fail
  refine (eliminate_run _ d ms _ s _ hl hs H.out).mono ?_
  rintro e w2 ⟨gv, gs, G, rfl, hN, hG, hlen, hel, hgr, hb2⟩
  have HF := Lib.hid (And.intro (nodes_imp (Q := fun b => w.heap.size ≤ b) hN (fun k hk => by rw [alloc_sz] at hk; omega)) (And.intro hlen (And.intro hel (And.intro hgr (bstep HB.out hb2)))))
  clear hN hel hgr hb2
  go_wp2_with fail
  go_ret
  exact ⟨gv, gs, G, rfl, HF.out⟩

theorem drop_cons {l : List Int} {k : Nat} (h : k < l.length) : l.drop k = l.getD k 0 :: l.drop (k + 1) := by
  rw [List.getD_eq_getElem?_getD, List.getElem?_eq_getElem h]
  exact List.drop_eq_getElem_cons h

set_option maxRecDepth 100000 in
set_option maxHeartbeats 4000000 in
theorem check_run (P Q : Nat → Prop) (d : Nat) (ms : List Mem) (v lv : Value) (l : List Int) (s r : Nat) (w : World) (hl : ms.length ≤ 10) (hs : s < 1024) (hll : l.length ≤ 1000000) (h : MemsAt P d w v ms) (hN : NodesAt Q w lv l) (hE : ElimR d ms (s &&& declS ms ms.length) l r) :
    Calls Try.prog 22 #[.agg #[v], .int .i64 (s : Int), lv] w fun e w' => (Closed d ms r ∧ e = .returned (.tuple #[.int .i64 (r : Int), .int .i64 0]) ∨ (∃ k, k < ms.length ∧ uns d ms r k = true) ∧ e = .returned (.tuple #[.int .i64 0, .int .i64 12])) ∧ Below w.heap.size w w' := by
  obtain ⟨A, c, rfl⟩ := h.slice
  obtain ⟨Al, cl, rfl, hNc⟩ := hN
  have hb1 : Below w.heap.size w (w.alloc (.cells #[.slice A ms.length c] 27)) := balloc (bref w) _
  have k0 : (w.alloc (.cells #[.slice A ms.length c] 27)).heap[w.heap.size]? = some (.cells #[.slice A ms.length c] 27 (0, 0)) := alloc_at rfl
  have H := Lib.hid (h.below hb1)
  have HNC := Lib.hid (fun k (hk : k < l.length) => by
    obtain ⟨b, off, e1, _, e3⟩ := hNc k hk
    exact (⟨b, off, e1, (hb1.cell (cell_lt e3)).trans e3⟩ : ∃ b off, Al = some ⟨b, off, none⟩ ∧ (w.alloc (.cells #[.slice A ms.length c] 27)).cell? ⟨b, off + k, none⟩ = some (.int .i64 (l.getD k 0))))
  have HB := Lib.hid hb1
  have K0 := Lib.hid k0
  have HE := Lib.hid hE
  have hsv := Lib.hid (show setB (s : Int) = true from setB_iff.2 ⟨by omega, by omega⟩)
  have hdl := declS_lt ms ms.length hl
  have HAND := Lib.hid (i64_and_nat s (declS ms ms.length) (by omega) (by omega))
  clear h hb1 k0 hNc hE
  go_enter Try.func22, Try.ntmps22
  go_upto_region 1 with fail
  generalize w.alloc (.cells #[.slice A ms.length c] 27) = W1 at *
  generalize hg : w.heap.size = g at *
  have HG := Lib.hid hg
  clear hg
  have c0 : W1.cell? ⟨g, 0, none⟩ = some (.slice A ms.length c) := cell_of_row _ _ 0 _ _ (0, 0) K0.out
  have hgl := cell_lt c0
  have HBw := Lib.hid (show Below w.heap.size w W1 by rw [HG.out]; exact HB.out)
  go_wp2_with fail
  refine (setValid_run _ _).mono ?_
  rintro e w2 ⟨rfl, rfl⟩
  rw [hsv.out]
  go_wp2_with fail
  refine (declared_run _ d ms _ _ hl H.out).mono ?_
  rintro e W2 ⟨rfl, hb2⟩
  have HB2 := Lib.hid hb2
  clear hb2 c0
  have hSl : s &&& declS ms ms.length < 1024 := Nat.lt_of_le_of_lt Nat.and_le_left hs
  generalize hS : s &&& declS ms ms.length = S at *
  clear hS
  go_wp2_with fail
  rw [HAND.out]
  go_loopw [8, 20] (fun a t W => ∃ (k rest : Nat), k ≤ l.length ∧ a = .int .i64 (rest : Int) ∧ t = .int .i64 k ∧ rest < 1024 ∧ Hid (ElimR d ms rest (l.drop k) r) ∧ Hid (Below W1.heap.size W1 W)) (fun _ t _ => l.length - (intOf t).toNat)
  case atStart => exact ⟨0, S, by omega, rfl, rfl, hSl, by simpa using HE, HB2⟩
  case round =>
    obtain ⟨k, rest, hk, rfl, rfl, hrl, hEl, hB⟩ := hrel
    have c1 : wr.cell? ⟨g, 0, none⟩ = some (.slice A ms.length c) := (hB.out.cell hgl).trans (cell_of_row _ _ 0 _ _ (0, 0) K0.out)
    by_cases hlt : k < l.length
    · obtain ⟨b, off, rfl, hc⟩ := HNC.out k hlt
      have hel := hEl.out
      rw [drop_cons hlt] at hel
      obtain ⟨kk, hx, hkm, hu, hel2⟩ := hel
      rw [hx] at hc
      have d1 := (hB.out.cell (cell_lt hc)).trans hc
      obtain ⟨m, hm⟩ : ∃ m, ms[kk]? = some m := ⟨_, List.getElem?_eq_getElem hkm⟩
      obtain ⟨bm, om, t, A1, n1, c1', A2, n2, c2, rfl, hP, hbl, e0, e1, e2, e3, hT⟩ := memBox (H.out.below hB.out) hm
      have htr : trOf ms kk = m.2 := by unfold trOf; rw [List.getD_eq_getElem?_getD, hm]; rfl
      have hu2 := hu
      unfold uns at hu2
      rw [htr] at hu2
      simp only [Bool.and_eq_true, Bool.not_eq_true'] at hu2
      have HU1 := Lib.hid hu2.1
      have HU2 := Lib.hid hu2.2
      have hbit : rest.testBit kk = true := by rw [← hasB_bit hrl (by omega)]; exact hu2.1
      have HDEL := Lib.hid (del_fact rest kk hrl (by omega) hbit)
      have HEL2 := Lib.hid hel2
      have HTm := Lib.hid hT
      have hrl2 : rest - 2 ^ kk < 1024 := Nat.lt_of_le_of_lt (Nat.sub_le _ _) hrl
      obtain ⟨dec, T⟩ := m
      clear hc hx hu hu2 hel2 hm htr hT hbit
      go_wp2_with fail
      refine (has_run _ _ _).mono ?_
      rintro e w2 ⟨rfl, rfl⟩
      rw [HU1.out]
      go_wp2_with fail
      refine (satisfied_run _ d T _ _ _ (rest : Int) _ HTm.out).mono ?_
      rintro e W4 ⟨rfl, hb4⟩
      rw [HU2.out]
      have HB4 := Lib.hid (bstep hB.out hb4)
      clear hb4 c1
      go_wp2_with fail
      rw [HDEL.out]
      go_roundw
      case rel => exact ⟨k + 1, rest - 2 ^ kk, by omega, rfl, by go_num, hrl2, HEL2, HB4⟩
      case measure => simp [intOf]; omega
    · obtain rfl : k = l.length := by omega
      have hrr := hEl.out
      rw [List.drop_length] at hrr
      obtain rfl : r = rest := hrr
      go_wp2_with fail
      refine (least_run _ d ms _ r _ hl hrl (H.out.below hB.out)).mono ?_
      rintro e W5 ⟨K, rfl, hK, hb5⟩
      have HB5 := Lib.hid (bstep HBw.out (bstep hB.out hb5))
      clear hb5 c1
      rcases hK with ⟨k, rfl, hk, hu⟩ | ⟨rfl, hcl⟩
      · have hk0 : (0 : Int) ≤ (k : Int) := by omega
        have HU := Lib.hid hu
        clear hu
        go_wp2_with fail
        go_ret2
        exact ⟨.inr ⟨⟨k, hk, HU.out⟩, rfl⟩, HB5.out⟩
      · have HC := Lib.hid hcl
        clear hcl
        go_wp2_with fail
        go_ret2
        exact ⟨.inl ⟨HC.out, rfl⟩, HB5.out⟩
end Go.Proofs.Ytkpfjflemlmhfaa
