/- The example of layer 9. -/
import Derived.Test.YtkpfjflemlmhfaaClos3
namespace Go.Proofs.Ytkpfjflemlmhfaa
set_option linter.unusedVariables false
open Go.RowKit

def thT : Tree := .mk 2 [0, 1, 2] []
def thM : List Mem := [(true, thT), (true, thT), (true, thT)]
theorem nodes_bel {P : Nat → Prop} {w w' : World} {v : Value} {ns : List Int} (h : NodesAt P w v ns) (hb : Below w.heap.size w w') : NodesAt P w' v ns := by
  obtain ⟨A, c, h1, h2⟩ := h
  refine ⟨A, c, h1, fun k hk' => ?_⟩
  obtain ⟨b, off, e1, e2, e3⟩ := h2 k hk'
  exact ⟨b, off, e1, e2, (hb.cell (cell_lt e3)).trans e3⟩
theorem thM_decl : declS thM 3 = 7 := by decide
theorem thM_3 : ∀ k, k < 3 → uns 1 thM 3 k = false := by decide +kernel
theorem thM_7 : ∀ k, k < 3 → uns 1 thM 7 k = false := by decide +kernel
theorem thM_0 : ∀ k, k < 3 → uns 1 thM 0 k = false := by decide +kernel
theorem thM_1 : uns 1 thM 1 0 = true ∧ uns 1 thM 1 1 = false ∧ uns 1 thM 1 2 = false := by decide +kernel
theorem sub_antisymm {a b : Nat} (h1 : Sub a b) (h2 : Sub b a) : a = b := by
  apply Nat.eq_of_testBit_eq
  intro i
  rw [Bool.eq_iff_iff]
  exact ⟨h1 i, h2 i⟩
theorem gr_7 {G : Nat} (h : IsGr 1 thM 7 G) : G = 7 := sub_antisymm h.sub (h.most 7 (by omega) (fun _ h => h) (fun k hk => thM_7 k hk))
theorem gr_1 {G : Nat} (h : IsGr 1 thM 1 G) : G = 0 := by
  apply Nat.eq_of_testBit_eq
  intro i
  rw [Nat.zero_testBit]
  cases hb : G.testBit i
  · rfl
  · exfalso
    have h1 := h.sub i hb
    have hi : i = 0 := by
      rcases i with _ | i
      · rfl
      · simp [Nat.testBit_succ] at h1
    subst hi
    have hG1 : G = 1 := by
      apply sub_antisymm h.sub
      intro j hj
      have : j = 0 := by
        rcases j with _ | j
        · rfl
        · simp [Nat.testBit_succ] at hj
      rw [this]; exact hb
    rw [hG1] at h
    have := h.closed 0 (by decide)
    rw [thM_1.1] at this
    cases this
theorem el_1 {gs : List Int} {G : Nat} (h : ElimR 1 thM 1 gs G) (hG : G = 0) : gs = [0] := by
  cases gs with
  | nil =>
    have : G = 1 := h
    omega
  | cons x l =>
    obtain ⟨k, rfl, hk, hu, h2⟩ := h
    have hk0 : k = 0 := by
      have hk3 : k < 3 := hk
      match k, hk3, hu with
      | 0, _, _ => rfl
      | 1, _, hu => rw [thM_1.2.1] at hu; cases hu
      | 2, _, hu => rw [thM_1.2.2] at hu; cases hu
    subst hk0
    cases l with
    | nil => rfl
    | cons y l =>
      obtain ⟨k, _, hk, hu, _⟩ := h2
      have h0 := thM_0 k hk
      rw [show (1 : Nat) - 2 ^ 0 = 0 by decide, h0] at hu
      cases hu

set_option maxRecDepth 100000 in
set_option maxHeartbeats 4000000 in
theorem three_run (w : World) : Calls Try.prog 46 #[] w fun e w' => ∃ v, e = .returned (.agg #[v]) ∧ MemsAt (fun _ => True) 1 w' v thM ∧ Below w.heap.size w w' := by
  go_enter Try.func46, Try.ntmps46
  go_wp2_with fail
  have h0 := alloc_on (o := .cells #[.bool true, .int .i64 2, .slice (some ⟨w.heap.size + 1, 0, none⟩) 3 3, .slice none 0 0, .bool true, .int .i64 2, .slice (some ⟨w.heap.size + 1, 0, none⟩) 3 3, .slice none 0 0, .bool true, .int .i64 2, .slice (some ⟨w.heap.size + 1, 0, none⟩) 3 3, .slice none 0 0] 42) (alloc_on (o := .cells #[.int .i64 2, .slice (some ⟨w.heap.size + 1, 0, none⟩) 3 3, .slice none 0 0] 40) (alloc_on (o := .cells #[.int .i64 0, .int .i64 1, .int .i64 2] 3) (alloc_at (w := w) (o := .cells #[.slice (some ⟨w.heap.size + 1 + 1 + 1, 0, none⟩) 3 3] 27) rfl)))
  have h1 := alloc_on (o := .cells #[.bool true, .int .i64 2, .slice (some ⟨w.heap.size + 1, 0, none⟩) 3 3, .slice none 0 0, .bool true, .int .i64 2, .slice (some ⟨w.heap.size + 1, 0, none⟩) 3 3, .slice none 0 0, .bool true, .int .i64 2, .slice (some ⟨w.heap.size + 1, 0, none⟩) 3 3, .slice none 0 0] 42) (alloc_on (o := .cells #[.int .i64 2, .slice (some ⟨w.heap.size + 1, 0, none⟩) 3 3, .slice none 0 0] 40) (alloc_at (w := w.alloc (.cells #[.slice (some ⟨w.heap.size + 1 + 1 + 1, 0, none⟩) 3 3] 27)) (o := .cells #[.int .i64 0, .int .i64 1, .int .i64 2] 3) (alloc_sz _ _)))
  have h3 := alloc_at (w := ((w.alloc (.cells #[.slice (some ⟨w.heap.size + 1 + 1 + 1, 0, none⟩) 3 3] 27)).alloc (.cells #[.int .i64 0, .int .i64 1, .int .i64 2] 3)).alloc (.cells #[.int .i64 2, .slice (some ⟨w.heap.size + 1, 0, none⟩) 3 3, .slice none 0 0] 40)) (o := .cells #[.bool true, .int .i64 2, .slice (some ⟨w.heap.size + 1, 0, none⟩) 3 3, .slice none 0 0, .bool true, .int .i64 2, .slice (some ⟨w.heap.size + 1, 0, none⟩) 3 3, .slice none 0 0, .bool true, .int .i64 2, .slice (some ⟨w.heap.size + 1, 0, none⟩) 3 3, .slice none 0 0] 42) (k := w.heap.size + 1 + 1 + 1) (by rw [alloc_sz, alloc_sz, alloc_sz])
  have hbb := balloc (balloc (balloc (balloc (bref w) (.cells #[.slice (some ⟨w.heap.size + 1 + 1 + 1, 0, none⟩) 3 3] 27)) (.cells #[.int .i64 0, .int .i64 1, .int .i64 2] 3)) (.cells #[.int .i64 2, .slice (some ⟨w.heap.size + 1, 0, none⟩) 3 3, .slice none 0 0] 40)) (.cells #[.bool true, .int .i64 2, .slice (some ⟨w.heap.size + 1, 0, none⟩) 3 3, .slice none 0 0, .bool true, .int .i64 2, .slice (some ⟨w.heap.size + 1, 0, none⟩) 3 3, .slice none 0 0, .bool true, .int .i64 2, .slice (some ⟨w.heap.size + 1, 0, none⟩) 3 3, .slice none 0 0] 42)
  generalize ((((w.alloc (.cells #[.slice (some ⟨w.heap.size + 1 + 1 + 1, 0, none⟩) 3 3] 27)).alloc (.cells #[.int .i64 0, .int .i64 1, .int .i64 2] 3)).alloc (.cells #[.int .i64 2, .slice (some ⟨w.heap.size + 1, 0, none⟩) 3 3, .slice none 0 0] 40)).alloc (.cells #[.bool true, .int .i64 2, .slice (some ⟨w.heap.size + 1, 0, none⟩) 3 3, .slice none 0 0, .bool true, .int .i64 2, .slice (some ⟨w.heap.size + 1, 0, none⟩) 3 3, .slice none 0 0, .bool true, .int .i64 2, .slice (some ⟨w.heap.size + 1, 0, none⟩) 3 3, .slice none 0 0] 42)) = W at *
  have q0 : W.cell? ⟨w.heap.size, 0, none⟩ = some (.slice (some ⟨w.heap.size + 1 + 1 + 1, 0, none⟩) 3 3) := cell_of_row _ _ 0 _ _ (0, 0) h0
  have hT : TAt (fun _ => True) 1 W (.int .i64 2) (.slice (some ⟨w.heap.size + 1, 0, none⟩) 3 3) (.slice none 0 0) thT := by
    refine ⟨rfl, by decide, by decide, ⟨some ⟨w.heap.size + 1, 0, none⟩, 3, rfl, fun k hk => ⟨w.heap.size + 1, 0, rfl, trivial, ?_⟩⟩, ⟨none, 0, rfl, fun k T hT => by simp at hT⟩⟩
    have hk3 : k < 3 := hk
    rw [Nat.zero_add]
    refine (cell_of_row _ _ k _ _ (0, 0) h1).trans ?_
    match k, hk3 with
    | 0, _ | 1, _ | 2, _ => rfl
  refine bodyPost_ret (v := .agg #[.slice (some ⟨w.heap.size + 1 + 1 + 1, 0, none⟩) 3 3]) ?_ rfl ⟨_, rfl, ?_, hbb⟩
  · simp [results, Try.results46, go_sem, q0]
  · refine ⟨some ⟨w.heap.size + 1 + 1 + 1, 0, none⟩, 3, rfl, fun k m hm => ?_⟩
    have hk3 : k < 3 := (List.getElem?_eq_some_iff.1 hm).1
    have c : ∀ j, W.cell? ⟨w.heap.size + 1 + 1 + 1, j, none⟩ = _ := fun j => cell_of_row _ _ j _ _ (0, 0) h3
    obtain rfl : m = (true, thT) := by
      match k, hk3, hm with
      | 0, _, h => exact (Option.some.inj h).symm
      | 1, _, h => exact (Option.some.inj h).symm
      | 2, _, h => exact (Option.some.inj h).symm
    refine ⟨w.heap.size + 1 + 1 + 1, 0, .int .i64 2, .slice (some ⟨w.heap.size + 1, 0, none⟩) 3 3, .slice none 0 0, rfl, trivial, ?_, ?_, ?_, ?_, hT⟩
    all_goals
      rw [c]
      match k, hk3 with
      | 0, _ | 1, _ | 2, _ => rfl

set_option maxRecDepth 100000 in
set_option maxHeartbeats 4000000 in
theorem awake09 (w : World) : Calls Try.prog 17 #[] w fun e w' => e = .returned (.bool true) ∧ Below w.heap.size w w' := by
  have hl : thM.length ≤ 10 := by decide
  have HDC := Lib.hid (show declS thM thM.length = 7 from thM_decl)
  have HN1 := Lib.hid thM_1
  go_enter Try.func17, Try.ntmps17
  go_wp2_with fail
  refine (three_run _).mono ?_
  rintro e w1 ⟨v1, rfl, hm1, hb1⟩
  have HM1 := Lib.hid hm1
  have HB1 := Lib.hid hb1
  clear hm1 hb1
  go_wp2_with fail
  have hE : ElimR 1 thM (1 &&& declS thM thM.length) [0] 0 := by
    rw [HDC.out]
    exact ⟨0, rfl, by decide, HN1.out.1, rfl⟩
  have hN : NodesAt (fun _ => True) (w1.alloc (.cells #[.int .i64 0] 3)) (.slice (some ⟨w1.heap.size, 0, none⟩) 1 1) [0] :=
    ⟨some ⟨w1.heap.size, 0, none⟩, 1, rfl, fun k hk => ⟨w1.heap.size, 0, rfl, trivial, by
      obtain rfl : k = 0 := by simpa using hk
      exact (cell_of_row _ _ 0 #[.int .i64 0] 3 (0, 0) (heap_alloc_new _ _)).trans rfl⟩⟩
  refine (check_run _ _ 1 thM _ _ [0] 1 0 _ hl (by omega) (by decide) (HM1.out.below (balloc (bref _) _)) hN hE).mono ?_
  rintro e w2 ⟨h2, hb2⟩
  have h3 : e = .returned (.tuple #[.int .i64 ((0 : Nat) : Int), .int .i64 0]) := by
    rcases h2 with ⟨_, h⟩ | ⟨⟨k, hk, hu⟩, _⟩
    · exact h
    · rw [thM_0 k hk] at hu; cases hu
  subst h3
  have HB2 := Lib.hid (bstep (balloc HB1.out (.cells #[.int .i64 0] 3)) hb2)
  clear h2 hb2 hE hN HM1 HB1
  go_wp2_with fail
  refine (three_run _).mono ?_
  rintro e w3 ⟨v3, rfl, hm3, hb3⟩
  have HB3 := Lib.hid (bstep HB2.out hb3)
  go_wp2_with fail
  refine (quorum_run _ 1 thM _ 3 _ hl (by omega) hm3).mono ?_
  rintro e w4 ⟨b, rfl, hb, hb4⟩
  obtain rfl : b = true := hb.2 ⟨by omega, by rw [HDC.out]; exact sub_iff.1 (by decide), fun k hk => thM_3 k hk⟩
  have HB4 := Lib.hid (bstep HB3.out hb4)
  clear hb hb4 hm3 hb3
  go_wp2_with fail
  refine (three_run _).mono ?_
  rintro e w5 ⟨v5, rfl, hm5, hb5⟩
  have HB5 := Lib.hid (bstep HB4.out hb5)
  go_wp2_with fail
  refine (greatest_run _ 1 thM _ 7 _ hl (by omega) hm5).mono ?_
  rintro e w6 ⟨G, rfl, _, hgr, hb6⟩
  rw [HDC.out] at hgr
  obtain rfl : G = 7 := gr_7 hgr
  have HB6 := Lib.hid (bstep HB5.out hb6)
  clear hgr hb6 hm5 hb5
  go_wp2_with fail
  refine (three_run _).mono ?_
  rintro e w7 ⟨v7, rfl, hm7, hb7⟩
  have HB7 := Lib.hid (bstep HB6.out hb7)
  go_wp2_with fail
  refine (greatest_run _ 1 thM _ 1 _ hl (by omega) hm7).mono ?_
  rintro e w8 ⟨G, rfl, _, hgr, hb8⟩
  rw [HDC.out] at hgr
  obtain rfl : G = 0 := gr_1 hgr
  have HB8 := Lib.hid (bstep HB7.out hb8)
  clear hgr hb8 hm7 hb7
  go_wp2_with fail
  refine (three_run _).mono ?_
  rintro e w9 ⟨v9, rfl, hm9, hb9⟩
  have HB9 := Lib.hid (bstep HB8.out hb9)
  go_wp2_with fail
  refine (elimination_run _ 1 thM _ 1 _ hl (by omega) hm9).mono ?_
  rintro e w10 ⟨gv, gs, G, rfl, hN, hlen, hel, hgr, hb10⟩
  rw [HDC.out] at hel hgr
  have hG0 : G = 0 := gr_1 hgr
  obtain rfl : gs = [0] := el_1 hel hG0
  obtain ⟨Ag, cg, hgv⟩ : ∃ A c, gv = .slice A 1 c := by
    obtain ⟨A, c, h1, _⟩ := hN
    exact ⟨A, c, h1⟩
  subst hgv
  have HN := Lib.hid (nodes_bel hN (balloc (bref w10) (.cells #[.int .i64 0] 3)))
  have HB10 := Lib.hid (balloc (bstep HB9.out hb10) (.cells #[.int .i64 0] 3))
  have hN2 : NodesAt (fun _ => True) (w10.alloc (.cells #[.int .i64 0] 3)) (.slice (some ⟨w10.heap.size, 0, none⟩) 1 1) [0] :=
    ⟨some ⟨w10.heap.size, 0, none⟩, 1, rfl, fun k hk => ⟨w10.heap.size, 0, rfl, trivial, by
      obtain rfl : k = 0 := by simpa using hk
      exact (cell_of_row _ _ 0 #[.int .i64 0] 3 (0, 0) (heap_alloc_new _ _)).trans rfl⟩⟩
  have HN2 := Lib.hid hN2
  clear hN hel hgr hb10 hm9 hb9 hlen hN2
  go_wp2_with fail
  refine (ints_run _ _ _ _ [0] _ (by decide) HN.out HN2.out).mono ?_
  rintro e w11 ⟨rfl, hb11⟩
  have HB11 := Lib.hid (bstep HB10.out hb11)
  clear hb11
  go_wp2_with fail
  go_ret
  exact ⟨rfl, HB11.out⟩
end Go.Proofs.Ytkpfjflemlmhfaa
