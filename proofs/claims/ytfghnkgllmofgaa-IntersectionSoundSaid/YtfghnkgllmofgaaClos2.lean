/- The contracts of eliminate, Greatest, Quorum. -/
import Derived.Test.YtfghnkgllmofgaaClos
import Derived.Test.YtfghnkgllmofgaaDual
namespace Go.Proofs.Ytfghnkgllmofgaa
set_option linter.unusedVariables false
set_option linter.unusedSimpArgs false
open Go.RowKit

theorem sub_and {Q a b : Nat} : Sub Q (a &&& b) ↔ Sub Q a ∧ Sub Q b := by
  unfold Sub
  constructor
  · intro h
    exact ⟨fun k hk => by have := h k hk; rw [Nat.testBit_and, Bool.and_eq_true] at this; exact this.1, fun k hk => by have := h k hk; rw [Nat.testBit_and, Bool.and_eq_true] at this; exact this.2⟩
  · rintro ⟨h1, h2⟩ k hk
    rw [Nat.testBit_and, h1 k hk, h2 k hk]; rfl

/-- What the loop of eliminate keeps. -/
structure ElimAt (d : Nat) (ms : List Mem) (S : Nat) (gs : List Int) (r : Nat) : Prop where
  lt : r < 1024
  len : gs.length + r ≤ 1023
  sub : Sub r S
  elim : ElimR d ms S gs r
  most : ∀ Q, Q < 1024 → Sub Q S → Closed d ms Q → Sub Q r

theorem ElimAt.first {d : Nat} {ms : List Mem} {S : Nat} (h : S < 1024) : ElimAt d ms S [] S := ⟨h, by simp; omega, fun _ h => h, rfl, fun Q _ h _ => h⟩

theorem ElimAt.step {d : Nat} {ms : List Mem} {S : Nat} {gs : List Int} {r k : Nat} (h : ElimAt d ms S gs r) (hl : ms.length ≤ 10) (hk : k < ms.length) (hu : uns d ms r k = true) : r.testBit k = true ∧ ElimAt d ms S (gs ++ [(k : Int)]) (r - 2 ^ k) := by
  have hu' := hu
  unfold uns at hu'
  simp only [Bool.and_eq_true, Bool.not_eq_true'] at hu'
  have hb : r.testBit k = true := by rw [← hasB_bit h.lt (by omega)]; exact hu'.1
  have hp : 1 ≤ 2 ^ k := Nat.one_le_pow _ _ (by omega)
  have hle := bit_le hb
  have hl0 := h.len
  refine ⟨hb, by have := h.lt; omega, by simp; omega, fun j hj => ?_, h.elim.snoc _ _ _ _ hk hu, fun Q hQ hQS hQc => fun j hj => ?_⟩
  · rw [del_bit r k j h.lt (by omega) hb] at hj
    simp only [Bool.and_eq_true] at hj
    exact h.sub j hj.1
  · have h1 := h.most Q hQ hQS hQc
    rw [del_bit r k j h.lt (by omega) hb, h1 j hj]
    by_cases e : j = k
    · subst e
      have hc := hQc j hk
      unfold uns at hc
      rw [hasB_bit hQ (by omega), hj, Bool.true_and, Bool.not_eq_false'] at hc
      rw [sat_sub h.lt h1 hc] at hu'
      simp at hu'
    · simpa using e

theorem ElimAt.gr {d : Nat} {ms : List Mem} {S : Nat} {gs : List Int} {r : Nat} (h : ElimAt d ms S gs r) (hc : Closed d ms r) : IsGr d ms S r := ⟨h.sub, hc, h.most⟩

theorem own_snoc {w : World} {v : Value} {n B : Nat} {gs : List Int} {x : Int} (h : w.ownsRow B 3 1 v n (gs.map (Value.int .i64) ++ [.int .i64 x])) : w.ownsRow B 3 1 v n ((gs ++ [x]).map (Value.int .i64)) := by
  rw [List.map_append]; exact h

theorem nodes_imp {P Q : Nat → Prop} {w : World} {v : Value} {ns : List Int} (h : NodesAt P w v ns) (hq : ∀ k, P k → Q k) : NodesAt Q w v ns := by
  obtain ⟨A, c, h1, h2⟩ := h
  refine ⟨A, c, h1, fun k hk' => ?_⟩
  obtain ⟨b, off, e1, e2, e3⟩ := h2 k hk'
  exact ⟨b, off, e1, hq _ e2, e3⟩

theorem own_bel {W W' : World} {B n e size : Nat} {v : Value} {xs : List Value} (h : W.ownsRow B e size v n xs) (hb : Below W.heap.size W W') : W'.ownsRow B e size v n xs := by
  refine h.kept (row := none) ⟨hb.os, hb.tape, hb.output, hb.size, fun k hk _ => hb.block k hk⟩ ?_
  cases hv : v.ownBlock
  · exact .inl rfl
  · exact .inr (by simp)

/-- What leastUnsatisfied says. -/
def KOk (d : Nat) (ms : List Mem) (s : Nat) (K : Int) : Prop := (∃ k : Nat, K = (k : Int) ∧ k < ms.length ∧ uns d ms s k = true) ∨ (K = -1 ∧ Closed d ms s)

theorem least_run (P : Nat → Prop) (d : Nat) (ms : List Mem) (v : Value) (s : Nat) (w : World) (hl : ms.length ≤ 10) (hs : s < 1024) (h : MemsAt P d w v ms) :
    Calls Try.prog 72 #[.agg #[v], .int .i64 (s : Int)] w fun e w' => ∃ K : Int, e = .returned (.int .i64 K) ∧ KOk d ms s K ∧ Below w.heap.size w w' := by
  refine (leastUns_run P d ms v s w hl hs h).mono ?_
  rintro e w' ⟨⟨k, h1 | h1⟩, hb⟩
  · exact ⟨k, h1.2.2, .inl ⟨k, rfl, h1.1, h1.2.1⟩, hb⟩
  · exact ⟨-1, h1.2, .inr ⟨rfl, h1.1⟩, hb⟩

set_option maxRecDepth 100000 in
set_option maxHeartbeats 4000000 in
theorem eliminate_run (P : Nat → Prop) (d : Nat) (ms : List Mem) (v : Value) (s : Nat) (w : World) (hl : ms.length ≤ 10) (hs : s < 1024) (h : MemsAt P d w v ms) :
    Calls Try.prog 55 #[.agg #[v], .int .i64 (s : Int)] w fun e w' => ∃ (gv : Value) (gs : List Int) (G : Nat), e = .returned (.tuple #[gv, .int .i64 (G : Int)]) ∧ NodesAt (fun b => w.heap.size ≤ b) w' gv gs ∧ G < 1024 ∧ gs.length ≤ 1023 ∧ ElimR d ms (s &&& declS ms ms.length) gs G ∧ IsGr d ms (s &&& declS ms ms.length) G ∧ Below w.heap.size w w' := by
  obtain ⟨A, c, rfl⟩ := h.slice
  obtain ⟨i0, hin, hz0, hz1, hz2⟩ := info_parts infoInt
  have hb1 : Below w.heap.size w (w.alloc (.cells #[.slice A ms.length c] 27)) := balloc (bref w) _
  have k0 : (w.alloc (.cells #[.slice A ms.length c] 27)).heap[w.heap.size]? = some (.cells #[.slice A ms.length c] 27 (0, 0)) := alloc_at rfl
  have H := Lib.hid (h.below hb1)
  have HB := Lib.hid hb1
  have K0 := Lib.hid k0
  have hsv := Lib.hid (show setB (s : Int) = true from setB_iff.2 ⟨by omega, by omega⟩)
  have hdl := declS_lt ms ms.length hl
  have HAND := Lib.hid (i64_and_nat s (declS ms ms.length) (by omega) (by omega))
  clear h hb1 k0
  go_enter Try.func55, Try.ntmps55
  go_upto_region 1 with fail
  generalize w.alloc (.cells #[.slice A ms.length c] 27) = W1 at *
  generalize hg : w.heap.size = g at *
  have HG := Lib.hid hg
  clear hg
  have c0 : W1.cell? ⟨g, 0, none⟩ = some (.slice A ms.length c) := cell_of_row _ _ 0 _ _ (0, 0) K0.out
  have hgl := cell_lt c0
  go_wp2_with fail
  refine (setValid_run _ _).mono ?_
  rintro e w2 ⟨rfl, rfl⟩
  rw [hsv.out]
  go_wp2_with fail
  refine (declared_run _ d ms _ _ hl H.out).mono ?_
  rintro e W2 ⟨rfl, hb2⟩
  have HB2 := Lib.hid hb2
  have d0 := (hb2.cell hgl).trans c0
  clear hb2
  generalize hD : declS ms ms.length = D at *
  have HDD := Lib.hid hD
  clear hD
  have hSl : s &&& D < 1024 := Nat.lt_of_le_of_lt Nat.and_le_left hs
  generalize hS : s &&& D = S at *
  have HSS := Lib.hid hS
  clear hS
  go_wp2_with fail
  rw [HAND.out]
  refine (least_run _ d ms _ S _ hl hSl (H.out.below HB2.out)).mono ?_
  rintro e W3 ⟨K, rfl, hK, hb3⟩
  have HK := Lib.hid hK
  have HB3 := Lib.hid (bstep HB2.out hb3)
  clear hK hb3 d0 c0
  go_wp2_with fail
  go_loopw [6, 7, 8] (fun r gv kv W => ∃ (rest : Nat) (gs : List Int) (K : Int) (gw : Value), r = .int .i64 (rest : Int) ∧ gv = gw ∧ kv = .int .i64 K ∧ W.ownsRow W1.heap.size 3 1 gw gs.length (gs.map (Value.int .i64)) ∧ Hid (ElimAt d ms S gs rest) ∧ Hid (KOk d ms rest K) ∧ Hid (Below W1.heap.size W1 W)) (fun r _ _ _ => (intOf r).toNat)
  case atStart => exact ⟨S, [], K, .slice none 0 0, rfl, rfl, rfl, World.ownsRow_nil _ _ _ _, Lib.hid (ElimAt.first hSl), HK, HB3⟩
  case round =>
    obtain ⟨rest, gs, K, gw, rfl, rfl, rfl, hown, hE, hKo, hB⟩ := hrel
    rcases hKo.out with ⟨k, rfl, hk, hu⟩ | ⟨rfl, hcl⟩
    · obtain ⟨hbit, hE2⟩ := hE.out.step hl hk hu
      have hrl := hE.out.lt
      have hlen := hE.out.len
      have hle := bit_le hbit
      have hp : 1 ≤ 2 ^ k := Nat.one_le_pow _ _ (by omega)
      have HDEL := Lib.hid (del_fact rest k hrl (by omega) hbit)
      have HE2 := Lib.hid hE2
      have hk0 : (0 : Int) ≤ (k : Int) := by omega
      have hrn : rest - 2 ^ k < rest := by omega
      have hbs := hB.out.size
      clear hE2 hbit hu hKo
      go_wp2_with (at_builtin; refine wpList_append_own _ rfl _ _ 22 rfl W1.heap.size 3 i0 (.int .i64 0) 1 8 Try.underlying22 hin hz0 hz1 hz2 rfl (by decide) _ _ _ rfl (hown.alloc _) ⟨wr.heap.size, 0, none⟩ 1 1 [.int .i64 (k : Int)] rfl rfl (cell_one_new _ _ _) (fun u hu => by simp at hu; subst hu; rfl) (by unfold maxLen; omega) (by omega) (by simp; omega) ?_; intro v' w1 hown' hgrow hnil; have c1 : w1.cell? ⟨g, 0, none⟩ = some (.slice A ms.length c) := ((Below.grown (balloc hB.out (.cells #[.int .i64 (k : Int)] 3)) hgrow (by simp; omega) (fun j hj => (hown.lt j hj).1)).cell hgl).trans (cell_of_row _ _ 0 _ _ (0, 0) K0.out))
      have HO := Lib.hid (own_snoc hown')
      have HB4 := Lib.hid (Below.grown (balloc hB.out (.cells #[.int .i64 (k : Int)] 3)) hgrow (by simp; omega) (fun j hj => (hown.lt j hj).1))
      clear hown' hgrow hnil hown
      rw [HDEL.out]
      refine (least_run _ d ms _ (rest - 2 ^ k) _ hl (by omega) (H.out.below HB4.out)).mono ?_
      rintro e W5 ⟨K2, rfl, hK2, hb5⟩
      have HK2 := Lib.hid hK2
      have HB5 := Lib.hid (bstep HB4.out hb5)
      have HO5 := Lib.hid (own_bel HO.out hb5)
      clear hK2 hb5 c1
      generalize rest - 2 ^ k = rest2 at *
      go_wp2_with fail
      go_roundw
      case rel => exact ⟨rest2, gs ++ [(k : Int)], K2, _, rfl, rfl, rfl, by simpa using HO5.out, HE2, HK2, HB5⟩
      case measure => simp [intOf]; omega
    · have hgr := hE.out.gr hcl
      have hlen := hE.out.len
      have HN := Lib.hid (NodesAt.of_own hown)
      have hlt := hE.out.lt
      have hel := hE.out.elim
      have hneg : ¬ (0 : Int) ≤ -1 := by omega
      have hN := nodes_imp (Q := fun b => w.heap.size ≤ b) HN.out (fun k hP => by have h1 := HG.out; omega)
      have hBw : Below w.heap.size w wr := by
        have h1 := HB.out
        rw [← HG.out] at h1
        exact bstep h1 hB.out
      have hlen2 : gs.length ≤ 1023 := by omega
      have HF := Lib.hid (And.intro hN (And.intro hlt (And.intro hlen2 (And.intro hel (And.intro hgr hBw)))))
      clear hgr hel hown HN hcl hKo hE hN hBw hlen2
      go_wp2_with fail
      go_ret2
      refine ⟨_, gs, rest, rfl, ?_⟩
      rw [HDD.out, HSS.out]
      exact HF.out

set_option maxHeartbeats 1000000 in
theorem greatest_run (P : Nat → Prop) (d : Nat) (ms : List Mem) (v : Value) (s : Nat) (w : World) (hl : ms.length ≤ 10) (hs : s < 1024) (h : MemsAt P d w v ms) :
    Calls Try.prog 38 #[.agg #[v], .int .i64 (s : Int)] w fun e w' => ∃ G : Nat, e = .returned (.int .i64 (G : Int)) ∧ G < 1024 ∧ IsGr d ms (s &&& declS ms ms.length) G ∧ Below w.heap.size w w' := by
  obtain ⟨A, c, rfl⟩ := h.slice
  have hb1 : Below w.heap.size w (w.alloc (.cells #[.slice A ms.length c] 27)) := balloc (bref w) _
  have H := Lib.hid (h.below hb1)
  have HB := Lib.hid hb1
  clear h hb1
  go_enter Try.func38, Try.ntmps38
  go_wp2_with fail
  refine (eliminate_run _ d ms _ s _ hl hs H.out).mono ?_
  rintro e w2 ⟨gv, gs, G, rfl, _, hG, _, _, hgr, hb2⟩
  have HGR := Lib.hid hgr
  have HB2 := Lib.hid (bstep HB.out hb2)
  clear hgr hb2
  go_wp2_with fail
  go_ret
  exact ⟨G, rfl, hG, HGR.out, HB2.out⟩

theorem andNot_nat (a b : Nat) (ha : a < 1024) (hb : b < 1024) : bits .andNot .i64 (a : Int) (b : Int) = ((a ^^^ (a &&& b) : Nat) : Int) := by
  have hx : a ^^^ (a &&& b) < 2 ^ 63 := Nat.xor_lt_two_pow (by omega) (Nat.lt_of_le_of_lt Nat.and_le_left (by omega))
  show IntKind.i64.wrap ((BitVec.ofInt 64 (a : Int) &&& ~~~BitVec.ofInt 64 (b : Int)).toNat : Int) = _
  have e : (BitVec.ofInt 64 (a : Int) &&& ~~~BitVec.ofInt 64 (b : Int)).toNat = a ^^^ (a &&& b) := by
    apply Nat.eq_of_testBit_eq
    intro i
    rw [BitVec.toNat_and, BitVec.toNat_not, ofInt_i64 a (by omega), ofInt_i64 b (by omega), Nat.testBit_and, Nat.testBit_xor, Nat.testBit_and]
    have h2 : (2 : Nat) ^ 64 - 1 - b = 2 ^ 64 - (b + 1) := by omega
    rw [h2, Nat.testBit_two_pow_sub_succ (by omega)]
    rcases Nat.lt_or_ge i 64 with hi | hi
    · simp only [hi, decide_true, Bool.true_and]
      cases a.testBit i <;> cases b.testBit i <;> rfl
    · have h10 : (1024 : Nat) ≤ 2 ^ i := Nat.le_trans (by decide) (Nat.pow_le_pow_right (n := 2) (by omega) hi)
      rw [Nat.testBit_lt_two_pow (show a < 2 ^ i by omega)]; rfl
  rw [e, IntKind.wrap_i64]
  omega

theorem sub_iff {a b : Nat} : a ^^^ (a &&& b) = 0 ↔ Sub a b := by
  constructor
  · intro h k hk
    have h1 : (a ^^^ (a &&& b)).testBit k = false := by rw [h]; simp
    rw [Nat.testBit_xor, Nat.testBit_and, hk] at h1
    cases hb : b.testBit k
    · rw [hb] at h1; cases h1
    · rfl
  · intro h
    apply Nat.eq_of_testBit_eq
    intro i
    rw [Nat.testBit_xor, Nat.testBit_and, Nat.zero_testBit]
    cases ha : a.testBit i
    · rfl
    · rw [h i ha]; rfl

set_option maxHeartbeats 2000000 in
theorem quorum_run (P : Nat → Prop) (d : Nat) (ms : List Mem) (v : Value) (s : Nat) (w : World) (hl : ms.length ≤ 10) (hs : s < 1024) (h : MemsAt P d w v ms) :
    Calls Try.prog 54 #[.agg #[v], .int .i64 (s : Int)] w fun e w' => ∃ b : Bool, e = .returned (.bool b) ∧ (b = true ↔ s ≠ 0 ∧ Sub s (declS ms ms.length) ∧ Closed d ms s) ∧ Below w.heap.size w w' := by
  obtain ⟨A, c, rfl⟩ := h.slice
  have hb1 : Below w.heap.size w (w.alloc (.cells #[.slice A ms.length c] 27)) := balloc (bref w) _
  have k0 : (w.alloc (.cells #[.slice A ms.length c] 27)).heap[w.heap.size]? = some (.cells #[.slice A ms.length c] 27 (0, 0)) := alloc_at rfl
  have H := Lib.hid (h.below hb1)
  have HB := Lib.hid hb1
  have K0 := Lib.hid k0
  have hsv := Lib.hid (show setB (s : Int) = true from setB_iff.2 ⟨by omega, by omega⟩)
  have hdl := declS_lt ms ms.length hl
  clear h hb1 k0
  go_enter Try.func54, Try.ntmps54
  go_upto_region 1 with fail
  generalize w.alloc (.cells #[.slice A ms.length c] 27) = W1 at *
  generalize hg : w.heap.size = g at *
  have HG := Lib.hid hg
  clear hg
  have c0 : W1.cell? ⟨g, 0, none⟩ = some (.slice A ms.length c) := cell_of_row _ _ 0 _ _ (0, 0) K0.out
  have hgl := cell_lt c0
  have hBw : Below w.heap.size w W1 := by rw [HG.out]; exact HB.out
  have HBw := Lib.hid hBw
  clear hBw
  by_cases h0 : s = 0
  · subst h0
    go_wp2_with fail
    refine (setValid_run _ _).mono ?_
    rintro e w2 ⟨rfl, rfl⟩
    rw [show setB (0 : Int) = true from rfl]
    go_wp2_with fail
    go_ret
    exact ⟨false, rfl, by simp, HBw.out⟩
  · have hne : ((s : Int) != 0) = true := by simpa using h0
    go_wp2_with fail
    refine (setValid_run _ _).mono ?_
    rintro e w2 ⟨rfl, rfl⟩
    rw [hsv.out]
    go_wp2_with fail
    refine (declared_run _ d ms _ _ hl H.out).mono ?_
    rintro e W2 ⟨rfl, hb2⟩
    have HB2 := Lib.hid hb2
    have d0 := (hb2.cell hgl).trans c0
    clear hb2 c0
    generalize hD : declS ms ms.length = D at *
    have HDD := Lib.hid hD
    clear hD
    have han := andNot_nat s D hs hdl
    by_cases hsub : Sub s D
    · have hz : s ^^^ (s &&& D) = 0 := sub_iff.2 hsub
      rw [hz] at han
      clear hz
      go_wp2_with fail
      refine (least_run _ d ms _ s _ hl hs (H.out.below HB2.out)).mono ?_
      rintro e W3 ⟨K, rfl, hK, hb3⟩
      have HB3 := Lib.hid (bstep HBw.out (bstep HB2.out hb3))
      clear hb3 d0 han
      rcases hK with ⟨k, rfl, hk, hu⟩ | ⟨rfl, hcl⟩
      · have hF := Lib.hid (show ¬ (s ≠ 0 ∧ Sub s D ∧ Closed d ms s) from fun h => by rw [h.2.2 k hk] at hu; cases hu)
        have hk0 : ¬ (k : Int) < 0 := by omega
        clear hu
        go_wp2_with fail
        go_ret
        exact ⟨false, rfl, by rw [HDD.out]; exact ⟨fun h => (by cases h), fun h => (hF.out h).elim⟩, HB3.out⟩
      · have hF := Lib.hid (show s ≠ 0 ∧ Sub s D ∧ Closed d ms s from ⟨h0, hsub, hcl⟩)
        clear hcl
        go_wp2_with fail
        go_ret
        exact ⟨true, rfl, by rw [HDD.out]; exact ⟨fun _ => hF.out, fun _ => rfl⟩, HB3.out⟩
    · have hz : s ^^^ (s &&& D) ≠ 0 := fun h => hsub (sub_iff.1 h)
      generalize s ^^^ (s &&& D) = x at *
      have hxb : ((x : Int) == 0) = false := by simpa using hz
      have hF := Lib.hid (show ¬ (s ≠ 0 ∧ Sub s D ∧ Closed d ms s) from fun h => hsub h.2.1)
      have HB3 := Lib.hid (bstep HBw.out HB2.out)
      clear hsub
      go_wp2_with fail
      go_ret
      exact ⟨false, rfl, by rw [HDD.out]; exact ⟨fun h => (by cases h), fun h => (hF.out h).elim⟩, HB3.out⟩

end Go.Proofs.Ytfghnkgllmofgaa
