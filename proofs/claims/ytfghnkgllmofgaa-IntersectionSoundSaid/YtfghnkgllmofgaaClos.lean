/- Closed sets, the greatest one in a set, and the contracts of leastUnsatisfied, eliminate, Greatest, Quorum. -/
import Derived.Test.YtfghnkgllmofgaaConf
namespace Go.Proofs.Ytfghnkgllmofgaa
set_option linter.unusedVariables false
set_option linter.unusedSimpArgs false
open Go.RowKit

/-- The trust of member k. -/
def trOf (ms : List Mem) (k : Nat) : Tree := (ms.getD k (false, .mk 0 [] [])).2

/-- Is member k in s, and not satisfied by s? -/
def uns (d : Nat) (ms : List Mem) (s : Nat) (k : Nat) : Bool := hasB (s : Int) (k : Int) && !satB d (trOf ms k) (s : Int)

/-- Each member of s is satisfied by s. -/
def Closed (d : Nat) (ms : List Mem) (s : Nat) : Prop := ∀ k, k < ms.length → uns d ms s k = false

def Sub (a b : Nat) : Prop := ∀ k, a.testBit k = true → b.testBit k = true

theorem hasB_bit {S K : Nat} (hS : S < 1024) (hK : K < 10) : hasB (S : Int) (K : Int) = S.testBit K := by
  unfold hasB
  have h1 : setB (S : Int) = true := setB_iff.2 ⟨by omega, by omega⟩
  have h2 : nodeB (K : Int) = true := nodeB_iff.2 ⟨by omega, by omega⟩
  rw [h1, h2]; simp

theorem hasB_sub {a b : Nat} (hb : b < 1024) (h : Sub a b) (x : Int) (hx : hasB (a : Int) x = true) : hasB (b : Int) x = true := by
  unfold hasB at hx ⊢
  simp only [Bool.and_eq_true] at hx ⊢
  exact ⟨setB_iff.2 ⟨by omega, by omega⟩, hx.2.1, by simpa using h _ (by simpa using hx.2.2)⟩

theorem cnt_monoA {α : Type} {p q : α → Bool} : ∀ (l : List α), (∀ x ∈ l, p x = true → q x = true) → cnt p l ≤ cnt q l
  | [], _ => Nat.le_refl _
  | x :: l, h => by
    have ih := cnt_monoA l (fun y hy => h y (List.mem_cons_of_mem _ hy))
    have h1 := h x List.mem_cons_self
    unfold cnt at *
    rw [List.filter_cons, List.filter_cons]
    cases hp : p x
    · cases hq : q x
      · simpa using ih
      · simp; omega
    · rw [h1 hp]; simpa using ih

theorem holdsT_monoA {p q : Int → Bool} (h : ∀ x, p x = true → q x = true) : ∀ (d : Nat) (T : Tree), holdsT d p T = true → holdsT d q T = true
  | 0, _, hh => hh
  | d + 1, .mk thr ns is, hh => by
    have h1 : cnt p ns ≤ cnt q ns := cnt_monoA ns (fun x _ => h x)
    have h2 : cnt (holdsT d p) is ≤ cnt (holdsT d q) is := cnt_monoA is (fun T _ => holdsT_monoA h d T)
    have h3 : thr ≤ ((cnt p ns + cnt (holdsT d p) is : Nat) : Int) := of_decide_eq_true hh
    exact decide_eq_true (show thr ≤ ((cnt q ns + cnt (holdsT d q) is : Nat) : Int) by omega)

theorem sat_sub {d : Nat} {T : Tree} {a b : Nat} (hb : b < 1024) (h : Sub a b) (hs : satB d T (a : Int) = true) : satB d T (b : Int) = true := by
  unfold satB at hs ⊢
  simp only [Bool.and_eq_true] at hs ⊢
  exact ⟨setB_iff.2 ⟨by omega, by omega⟩, holdsT_monoA (hasB_sub hb h) d T hs.2⟩

theorem del_fact (r k : Nat) (hr : r < 1024) (hk : k < 10) (hb : r.testBit k = true) : bits .andNot .i64 (r : Int) (wrap64 (2 ^ k)) = ((r - 2 ^ k : Nat) : Int) := by
  have all : ∀ r : Fin 1024, ∀ k : Fin 10, r.val.testBit k.val = true → bits .andNot .i64 (r.val : Int) (wrap64 (2 ^ k.val)) = ((r.val - 2 ^ k.val : Nat) : Int) := by decide +kernel
  exact all ⟨r, hr⟩ ⟨k, hk⟩ hb

theorem del_bit (r k j : Nat) (hr : r < 1024) (hk : k < 10) (hb : r.testBit k = true) : (r - 2 ^ k).testBit j = (r.testBit j && j != k) := by
  have all : ∀ r : Fin 1024, ∀ k : Fin 10, r.val.testBit k.val = true → ∀ j : Fin 10, (r.val - 2 ^ k.val).testBit j.val = (r.val.testBit j.val && j.val != k.val) := by decide +kernel
  rcases Nat.lt_or_ge j 10 with hj | hj
  · exact all ⟨r, hr⟩ ⟨k, hk⟩ hb ⟨j, hj⟩
  · have h10 : (1024 : Nat) ≤ 2 ^ j := Nat.pow_le_pow_right (n := 2) (by omega) hj
    rw [Nat.testBit_lt_two_pow (Nat.lt_of_le_of_lt (Nat.sub_le _ _) (by omega)), Nat.testBit_lt_two_pow (by omega)]; rfl

theorem bit_le {r k : Nat} (hb : r.testBit k = true) : 2 ^ k ≤ r := by
  rcases Nat.lt_or_ge r (2 ^ k) with h | h
  · rw [Nat.testBit_lt_two_pow h] at hb; cases hb
  · exact h

/-- G is the greatest closed set in S. -/
structure IsGr (d : Nat) (ms : List Mem) (S G : Nat) : Prop where
  sub : Sub G S
  closed : Closed d ms G
  most : ∀ Q, Q < 1024 → Sub Q S → Closed d ms Q → Sub Q G

/-- The nodes of l go, one after the other, from s on, and leave r. -/
def ElimR (d : Nat) (ms : List Mem) : Nat → List Int → Nat → Prop
  | s, [], r => r = s
  | s, x :: l, r => ∃ k : Nat, x = (k : Int) ∧ k < ms.length ∧ uns d ms s k = true ∧ ElimR d ms (s - 2 ^ k) l r

theorem ElimR.snoc {d : Nat} {ms : List Mem} : ∀ (l : List Int) (s r k : Nat), ElimR d ms s l r → k < ms.length → uns d ms r k = true → ElimR d ms s (l ++ [(k : Int)]) (r - 2 ^ k)
  | [], s, r, k, h, hk, hu => by
    obtain rfl : r = s := h
    exact ⟨k, rfl, hk, hu, rfl⟩
  | x :: l, s, r, k, h, hk, hu => by
    obtain ⟨j, e, hj, huj, h2⟩ := h
    exact ⟨j, e, hj, huj, ElimR.snoc l _ r k h2 hk hu⟩

set_option maxRecDepth 100000 in
set_option maxHeartbeats 4000000 in
theorem leastUns_run (P : Nat → Prop) (d : Nat) (ms : List Mem) (v : Value) (s : Nat) (w : World) (hl : ms.length ≤ 10) (hs : s < 1024) (h : MemsAt P d w v ms) :
    Calls Try.prog 72 #[.agg #[v], .int .i64 (s : Int)] w fun e w' => (∃ k : Nat, k < ms.length ∧ uns d ms s k = true ∧ e = .returned (.int .i64 (k : Int)) ∨ Closed d ms s ∧ e = .returned (.int .i64 (-1))) ∧ Below w.heap.size w w' := by
  obtain ⟨A, c, rfl⟩ := h.slice
  have hb1 : Below w.heap.size w (w.alloc (.cells #[.slice A ms.length c] 27)) := balloc (bref w) _
  have k0 : (w.alloc (.cells #[.slice A ms.length c] 27)).heap[w.heap.size]? = some (.cells #[.slice A ms.length c] 27 (0, 0)) := alloc_at rfl
  have H := Lib.hid (h.below hb1)
  have HB := Lib.hid hb1
  have K0 := Lib.hid k0
  clear h hb1 k0
  go_enter Try.func72, Try.ntmps72
  go_upto_region 1 with fail
  generalize w.alloc (.cells #[.slice A ms.length c] 27) = W1 at *
  generalize hg : w.heap.size = g at *
  have HG := Lib.hid hg
  clear hg
  have c0 : W1.cell? ⟨g, 0, none⟩ = some (.slice A ms.length c) := cell_of_row _ _ 0 _ _ (0, 0) K0.out
  go_wp2_with fail
  go_loopw [10] (fun t W => ∃ k : Nat, k ≤ ms.length ∧ t = .int .i64 k ∧ Hid (∀ i, i < k → uns d ms s i = false) ∧ Hid (Below W1.heap.size W1 W)) (fun t _ => ms.length - (intOf t).toNat)
  case atStart => exact ⟨0, by omega, rfl, Lib.hid (fun i hi => by omega), Lib.hid (bref _)⟩
  case round =>
    obtain ⟨k, hk, rfl, hNo, hB⟩ := hrel
    by_cases hlt : k < ms.length
    · obtain ⟨m, hm⟩ : ∃ m, ms[k]? = some m := ⟨_, List.getElem?_eq_getElem hlt⟩
      obtain ⟨b, off, t, A1, n1, c1, A2, n2, c2, rfl, hP, hbl, e0, e1, e2, e3, hT⟩ := memBox (H.out.below hB.out) hm
      have htr : trOf ms k = m.2 := by unfold trOf; rw [List.getD_eq_getElem?_getD, hm]; rfl
      have HUN := Lib.hid (show uns d ms s k = (hasB (s : Int) (k : Int) && !satB d m.2 (s : Int)) by unfold uns; rw [htr])
      obtain ⟨dec, T⟩ := m
      clear hm htr
      have hbA := balloc (bref wr) (.cells #[.bool dec, .int .i64 t, .slice A1 n1 c1, .slice A2 n2 c2] 53)
      have hTA := Lib.hid (hT.below hbA)
      have hBA := Lib.hid (balloc hB.out (.cells #[.bool dec, .int .i64 t, .slice A1 n1 c1, .slice A2 n2 c2] 53))
      clear hT hbA
      go_wp2_with fail
      refine (has_run _ _ _).mono ?_
      rintro e w2 ⟨rfl, rfl⟩
      cases hh : hasB (s : Int) (k : Int)
      · have hu := Lib.hid (show uns d ms s k = false by rw [HUN.out, hh]; rfl)
        clear hh
        have HN2 := Lib.hid (show ∀ i, i < k + 1 → uns d ms s i = false from fun i hi => by
          rcases Nat.lt_or_ge i k with h1 | h1
          · exact hNo.out i h1
          · obtain rfl : i = k := by omega
            exact hu.out)
        go_wp2_with fail
        go_roundw
        case rel => exact ⟨k + 1, by omega, by go_num, HN2, hBA⟩
        case measure => simp [intOf]; omega
      · go_wp2_with fail
        refine (satisfied_run _ d T _ _ _ (s : Int) _ hTA.out).mono ?_
        rintro e W4 ⟨rfl, hb4⟩
        have HB4 := Lib.hid (bstep hBA.out hb4)
        clear hb4
        cases hsat : satB d T (s : Int)
        · have hu := Lib.hid (show uns d ms s k = true by rw [HUN.out, hh, hsat]; rfl)
          clear hh hsat
          go_wp2_with fail
          go_ret
          exact ⟨⟨k, .inl ⟨hlt, hu.out, rfl⟩⟩, by
            have h1 := HB.out
            rw [← HG.out] at h1
            exact bstep h1 HB4.out⟩
        · have hu := Lib.hid (show uns d ms s k = false by rw [HUN.out, hh, hsat]; rfl)
          clear hh hsat
          have HN2 := Lib.hid (show ∀ i, i < k + 1 → uns d ms s i = false from fun i hi => by
            rcases Nat.lt_or_ge i k with h1 | h1
            · exact hNo.out i h1
            · obtain rfl : i = k := by omega
              exact hu.out)
          go_wp2_with fail
          go_roundw
          case rel => exact ⟨k + 1, by omega, by go_num, HN2, HB4⟩
          case measure => simp [intOf]; omega
    · obtain rfl : k = ms.length := by omega
      go_wp2_with fail
      go_ret
      exact ⟨⟨0, .inr ⟨fun k hk => hNo.out k hk, rfl⟩⟩, by
        have h1 := HB.out
        rw [← HG.out] at h1
        exact bstep h1 hB.out⟩

end Go.Proofs.Ytfghnkgllmofgaa
