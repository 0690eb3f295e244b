/- Cascades: the contracts of blocking.following and blocking.Cascade. -/
import Derived.Test.YtbbdmaakphoofaaFed
namespace Go.Proofs.Ytbbdmaakphoofaa
set_option linter.unusedVariables false
set_option linter.unusedSimpArgs false
open Go.RowKit

/-- Nobody outside of s is blocked by it. -/
def CClosed (d : Nat) (ms : List Mem) (s : Nat) : Prop := ∀ k, k < ms.length → s.testBit k = false → blkM d ms s k = false
/-- The nodes of l follow, one after the other, from s on, and lead to r. -/
def CasR (d : Nat) (ms : List Mem) : Nat → List Int → Nat → Prop
  | s, [], r => r = s
  | s, x :: l, r => ∃ k : Nat, x = (k : Int) ∧ k < ms.length ∧ s.testBit k = false ∧ blkM d ms s k = true ∧ CasR d ms (s ||| 2 ^ k) l r
theorem CasR.snoc {d : Nat} {ms : List Mem} : ∀ (l : List Int) (s r k : Nat), CasR d ms s l r → k < ms.length → r.testBit k = false → blkM d ms r k = true → CasR d ms s (l ++ [(k : Int)]) (r ||| 2 ^ k)
  | [], s, r, k, h, hk, hb, hu => by
    obtain rfl : r = s := h
    exact ⟨k, rfl, hk, hb, hu, rfl⟩
  | x :: l, s, r, k, h, hk, hb, hu => by
    obtain ⟨j, e, hj, hbj, huj, h2⟩ := h
    exact ⟨j, e, hj, hbj, huj, CasR.snoc l _ r k h2 hk hb hu⟩
theorem CasR.none {d : Nat} {ms : List Mem} {s r : Nat} {l : List Int} (h : CasR d ms s l r) (hc : CClosed d ms s) : l = [] ∧ r = s := by
  cases l with
  | nil => exact ⟨rfl, h⟩
  | cons x l =>
    obtain ⟨k, _, hk, hb, hu, _⟩ := h
    rw [hc k hk hb] at hu; cases hu
/-- r is what a cascade from S has reached. -/
structure CasAt (d : Nat) (ms : List Mem) (S : Nat) (gs : List Int) (r : Nat) : Prop where
  lt : r < 1024
  len : gs.length + S ≤ r
  sub : Sub S r
  cas : CasR d ms S gs r
  least : ∀ Q, Q < 1024 → Sub S Q → CClosed d ms Q → Sub r Q
theorem CasAt.first {d : Nat} {ms : List Mem} {S : Nat} (h : S < 1024) : CasAt d ms S [] S := ⟨h, by simp, fun _ h => h, rfl, fun Q _ h _ => h⟩
theorem or_grows {r k : Nat} (hb : r.testBit k = false) : r + 1 ≤ r ||| 2 ^ k := by
  have h1 : r ≤ r ||| 2 ^ k := Nat.left_le_or
  rcases Nat.lt_or_ge r (r ||| 2 ^ k) with h2 | h2
  · exact h2
  · have e : r ||| 2 ^ k = r := by omega
    have h3 : (r ||| 2 ^ k).testBit k = true := by rw [Nat.testBit_or, Nat.testBit_two_pow_self, Bool.or_true]
    rw [e, hb] at h3; cases h3
theorem CasAt.step {d : Nat} {ms : List Mem} {S : Nat} {gs : List Int} {r k : Nat} (h : CasAt d ms S gs r) (hl : ms.length ≤ 10) (hk : k < ms.length) (hb : r.testBit k = false) (hu : blkM d ms r k = true) : CasAt d ms S (gs ++ [(k : Int)]) (r ||| 2 ^ k) := by
  have hg := or_grows hb
  have hp : 2 ^ k < 2 ^ 10 := Nat.pow_lt_pow_right (by omega) (by omega)
  refine ⟨Nat.or_lt_two_pow (n := 10) h.lt hp, by have := h.len; simp; omega, fun j hj => ?_, h.cas.snoc _ _ _ _ hk hb hu, fun Q hQ hQS hQc => fun j hj => ?_⟩
  · rw [Nat.testBit_or, h.sub j hj]; rfl
  · rw [Nat.testBit_or, Bool.or_eq_true] at hj
    have h1 := h.least Q hQ hQS hQc
    rcases hj with hj | hj
    · exact h1 j hj
    · rw [Nat.testBit_two_pow] at hj
      obtain rfl : k = j := by simpa using hj
      cases hq : Q.testBit k
      · have h2 := hQc k hk hq
        rw [blkM_sub hQ h1 hu] at h2; cases h2
      · rfl
/-- C is the cascade of S. -/
structure IsCas (d : Nat) (ms : List Mem) (S C : Nat) : Prop where
  sub : Sub S C
  closed : CClosed d ms C
  least : ∀ Q, Q < 1024 → Sub S Q → CClosed d ms Q → Sub C Q
theorem CasAt.is {d : Nat} {ms : List Mem} {S : Nat} {gs : List Int} {r : Nat} (h : CasAt d ms S gs r) (hc : CClosed d ms r) : IsCas d ms S r := ⟨h.sub, hc, h.least⟩
/-- What following says. -/
def FOk (d : Nat) (ms : List Mem) (s : Nat) (K : Int) : Prop := (∃ k : Nat, K = (k : Int) ∧ k < ms.length ∧ s.testBit k = false ∧ blkM d ms s k = true) ∨ (K = -1 ∧ CClosed d ms s)

set_option maxRecDepth 100000 in
set_option maxHeartbeats 4000000 in
theorem following_run (P : Nat → Prop) (d : Nat) (ms : List Mem) (v : Value) (s : Nat) (w : World) (hl : ms.length ≤ 10) (hs : s < 1024) (h : MemsAt P d w v ms) :
    Calls Try.prog 50 #[.agg #[v], .int .i64 (s : Int)] w fun e w' => ∃ K : Int, e = .returned (.int .i64 K) ∧ FOk d ms s K ∧ Below w.heap.size w w' := by
  obtain ⟨A, c, rfl⟩ := h.slice
  have hb1 : Below w.heap.size w (w.alloc (.cells #[.slice A ms.length c] 27)) := balloc (bref w) _
  have k0 : (w.alloc (.cells #[.slice A ms.length c] 27)).heap[w.heap.size]? = some (.cells #[.slice A ms.length c] 27 (0, 0)) := alloc_at rfl
  have H := Lib.hid (h.below hb1)
  have HB := Lib.hid hb1
  have K0 := Lib.hid k0
  clear h hb1 k0
  go_enter Try.func50, Try.ntmps50
  go_upto_region 1 with fail
  generalize w.alloc (.cells #[.slice A ms.length c] 27) = W1 at *
  generalize hg : w.heap.size = g at *
  have HG := Lib.hid hg
  clear hg
  have c0 : W1.cell? ⟨g, 0, none⟩ = some (.slice A ms.length c) := cell_of_row _ _ 0 _ _ (0, 0) K0.out
  have hgl := cell_lt c0
  have hmin : ¬ (10 : Int) < (ms.length : Int) := by omega
  go_wp2_with fail
  all_goals
    go_loopw [10] (fun t W => ∃ k : Nat, k ≤ ms.length ∧ t = .int .i64 k ∧ Hid (∀ i, i < k → s.testBit i = false → blkM d ms s i = false) ∧ Hid (Below W1.heap.size W1 W)) (fun t _ => ms.length - (intOf t).toNat)
    case atStart => exact ⟨0, by omega, rfl, Lib.hid (fun i hi => by omega), Lib.hid (bref _)⟩
    case round =>
      obtain ⟨k, hk, rfl, hNo, hB⟩ := hrel
      have c1 := (hB.out.cell hgl).trans c0
      by_cases hlt : k < ms.length
      · have hki : (k : Int) < (ms.length : Int) := by omega
        have hbit := hasB_bit hs (show k < 10 by omega)
        cases hb : s.testBit k
        · rw [hb] at hbit
          go_wp2_with fail
          refine (has_run _ _ _).mono ?_
          rintro e w2 ⟨rfl, rfl⟩
          rw [hbit]
          go_wp2_with fail
          refine (blocks_run _ d ms _ k s _ hl hs (by omega) (H.out.below hB.out)).mono ?_
          rintro e W3 ⟨rfl, hb3⟩
          have HB3 := Lib.hid (bstep hB.out hb3)
          clear hb3 c1
          cases hbl : blkM d ms s k
          · have HN2 := Lib.hid (show ∀ i, i < k + 1 → s.testBit i = false → blkM d ms s i = false from fun i hi hbi => by
              rcases Nat.lt_or_ge i k with h1 | h1
              · exact hNo.out i h1 hbi
              · obtain rfl : i = k := by omega
                exact hbl)
            clear hbl hb
            go_wp2_with fail
            go_roundw
            case rel => exact ⟨k + 1, by omega, by go_num, HN2, HB3⟩
            case measure => simp [intOf]; omega
          · have HF := Lib.hid (show FOk d ms s (k : Int) from .inl ⟨k, rfl, hlt, hb, hbl⟩)
            clear hbl hb
            go_wp2_with fail
            go_ret
            exact ⟨k, rfl, HF.out, by
              have h1 := HB.out
              rw [← HG.out] at h1
              exact bstep h1 HB3.out⟩
        · rw [hb] at hbit
          have HN2 := Lib.hid (show ∀ i, i < k + 1 → s.testBit i = false → blkM d ms s i = false from fun i hi hbi => by
            rcases Nat.lt_or_ge i k with h1 | h1
            · exact hNo.out i h1 hbi
            · obtain rfl : i = k := by omega
              rw [hb] at hbi; cases hbi)
          clear hb
          go_wp2_with fail
          refine (has_run _ _ _).mono ?_
          rintro e w2 ⟨rfl, rfl⟩
          rw [hbit]
          clear c1
          go_wp2_with fail
          go_roundw
          case rel => exact ⟨k + 1, by omega, by go_num, HN2, hB⟩
          case measure => simp [intOf]; omega
      · obtain rfl : k = ms.length := by omega
        have HF := Lib.hid (show FOk d ms s (-1) from .inr ⟨rfl, fun i hi hbi => hNo.out i hi hbi⟩)
        go_wp2_with fail
        go_ret
        exact ⟨-1, rfl, HF.out, by
          have h1 := HB.out
          rw [← HG.out] at h1
          exact bstep h1 hB.out⟩

set_option maxRecDepth 100000 in
set_option maxHeartbeats 4000000 in
theorem cascade_run (P : Nat → Prop) (d : Nat) (ms : List Mem) (v : Value) (s : Nat) (w : World) (hl : ms.length ≤ 10) (hs : s < 1024) (h : MemsAt P d w v ms) :
    Calls Try.prog 15 #[.agg #[v], .int .i64 (s : Int)] w fun e w' => ∃ (gv : Value) (gs : List Int) (C : Nat), e = .returned (.tuple #[gv, .int .i64 (C : Int)]) ∧ NodesAt (fun b => w.heap.size ≤ b) w' gv gs ∧ C < 1024 ∧ gs.length ≤ 1023 ∧ CasR d ms s gs C ∧ IsCas d ms s C ∧ Below w.heap.size w w' := by
  obtain ⟨A, c, rfl⟩ := h.slice
  obtain ⟨i0, hin, hz0, hz1, hz2⟩ := info_parts infoInt
  have hb1 : Below w.heap.size w (w.alloc (.cells #[.slice A ms.length c] 27)) := balloc (bref w) _
  have k0 : (w.alloc (.cells #[.slice A ms.length c] 27)).heap[w.heap.size]? = some (.cells #[.slice A ms.length c] 27 (0, 0)) := alloc_at rfl
  have H := Lib.hid (h.below hb1)
  have HB := Lib.hid hb1
  have K0 := Lib.hid k0
  have hsv := Lib.hid (show setB (s : Int) = true from setB_iff.2 ⟨by omega, by omega⟩)
  clear h hb1 k0
  go_enter Try.func15, Try.ntmps15
  go_upto_region 1 with fail
  generalize w.alloc (.cells #[.slice A ms.length c] 27) = W1 at *
  generalize hg : w.heap.size = g at *
  have HG := Lib.hid hg
  clear hg
  have c0 : W1.cell? ⟨g, 0, none⟩ = some (.slice A ms.length c) := cell_of_row _ _ 0 _ _ (0, 0) K0.out
  have hgl := cell_lt c0
  go_wp2_with fail
  refine (setValid_run _ _).mono ?_
  rintro e w2 ⟨rfl, rfl⟩
  rw [hsv.out]
  go_wp2_with fail
  refine (following_run _ d ms _ s _ hl hs H.out).mono ?_
  rintro e W3 ⟨K, rfl, hK, hb3⟩
  have HK := Lib.hid hK
  have HB3 := Lib.hid hb3
  clear hK hb3 c0
  go_wp2_with fail
  go_loopw [1, 6, 7] (fun r gv kv W => ∃ (have_ : Nat) (gs : List Int) (K : Int) (gw : Value), r = .int .i64 (have_ : Int) ∧ gv = gw ∧ kv = .int .i64 K ∧ W.ownsRow W1.heap.size 3 1 gw gs.length (gs.map (Value.int .i64)) ∧ Hid (CasAt d ms s gs have_) ∧ Hid (FOk d ms have_ K) ∧ Hid (Below W1.heap.size W1 W)) (fun r _ _ _ => 1024 - (intOf r).toNat)
  case atStart => exact ⟨s, [], K, .slice none 0 0, rfl, rfl, rfl, World.ownsRow_nil _ _ _ _, Lib.hid (CasAt.first hs), HK, HB3⟩
  case round =>
    obtain ⟨r, gs, K, gw, rfl, rfl, rfl, hown, hE, hKo, hB⟩ := hrel
    have hrl := hE.out.lt
    have hlen := hE.out.len
    rcases hKo.out with ⟨k, rfl, hk, hbit, hu⟩ | ⟨rfl, hcl⟩
    · have hE2 := hE.out.step hl hk hbit hu
      have hgr := or_grows hbit
      have HOR := Lib.hid (shl_or r k (by omega) (by omega))
      have HE2 := Lib.hid hE2
      have hr2 := hE2.lt
      have hk0 : (0 : Int) ≤ (k : Int) := by omega
      have hbs := hB.out.size
      clear hE2 hbit hu hKo
      go_wp2_with (at_builtin; refine wpList_append_own _ rfl _ _ 22 rfl W1.heap.size 3 i0 (.int .i64 0) 1 8 Try.underlying22 hin hz0 hz1 hz2 rfl (by decide) _ _ _ rfl (hown.alloc _) ⟨wr.heap.size, 0, none⟩ 1 1 [.int .i64 (k : Int)] rfl rfl (cell_one_new _ _ _) (fun u hu => by simp at hu; subst hu; rfl) (by unfold maxLen; omega) (by omega) (by simp; omega) ?_; intro v' w1 hown' hgrow hnil; have c1 : w1.cell? ⟨g, 0, none⟩ = some (.slice A ms.length c) := ((Below.grown (balloc hB.out (.cells #[.int .i64 (k : Int)] 3)) hgrow (by simp; omega) (fun j hj => (hown.lt j hj).1)).cell hgl).trans (cell_of_row _ _ 0 _ _ (0, 0) K0.out))
      have HO := Lib.hid (own_snoc hown')
      have HB4 := Lib.hid (Below.grown (balloc hB.out (.cells #[.int .i64 (k : Int)] 3)) hgrow (by simp; omega) (fun j hj => (hown.lt j hj).1))
      clear hown' hgrow hnil hown
      rw [HOR.out]
      refine (following_run _ d ms _ (r ||| 2 ^ k) _ hl hr2 (H.out.below HB4.out)).mono ?_
      rintro e W5 ⟨K2, rfl, hK2, hb5⟩
      have HK2 := Lib.hid hK2
      have HB5 := Lib.hid (bstep HB4.out hb5)
      have HO5 := Lib.hid (own_bel HO.out hb5)
      clear hK2 hb5 c1
      generalize r ||| 2 ^ k = r2 at *
      go_wp2_with fail
      go_roundw
      case rel => exact ⟨r2, gs ++ [(k : Int)], K2, _, rfl, rfl, rfl, by simpa using HO5.out, HE2, HK2, HB5⟩
      case measure => simp [intOf]; omega
    · have his := hE.out.is hcl
      have hcas := hE.out.cas
      have HN := Lib.hid (NodesAt.of_own hown)
      have hneg : ¬ (0 : Int) ≤ -1 := by omega
      have hN := nodes_imp (Q := fun b => w.heap.size ≤ b) HN.out (fun k hP => by have h1 := HG.out; have := HB.out; have := hgl; omega)
      have hBw : Below w.heap.size w wr := by
        have h1 := HB.out
        rw [← HG.out] at h1
        exact bstep h1 hB.out
      have HF := Lib.hid (And.intro hN (And.intro hrl (And.intro (show gs.length ≤ 1023 by omega) (And.intro hcas (And.intro his hBw)))))
      clear his hcas hown HN hcl hKo hE hN hBw
      go_wp2_with fail
      go_ret2
      exact ⟨_, gs, r, rfl, HF.out⟩
end Go.Proofs.Ytbbdmaakphoofaa
