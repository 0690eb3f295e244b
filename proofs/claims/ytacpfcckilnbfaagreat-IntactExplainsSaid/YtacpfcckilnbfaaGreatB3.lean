/- What the laws of this seat share: part 3. -/
import Derived.Test.YtacpfcckilnbfaaGreatB2
import Derived.Deep.RegionHeld3
import Derived.Deep.QuietTactic
import Derived.BigQuiet
import Derived.Laws.CopyOwn
import Derived.Deep.RegionLaw
import Derived.IntWalk

namespace Go.Proofs.YtacpfcckilnbfaaGreat
set_option linter.unusedVariables false
set_option linter.unusedSimpArgs false
open Go.RowKit

def popk (s k : Nat) : Nat := (List.range k).countP (fun i => s.testBit i)

theorem popk_succ (s k : Nat) : popk s (k + 1) = popk s k + (s / 2 ^ k) % 2 := by
  unfold popk
  rw [List.range_succ, List.countP_append, List.countP_singleton, Nat.testBit_eq_decide_div_mod_eq]
  congr 1
  rcases Nat.mod_two_eq_zero_or_one (s / 2 ^ k) with h | h <;> simp [h]

theorem popk_le (s k : Nat) : popk s k ≤ k := by unfold popk; exact Nat.le_trans List.countP_le_length (by simp)

theorem popc_mono {a b : Nat} (h : Sub a b) : popc a ≤ popc b := by
  unfold popc
  exact List.countP_mono_left (fun i _ hi => h i hi)

theorem add_bit (s r k : Nat) (hs : s < 1024) (hr : r ≤ 10) : wrap64 ((r : Int) + bits .and .i64 ((s : Int) / 2 ^ k) 1) = ((r + (s / 2 ^ k) % 2 : Nat) : Int) := by
  have e : ((s : Int) / 2 ^ k) = ((s / 2 ^ k : Nat) : Int) := by
    rw [Int.natCast_ediv, Int.natCast_pow]; rfl
  have hq := Nat.div_le_self s (2 ^ k)
  have h1 := i64_and_nat (s / 2 ^ k) 1 (by omega) (by omega)
  rw [e, show (1 : Int) = ((1 : Nat) : Int) from rfl, h1, Nat.and_one_is_mod]
  unfold wrap64
  omega

set_option maxHeartbeats 2000000 in
theorem rsetSize_run (s : Nat) (hs : s < 1024) (w : World) : Calls Tryz.prog 107 #[.int .i64 (s : Int)] w fun e w' => e = .returned (.int .i64 (popc s : Nat)) ∧ w = w' := by
  have hsv := Lib.hid (show setB (s : Int) = true from setB_iff.2 ⟨by omega, by omega⟩)
  go_enter Tryz.func107, Tryz.ntmps107
  go_wp2_with fail
  go_loop [3, 4] (fun v t => ∃ k : Nat, k ≤ 10 ∧ v = .int .i64 (popk s k : Nat) ∧ t = .int .i64 k) (fun _ t => 10 - (intOf t).toNat)
  case atStart => exact ⟨0, by omega, rfl, rfl⟩
  case round =>
    obtain ⟨k, hk, rfl, rfl⟩ := hrel
    by_cases hlt : k < 10
    · have HA := Lib.hid (add_bit s (popk s k) k hs (Nat.le_trans (popk_le s k) hk))
      rw [← popk_succ] at HA
      go_wp2_with fail
      refine (rsetValid_run _ _).mono ?_
      rintro e w2 ⟨rfl, rfl⟩
      rw [hsv.out]
      go_wp2_with fail
      rw [HA.out]
      go_round
      case rel => exact ⟨k + 1, by omega, rfl, by go_num⟩
      case measure => simp [intOf]; omega
    · obtain rfl : k = 10 := by omega
      go_wp2_with fail
      go_ret
      exact ⟨rfl, rfl⟩

/-- The subsets of s among the sets before x of size n. -/
def SubL (s n x : Nat) (l : List Int) : Prop := l.length ≤ 1024 * n + x ∧ ∀ t : Int, t ∈ l ↔ ∃ q : Nat, t = (q : Int) ∧ Sub q s ∧ q ≤ s ∧ (popc q < n ∨ (popc q = n ∧ q < x))

theorem SubL.nil (s : Nat) : SubL s 0 0 [] := ⟨by simp, fun t => by
  constructor
  · intro h; cases h
  · rintro ⟨q, _, _, _, h | ⟨_, h⟩⟩ <;> omega⟩

theorem SubL.turn {s n : Nat} {l : List Int} (hs : s < 1024) (h : SubL s n (s + 1) l) : SubL s (n + 1) 0 l := ⟨by have := h.1; omega, fun t => by
  rw [h.2 t]
  constructor
  · rintro ⟨q, e, hq, hle, h⟩; exact ⟨q, e, hq, hle, by omega⟩
  · rintro ⟨q, e, hq, hle, h⟩; exact ⟨q, e, hq, hle, by omega⟩⟩

theorem SubL.skip {s n x : Nat} {l : List Int} (h : SubL s n x l) (hn : ¬ (Sub x s ∧ popc x = n)) : SubL s n (x + 1) l := ⟨by have := h.1; omega, fun t => by
  rw [h.2 t]
  constructor
  · rintro ⟨q, e, hq, hle, h⟩; exact ⟨q, e, hq, hle, by omega⟩
  · rintro ⟨q, e, hq, hle, h⟩
    refine ⟨q, e, hq, hle, ?_⟩
    rcases h with h | ⟨h1, h2⟩
    · exact .inl h
    · by_cases hx : q = x
      · subst hx; exact (hn ⟨hq, h1⟩).elim
      · exact .inr ⟨h1, by omega⟩⟩

theorem SubL.take {s n x : Nat} {l : List Int} (h : SubL s n x l) (hx : x ≤ s) (h1 : Sub x s) (h2 : popc x = n) : SubL s n (x + 1) (l ++ [(x : Int)]) := ⟨by have := h.1; simp; omega, fun t => by
  rw [List.mem_append, h.2 t, List.mem_singleton]
  constructor
  · rintro (⟨q, e, hq, hle, h⟩ | rfl)
    · exact ⟨q, e, hq, hle, by omega⟩
    · exact ⟨x, rfl, h1, hx, .inr ⟨h2, by omega⟩⟩
  · rintro ⟨q, e, hq, hle, h⟩
    by_cases hqx : q = x ∧ popc q = n
    · right; rw [e, hqx.1]
    · left; exact ⟨q, e, hq, hle, by omega⟩⟩

theorem SubL.full {s : Nat} {l : List Int} (h : SubL s (popc s + 1) 0 l) : ∀ t : Int, t ∈ l ↔ ∃ q : Nat, t = (q : Int) ∧ Sub q s := fun t => by
  rw [h.2 t]
  constructor
  · rintro ⟨q, e, hq, _, _⟩; exact ⟨q, e, hq⟩
  · rintro ⟨q, e, hq⟩
    refine ⟨q, e, hq, ?_, .inl ?_⟩
    · rw [← and_self_sub.2 hq]; exact Nat.and_le_right
    · have := popc_mono hq; omega

set_option maxRecDepth 100000 in
set_option maxHeartbeats 2000000 in
theorem rsubsets_run (s : Nat) (w : World) (hs : s < 1024) :
    Calls Tryz.prog 69 #[.int .i64 (s : Int)] w fun e w' => ∃ v l, e = .returned v ∧ NodesAt (fun b => w.heap.size ≤ b) w' v l ∧ l.length ≤ 20000 ∧ (∀ t : Int, t ∈ l ↔ ∃ q : Nat, t = (q : Int) ∧ Sub q s) ∧ Below w.heap.size w w' := by
  obtain ⟨i0, hin, hz0, hz1, hz2⟩ := info_parts infoInt
  have hsv := Lib.hid (show setB (s : Int) = true from setB_iff.2 ⟨by omega, by omega⟩)
  have hpc := popc_le s
  obtain ⟨N, hN⟩ : ∃ N, popc s = N := ⟨_, rfl⟩
  have HPN := Lib.hid hN
  rw [hN] at hpc
  clear hN
  go_enter Tryz.func69, Tryz.ntmps69
  go_wp2_with fail
  go_loopw [3, 4, 5] (fun v t _ W => ∃ (n : Nat) (l : List Int) (vv : Value), n ≤ N + 1 ∧ v = vv ∧ t = .int .i64 n ∧ W.ownsRow w.heap.size 3 1 vv l.length (l.map (Value.int .i64)) ∧ Hid (SubL s n 0 l) ∧ Hid (Below w.heap.size w W)) (fun _ t _ _ => N + 1 - (intOf t).toNat)
  case atStart => exact ⟨0, [], .slice none 0 0, by omega, rfl, rfl, World.ownsRow_nil _ _ _ _, Lib.hid (SubL.nil s), Lib.hid (bref _)⟩
  case round =>
    obtain ⟨n, l, v, hn, hv, rfl, hown, hL, hB⟩ := hrel
    replace hv := hv.symm
    subst hv
    have HOWN := Lib.hid hown
    by_cases hlt : n ≤ N
    · clear hown
      go_wp2_with fail
      refine (rsetSize_run s hs _).mono ?_
      rintro e w2 ⟨rfl, rfl⟩
      rw [HPN.out]
      go_wp2_with fail
      refine (rsetValid_run _ _).mono ?_
      rintro e w2 ⟨rfl, rfl⟩
      rw [hsv.out]
      go_wp2_with fail
      go_loopw [3, 5] (fun v t W => ∃ (x : Nat) (l : List Int) (vv : Value), x ≤ s + 1 ∧ v = vv ∧ t = .int .i64 x ∧ W.ownsRow w.heap.size 3 1 vv l.length (l.map (Value.int .i64)) ∧ Hid (SubL s n x l) ∧ Hid (Below w.heap.size w W)) (fun _ t _ => s + 1 - (intOf t).toNat)
      case atStart => exact ⟨0, l, _, by omega, rfl, rfl, HOWN.out, hL, hB⟩
      case round =>
        clear HOWN hL hB
        obtain ⟨x, l, v, hx, hv, rfl, hown, hL, hB⟩ := hrel
        replace hv := hv.symm
        subst hv
        have HOWN := Lib.hid hown
        have hlen := hL.out.1
        by_cases hxl : x ≤ s
        · have han := i64_and_nat x s (by omega) (by omega)
          by_cases hsub : Sub x s
          · rw [and_self_sub.2 hsub] at han
            obtain ⟨p, hp⟩ : ∃ p, popc x = p := ⟨_, rfl⟩
            have HP := Lib.hid hp
            by_cases hpn : p = n
            · have HT := Lib.hid (hL.out.take hxl hsub (hp.trans hpn))
              have hbs := hB.out.size
              clear hsub hp
              go_wp2_with fail
              refine (rsetSize_run x (by omega) _).mono ?_
              rintro e w2 ⟨rfl, rfl⟩
              rw [HP.out]
              subst hpn
              go_wp2_with (at_builtin; refine wpList_append_own _ rfl _ _ 22 rfl w.heap.size 3 i0 (.int .i64 0) 1 8 Tryz.underlying22 hin hz0 hz1 hz2 rfl (by decide) _ _ _ rfl (hown.alloc _) ⟨wr.heap.size, 0, none⟩ 1 1 [.int .i64 (x : Int)] rfl rfl (cell_one_new _ _ _) (fun u hu => by simp at hu; subst hu; rfl) (by unfold maxLen; omega) (by omega) (by simp; omega) ?_; intro v' w1 hown' hgrow hnil)
              have HO := Lib.hid (own_snoc hown')
              have HB4 := Lib.hid (Below.grown (balloc hB.out (.cells #[.int .i64 (x : Int)] 3)) hgrow (by simp; omega) (fun j hj => (hown.lt j hj).1))
              clear hown' hgrow hnil hown
              go_roundw
              case rel => exact ⟨x + 1, l ++ [(x : Int)], _, by omega, rfl, by go_num, by simpa using HO.out, HT, HB4⟩
              case measure => simp [intOf]; omega
            · have HT := Lib.hid (hL.out.skip (fun h => hpn (by rw [← hp]; exact h.2)))
              clear hsub hp hown
              go_wp2_with fail
              refine (rsetSize_run x (by omega) _).mono ?_
              rintro e w2 ⟨rfl, rfl⟩
              rw [HP.out]
              go_wp2_with fail
              go_roundw
              case rel => exact ⟨x + 1, l, _, by omega, rfl, by go_num, HOWN.out, HT, hB⟩
              case measure => simp [intOf]; omega
          · have hne : x &&& s ≠ x := fun h => hsub (and_self_sub.1 h)
            have HT := Lib.hid (hL.out.skip (fun h => hsub h.1))
            generalize x &&& s = Y at *
            clear hsub hown
            go_wp2_with fail
            go_roundw
            case rel => exact ⟨x + 1, l, _, by omega, rfl, by go_num, HOWN.out, HT, hB⟩
            case measure => simp [intOf]; omega
        · obtain rfl : x = s + 1 := by omega
          have HT := Lib.hid (hL.out.turn hs)
          clear hown
          go_wp2_with fail
          go_roundw
          case rel => exact ⟨n + 1, l, _, by omega, rfl, by go_num, HOWN.out, HT, hB⟩
          case measure => simp [intOf]; omega
    · have hnN : n = N + 1 := by omega
      subst hnN
      have hlen := hL.out.1
      have HF := Lib.hid (And.intro (NodesAt.of_own hown) (And.intro (show l.length ≤ 20000 by omega) (And.intro (SubL.full (by rw [HPN.out]; exact hL.out)) hB.out)))
      obtain ⟨Av, cv, hv⟩ := own_slice hown
      subst hv
      clear hown HOWN
      go_wp2_with fail
      refine (rsetSize_run s hs _).mono ?_
      rintro e w2 ⟨rfl, rfl⟩
      rw [HPN.out]
      go_wp2_with fail
      go_ret
      exact ⟨_, rfl, l, HF.out⟩

end Go.Proofs.YtacpfcckilnbfaaGreat

namespace Go.Proofs.YtacpfcckilnbfaaGreat
set_option linter.unusedVariables false
set_option linter.unusedSimpArgs false
open Go.RowKit

set_option maxRecDepth 100000 in
set_option maxHeartbeats 400000 in
theorem rmembers_run (A : Option Addr) (n c : Nat) (hn : n ≤ 10) (w : World) : Calls Tryz.prog 105 #[.agg #[.slice A n c]] w fun e w' => e = .returned (.int .i64 ((2 ^ n - 1 : Nat) : Int)) ∧ Below w.heap.size w w' := by
  have hp := pow11 n (by omega)
  have hp1 : 1 ≤ 2 ^ n := Nat.one_le_pow _ _ (by omega)
  have hp2 : 2 ^ n ≤ 2 ^ 10 := Nat.pow_le_pow_right (by omega) hn
  obtain ⟨N, hN⟩ : ∃ N, 2 ^ n = N := ⟨_, rfl⟩
  rw [hN] at hp hp1 hp2 ⊢
  clear hN
  have hw1 : wrap64 ((N : Int) - 1) = (N : Int) - 1 := by unfold wrap64; omega
  have hn64 : (n : Int) < 64 := by omega
  have HE := Lib.hid (show ((N - 1 : Nat) : Int) = (N : Int) - 1 by omega)
  go_enter Tryz.func105, Tryz.ntmps105
  go_wp2_with fail
  go_ret
  exact ⟨by rw [HE.out]; rfl, balloc (bref _) _⟩

theorem outS_sub (n s : Nat) (hn : n ≤ 10) (hs : s ≤ 2 ^ n - 1) : IntKind.i64.wrap (((2 ^ n - 1 : Nat) : Int) - (s : Int)) = ((outS n s : Nat) : Int) := by
  have all : ∀ n : Fin 11, ∀ s : Fin 1024, s.val ≤ 2 ^ n.val - 1 → 2 ^ n.val - 1 - s.val = outS n.val s.val := by decide +kernel
  have hp2 : 2 ^ n ≤ 2 ^ 10 := Nat.pow_le_pow_right (by omega) hn
  have e : 2 ^ n - 1 - s = outS n s := all ⟨n, by omega⟩ ⟨s, by omega⟩ hs
  rw [← e]
  exact (IntWalk.i64_in _ (by omega)).trans (by omega)

theorem sub_ones {n s : Nat} (hn : n ≤ 10) : Sub s (2 ^ n - 1) → s ≤ 2 ^ n - 1 := fun h => by
  rw [← and_self_sub.2 h]; exact Nat.and_le_right

theorem sub_all {n s : Nat} (h : ∀ k, s.testBit k = true → k < n) : Sub s (2 ^ n - 1) := fun k hk => by
  rw [Nat.testBit_two_pow_sub_one, decide_eq_true (h k hk)]

/-- What the reference's apart returns. -/
def RApart (d : Nat) (ms : List Mem) (e : Ending) : Prop := (∃ a b : Nat, e = .returned (.tuple #[.int .i64 (a : Int), .int .i64 (b : Int)]) ∧ Apart d ms a) ∨
  (e = .returned (.tuple #[.int .i64 0, .int .i64 0]) ∧ ∀ t, ¬ Apart d ms t)

set_option maxRecDepth 100000 in
set_option maxHeartbeats 4000000 in
theorem rapart_run (P : Nat → Prop) (d : Nat) (ms : List Mem) (v : Value) (w : World) (hl : ms.length ≤ 10) (h : MemsAt P d w v ms) :
    Calls Tryz.prog 65 #[.agg #[v]] w fun e w' => RApart d ms e ∧ Below w.heap.size w w' := by
  obtain ⟨A, c, rfl⟩ := h.slice
  have hb1 : Below w.heap.size w (w.alloc (.cells #[.slice A ms.length c] 27)) := balloc (bref w) _
  have k0 : (w.alloc (.cells #[.slice A ms.length c] 27)).heap[w.heap.size]? = some (.cells #[.slice A ms.length c] 27 (0, 0)) := alloc_at rfl
  have H := Lib.hid (h.below hb1)
  have HB := Lib.hid hb1
  have K0 := Lib.hid k0
  clear h hb1 k0
  go_enter Tryz.func65, Tryz.ntmps65
  go_upto_region 1 with fail
  generalize w.alloc (.cells #[.slice A ms.length c] 27) = W1 at *
  generalize hg : w.heap.size = g at *
  have HG := Lib.hid hg
  clear hg
  have c0 : W1.cell? ⟨g, 0, none⟩ = some (.slice A ms.length c) := cell_of_row _ _ 0 _ _ (0, 0) K0.out
  have hgl := cell_lt c0
  have HBw := Lib.hid (show Below w.heap.size w W1 by rw [HG.out]; exact HB.out)
  have hp2 : 2 ^ ms.length ≤ 2 ^ 10 := Nat.pow_le_pow_right (by omega) hl
  obtain ⟨n1, hn1⟩ : ∃ n1, 2 ^ ms.length - 1 = n1 := ⟨_, rfl⟩
  have HN1 := Lib.hid hn1
  have hn1l : n1 < 1024 := by omega
  clear hn1 hp2
  go_wp2_with fail
  refine (rmembers_run A ms.length c hl _).mono ?_
  rintro e W2 ⟨rfl, hb2⟩
  rw [HN1.out]
  have HB2 := Lib.hid hb2
  clear hb2 c0
  go_wp2_with fail
  refine (rsubsets_run n1 _ hn1l).mono ?_
  rintro e W3 ⟨sv, l, rfl, hN, hll, hmem, hb3⟩
  have HB3 := Lib.hid (bstep HB2.out hb3)
  have HM := Lib.hid hmem
  obtain ⟨As, cs, rfl, hNc⟩ := hN
  have HNC := Lib.hid hNc
  clear hb3 hmem hNc
  go_wp2_with fail
  go_loopw [5, 6, 11] (fun _ _ t W => ∃ j : Nat, j ≤ l.length ∧ t = .int .i64 j ∧ Hid (∀ i q : Nat, i < j → l[i]? = some (q : Int) → ¬ Apart d ms q) ∧ Hid (Below W3.heap.size W3 W)) (fun _ _ t _ => l.length - (intOf t).toNat)
  case atStart => exact ⟨0, by omega, rfl, Lib.hid (fun i q hi => by omega), Lib.hid (bref _)⟩
  case round =>
    obtain ⟨j, hj, rfl, hNo, hB⟩ := hrel
    have c1 : wr.cell? ⟨g, 0, none⟩ = some (.slice A ms.length c) := ((bstep HB3.out hB.out).cell hgl).trans (cell_of_row _ _ 0 _ _ (0, 0) K0.out)
    by_cases hlt : j < l.length
    · obtain ⟨b, off, rfl, _, hc⟩ := HNC.out j hlt
      have hx0 : l[j]? = some (l.getD j 0) := by rw [List.getD_eq_getElem?_getD, List.getElem?_eq_getElem hlt]; rfl
      obtain ⟨s, hsx, hss⟩ := (HM.out _).1 (List.mem_of_getElem? hx0)
      rw [hsx] at hc hx0
      have hs1 : s ≤ n1 := by
        have := sub_ones (n := ms.length) (s := s) hl (by rw [HN1.out]; exact hss)
        rw [HN1.out] at this; exact this
      have HX0 := Lib.hid hx0
      have d1 := (hB.out.cell (cell_lt hc)).trans hc
      clear hsx hx0 hss hc
      go_wp2_with fail
      refine (rquorum_run _ d ms _ s _ hl (by omega) (H.out.below (bstep HB3.out hB.out))).mono ?_
      rintro e W4 ⟨q, rfl, hq, hb4⟩
      have HB4 := Lib.hid (bstep hB.out hb4)
      have c4 := (hb4.cell (cell_lt c1)).trans c1
      clear hb4 c1 d1
      cases q
      · have HNA := Lib.hid (show ¬ Apart d ms s from fun h => by
          have := hq.2 h.1; cases this)
        clear hq
        have HN2 := Lib.hid (show ∀ i q : Nat, i < j + 1 → l[i]? = some (q : Int) → ¬ Apart d ms q from fun i q hi hq => by
          rcases Nat.lt_or_ge i j with h1 | h1
          · exact hNo.out i q h1 hq
          · obtain rfl : i = j := by omega
            rw [HX0.out] at hq
            obtain rfl : s = q := by have := Option.some.inj hq; omega
            exact HNA.out)
        go_wp2_with fail
        go_roundw
        case rel => exact ⟨j + 1, by omega, by go_num, HN2, HB4⟩
        case measure => simp [intOf]; omega
      · have HQ := Lib.hid (show IsQ d ms s from hq.1 rfl)
        clear hq
        go_upto_region 5 with fail
        have hO := outS_sub ms.length s hl (by rw [HN1.out]; exact hs1)
        rw [HN1.out] at hO
        have hOl := outS_lt ms.length s hl
        obtain ⟨O, hOq⟩ : ∃ O, outS ms.length s = O := ⟨_, rfl⟩
        have HO := Lib.hid hOq
        rw [hOq] at hO hOl
        clear hOq
        have hS := Lib.hid (keepM (⟨c4, H.out.below (bstep HB3.out HB4.out)⟩) (bdrew' W4))
        refine wp_region_noPanic ?_
        refine wp_region_held_drew (S := fun W => W.cell? ⟨g, 0, none⟩ = some (.slice A ms.length c) ∧ MemsAt P d W (.slice A ms.length c) ms) (by kernel_rfl) hS.out (fun hHeld => ?_)
        refine take_d (some 19) (i := 0) (v := ?_) rfl rfl (by kernel_rfl) (by kernel_rfl) (by kernel_rfl) (fun _ _ _ h => h) (Or.inl ⟨by rfl, ?_⟩) (by assumption) ?_
        rotate_left
        · intro w hSw; (try dsimp only at hSw); go_simp; (try with_reducible rfl)
        try simp only [Act.put, List.setIfInBounds_toArray, List.set_cons_zero, List.set_cons_succ]
        refine take_d (some 20) (i := 1) (v := ?_) rfl rfl (by kernel_rfl) (by kernel_rfl) (by kernel_rfl) (fun _ _ _ h => h) (Or.inl ⟨by rfl, ?_⟩) (by assumption) ?_
        rotate_left
        · intro w hSw; (try dsimp only at hSw); go_simp; (try with_reducible rfl)
        try simp only [Act.put, List.setIfInBounds_toArray, List.set_cons_zero, List.set_cons_succ]
        refine take_d (some 22) (i := 3) (v := ?_) rfl rfl (by kernel_rfl) (by kernel_rfl) (by kernel_rfl) (fun _ _ _ h => h) (Or.inl ⟨by rfl, ?_⟩) (by assumption) ?_
        rotate_left
        · intro w hSw; (try dsimp only at hSw); go_simp; (try with_reducible rfl)
        try simp only [Act.put, List.setIfInBounds_toArray, List.set_cons_zero, List.set_cons_succ]
        refine wpAnyH_ready (rs := [2]) (by kernel_rfl) (by simp) ?_
        refine AllReadyH.cons rfl (fun K hK => ?_) AllReadyH.nil
        go_simp
        refine (rmembers_run A ms.length c hl _).mono ?_; rintro e WK ⟨rfl, hbK⟩; rw [HN1.out]; have hSK := keepM (by assumption) hbK
        go_wp2_with fail
        refine hK.out _ _ ?_ (fun hHeld => ?_)
        · exact hSK
        clear hK K
        try simp only [Act.put, List.setIfInBounds_toArray, List.set_cons_zero, List.set_cons_succ]
        refine take_d (some 23) (i := 4) (v := ?_) rfl rfl (by kernel_rfl) (by kernel_rfl) (by kernel_rfl) (fun _ _ _ h => h) (Or.inl ⟨by rfl, ?_⟩) (by assumption) ?_
        rotate_left
        · intro w hSw; (try dsimp only at hSw); go_simp; (try with_reducible rfl)
        try simp only [Act.put, List.setIfInBounds_toArray, List.set_cons_zero, List.set_cons_succ]
        refine wpAnyH_ready (rs := [5]) (by kernel_rfl) (by simp) ?_
        refine AllReadyH.cons rfl (fun K hK => ?_) AllReadyH.nil
        go_simp
        refine (rgreatest_run _ d ms _ O _ hl hOl (memsM (by assumption))).mono ?_; rintro e WK2 ⟨G, rfl, hGl, hgr, hbK2⟩; have hSK := keepM (by assumption) hbK2
        go_wp2_with fail
        refine hK.out _ _ ?_ (fun hHeld => ?_)
        · exact hSK
        clear hK K
        try simp only [Act.put, List.setIfInBounds_toArray, List.set_cons_zero, List.set_cons_succ]
        refine take_d (some 6) (i := 6) (v := ?_) rfl rfl (by kernel_rfl) (by kernel_rfl) (by kernel_rfl) (fun _ _ _ h => h) (Or.inl ⟨by rfl, ?_⟩) (by assumption) ?_
        rotate_left
        · intro w hSw; (try dsimp only at hSw); go_simp; (try with_reducible rfl)
        try simp only [Act.put, List.setIfInBounds_toArray, List.set_cons_zero, List.set_cons_succ]
        refine wpAnyH_done (by kernel_rfl) ?_ _
        refine NoPanic.normal ?_
        rw [← HO.out] at hgr
        have HB5 := Lib.hid (bstep HB4.out (bstep (bstep (bdrew' W4) hbK) hbK2))
        have HAP := Lib.hid (apart_gr hGl hgr)
        have c5 := hSK.1
        clear hSK hHeld hgr hS hO hbK hbK2 c4
        by_cases hg0 : G = 0
        · have hz : ((G : Int) != 0) = false := by rw [hg0]; rfl
          have HNA := Lib.hid (show ¬ Apart d ms s from fun h => HAP.out.1 h.2 hg0)
          clear hg0
          have HN2 := Lib.hid (show ∀ i q : Nat, i < j + 1 → l[i]? = some (q : Int) → ¬ Apart d ms q from fun i q hi hq => by
            rcases Nat.lt_or_ge i j with h1 | h1
            · exact hNo.out i q h1 hq
            · obtain rfl : i = j := by omega
              rw [HX0.out] at hq
              obtain rfl : s = q := by have := Option.some.inj hq; omega
              exact HNA.out)
          go_wp2_with fail
          go_roundw
          case rel => exact ⟨j + 1, by omega, by go_num, HN2, HB5⟩
          case measure => simp [intOf]; omega
        · have hz : ((G : Int) != 0) = true := by simpa using hg0
          have HA := Lib.hid (show Apart d ms s from ⟨HQ.out, HAP.out.2 hg0⟩)
          have HZ := Lib.hid (bstep HBw.out (bstep HB3.out HB5.out))
          clear hg0
          go_wp2_with fail
          go_ret2
          exact ⟨Or.inl ⟨s, G, rfl, HA.out⟩, HZ.out⟩
    · obtain rfl : j = l.length := by omega
      have HALL := Lib.hid (show ∀ t, ¬ Apart d ms t from fun t h => by
        have hst : Sub t n1 := by rw [← HN1.out]; exact sub_all (fun k hk => declS_bit (h.1.2.1 k hk))
        obtain ⟨i, hi, he⟩ := List.getElem_of_mem ((HM.out (t : Int)).2 ⟨t, rfl, hst⟩)
        exact hNo.out i t hi (by rw [List.getElem?_eq_getElem hi, he]) h)
      have HZ := Lib.hid (bstep HBw.out (bstep HB3.out hB.out))
      go_wp2_with fail
      go_ret2
      exact ⟨Or.inr ⟨rfl, HALL.out⟩, HZ.out⟩

end Go.Proofs.YtacpfcckilnbfaaGreat

namespace Go.Proofs.YtacpfcckilnbfaaGreat
set_option linter.unusedVariables false
set_option linter.unusedSimpArgs false
open Go.RowKit

theorem pow11' (L : Nat) (hL : L ≤ 11) : IntKind.i64.wrap (2 ^ L) = ((2 ^ L : Nat) : Int) := by
  have all : ∀ L : Fin 12, IntKind.i64.wrap (2 ^ L.val) = ((2 ^ L.val : Nat) : Int) := by decide +kernel
  exact all ⟨L, by omega⟩

theorem ltpow_of_bits (U n : Nat) (h : ∀ k, U.testBit k = true → k < n) : U < 2 ^ n := Nat.lt_pow_two_of_testBit U (fun i hi => by
  cases hb : U.testBit i
  · rfl
  · have := h i hb; omega)

theorem stKeep {W1 W W' : World} {g b off m c r n1 c1 n2 c2 : Nat} {t : Int} {A1 A2 : Option Addr} {P : Nat → Prop} {T : Tree} (h : W.cell? ⟨g, 0, none⟩ = some (.slice (some ⟨b, off, none⟩) m c) ∧ W.cell? ⟨r, 1, none⟩ = some (.int .i64 t) ∧ W.cell? ⟨r, 2, none⟩ = some (.slice A1 n1 c1) ∧ W.cell? ⟨r, 3, none⟩ = some (.slice A2 n2 c2) ∧ TAt P 2 W (.int .i64 t) (.slice A1 n1 c1) (.slice A2 n2 c2) T ∧ Below W1.heap.size W1 W) (hb : Below W.heap.size W W') : W'.cell? ⟨g, 0, none⟩ = some (.slice (some ⟨b, off, none⟩) m c) ∧ W'.cell? ⟨r, 1, none⟩ = some (.int .i64 t) ∧ W'.cell? ⟨r, 2, none⟩ = some (.slice A1 n1 c1) ∧ W'.cell? ⟨r, 3, none⟩ = some (.slice A2 n2 c2) ∧ TAt P 2 W' (.int .i64 t) (.slice A1 n1 c1) (.slice A2 n2 c2) T ∧ Below W1.heap.size W1 W' :=
  ⟨(hb.cell (cell_lt h.1)).trans h.1, (hb.cell (cell_lt h.2.1)).trans h.2.1, (hb.cell (cell_lt h.2.2.1)).trans h.2.2.1, (hb.cell (cell_lt h.2.2.2.1)).trans h.2.2.2.1, h.2.2.2.2.1.below hb, bstep h.2.2.2.2.2 hb⟩

theorem stT {W1 W : World} {g b off m c r n1 c1 n2 c2 : Nat} {t : Int} {A1 A2 : Option Addr} {P : Nat → Prop} {T : Tree} (h : W.cell? ⟨g, 0, none⟩ = some (.slice (some ⟨b, off, none⟩) m c) ∧ W.cell? ⟨r, 1, none⟩ = some (.int .i64 t) ∧ W.cell? ⟨r, 2, none⟩ = some (.slice A1 n1 c1) ∧ W.cell? ⟨r, 3, none⟩ = some (.slice A2 n2 c2) ∧ TAt P 2 W (.int .i64 t) (.slice A1 n1 c1) (.slice A2 n2 c2) T ∧ Below W1.heap.size W1 W) : TAt P 2 W (.int .i64 t) (.slice A1 n1 c1) (.slice A2 n2 c2) T := h.2.2.2.2.1

set_option maxHeartbeats 400000 in
theorem rsame01_run (A A' : Option Addr) (c c' : Nat) (w : World) : Calls Tryz.prog 127 #[.slice A 0 c, .slice A' 0 c'] w fun e w' => e = .returned (.bool true) ∧ w = w' := by
  go_enter Tryz.func127, Tryz.ntmps127
  go_wp2_with fail
  go_loop [13] (fun t => t = .int .i64 0) (fun _ => 0)
  case atStart => rfl
  case round =>
    subst hrel
    go_wp2_with fail
    go_ret
    exact ⟨rfl, rfl⟩

set_option maxHeartbeats 1000000 in
theorem rsame0_run (A B A' B' : Option Addr) (c c' ca cb : Nat) (w : World) : Calls Tryz.prog 102 #[.agg #[.int .i64 0, .slice A 0 c, .slice B 0 c'], .agg #[.int .i64 0, .slice A' 0 ca, .slice B' 0 cb]] w fun e w' => e = .returned (.bool true) ∧ Below w.heap.size w w' := by
  have hb2 : Below w.heap.size w ((w.alloc (.cells #[.int .i64 0, .slice A 0 c, .slice B 0 c'] 73)).alloc (.cells #[.int .i64 0, .slice A' 0 ca, .slice B' 0 cb] 73)) := balloc (balloc (bref w) _) _
  have k0 : ((w.alloc (.cells #[.int .i64 0, .slice A 0 c, .slice B 0 c'] 73)).alloc (.cells #[.int .i64 0, .slice A' 0 ca, .slice B' 0 cb] 73)).heap[w.heap.size]? = some (.cells #[.int .i64 0, .slice A 0 c, .slice B 0 c'] 73 (0, 0)) := alloc_on (alloc_at rfl)
  have k1 : ((w.alloc (.cells #[.int .i64 0, .slice A 0 c, .slice B 0 c'] 73)).alloc (.cells #[.int .i64 0, .slice A' 0 ca, .slice B' 0 cb] 73)).heap[w.heap.size + 1]? = some (.cells #[.int .i64 0, .slice A' 0 ca, .slice B' 0 cb] 73 (0, 0)) := alloc_at (alloc_sz _ _)
  have HB := Lib.hid hb2
  have K0 := Lib.hid k0
  have K1 := Lib.hid k1
  clear hb2 k0 k1
  go_enter Tryz.func102, Tryz.ntmps102
  go_upto_region 1 with fail
  generalize ((w.alloc (.cells #[.int .i64 0, .slice A 0 c, .slice B 0 c'] 73)).alloc (.cells #[.int .i64 0, .slice A' 0 ca, .slice B' 0 cb] 73)) = W2 at *
  generalize hg : w.heap.size = g at *
  have HG := Lib.hid hg
  clear hg
  have c0 : W2.cell? ⟨g, 0, none⟩ = some (.int .i64 0) := cell_of_row _ _ 0 _ _ (0, 0) K0.out
  have c1 : W2.cell? ⟨g, 1, none⟩ = some (.slice A 0 c) := cell_of_row _ _ 1 _ _ (0, 0) K0.out
  have c2 : W2.cell? ⟨g, 2, none⟩ = some (.slice B 0 c') := cell_of_row _ _ 2 _ _ (0, 0) K0.out
  have d0 : W2.cell? ⟨g + 1, 0, none⟩ = some (.int .i64 0) := cell_of_row _ _ 0 _ _ (0, 0) K1.out
  have d1 : W2.cell? ⟨g + 1, 1, none⟩ = some (.slice A' 0 ca) := cell_of_row _ _ 1 _ _ (0, 0) K1.out
  have d2 : W2.cell? ⟨g + 1, 2, none⟩ = some (.slice B' 0 cb) := cell_of_row _ _ 2 _ _ (0, 0) K1.out
  go_wp2_with fail
  refine (rsame01_run _ _ _ _ _).mono ?_
  rintro e w3 ⟨rfl, rfl⟩
  go_wp2_with fail
  go_loop [31] (fun t => t = .int .i64 0) (fun _ => 0)
  case atStart => rfl
  case round =>
    subst hrel
    go_wp2_with fail
    go_ret
    rw [← HG.out] at HB ⊢
    exact ⟨rfl, HB.out⟩

set_option maxRecDepth 100000 in
set_option maxHeartbeats 2000000 in
theorem rtvalid_run (P : Nat → Prop) (n : Int) (hn10 : n ≤ 10) (d : Nat) (hd : d ≤ 4) (T : Tree) (v0 v1 v2 : Value) (w : World) (h : TAt P d w v0 v1 v2 T) (hW : WF n d T) (hz0 : sizeT d T ≤ 200) :
    Calls Tryz.prog 103 #[.agg #[v0, v1, v2]] w fun e w' => e = .returned (.int .i64 0) ∧ Below w.heap.size w w' := by
  obtain ⟨t', A', n', ca, B', m', cb, rfl, rfl, rfl⟩ := h.form
  have hT := Lib.hid (h.below (balloc (bref w) (.cells #[.int .i64 t', .slice A' n' ca, .slice B' m' cb] 73)))
  have HW := Lib.hid hW
  have hdl := Nat.le_trans (depthT_le d T) hd
  have hsz := hW.size4 hd
  clear h hW
  go_enter Tryz.func103, Tryz.ntmps103
  have hbox : (w.alloc (.cells #[.int .i64 t', .slice A' n' ca, .slice B' m' cb] 73)).heap[w.heap.size]? = some (.cells #[.int .i64 t', .slice A' n' ca, .slice B' m' cb] 73 (0, 0)) := heap_alloc_new _ _
  have HBX := Lib.hid hbox
  have HB1 := Lib.hid (balloc (bref w) (.cells #[.int .i64 t', .slice A' n' ca, .slice B' m' cb] 73))
  clear hbox
  go_upto_region 1 with fail
  generalize w.alloc (.cells #[.int .i64 t', .slice A' n' ca, .slice B' m' cb] 73) = W1 at *
  generalize hg : w.heap.size = g at *
  have hgw := Lib.hid hg
  clear hg
  have c0 : W1.cell? ⟨g, 0, none⟩ = some (.int .i64 t') := cell_of_row _ _ 0 _ _ (0, 0) HBX.out
  have c1 : W1.cell? ⟨g, 1, none⟩ = some (.slice A' n' ca) := cell_of_row _ _ 1 _ _ (0, 0) HBX.out
  have c2 : W1.cell? ⟨g, 2, none⟩ = some (.slice B' m' cb) := cell_of_row _ _ 2 _ _ (0, 0) HBX.out
  have hgl : g < W1.heap.size := cell_lt c0
  generalize hdz : depthT d T = dz at *
  generalize hzz : sizeT d T = zz at *
  have HDZ := Lib.hid hdz
  have HZZ := Lib.hid hzz
  clear hdz hzz
  go_wp2_with fail
  refine (rdepth_run P d T _ _ _ _ (by omega) hT.out).mono ?_
  rintro e w2 ⟨rfl, hb2⟩
  rw [HDZ.out]
  have a0 := (hb2.cell (p := ⟨g, 0, none⟩) hgl).trans c0
  have a1 := (hb2.cell (p := ⟨g, 1, none⟩) hgl).trans c1
  have a2 := (hb2.cell (p := ⟨g, 2, none⟩) hgl).trans c2
  have hT2 := Lib.hid (hT.out.below hb2)
  have HB2 := Lib.hid hb2
  have hgl2 := cell_lt a0
  clear hb2
  go_wp2_with fail
  refine (rsize_run P d T _ _ _ _ hT2.out (by rw [HZZ.out]; omega)).mono ?_
  rintro e w3 ⟨rfl, hb3⟩
  rw [HZZ.out]
  have d0 := (hb3.cell (p := ⟨g, 0, none⟩) hgl2).trans a0
  have d1 := (hb3.cell (p := ⟨g, 1, none⟩) hgl2).trans a1
  have d2 := (hb3.cell (p := ⟨g, 2, none⟩) hgl2).trans a2
  have hT3 := Lib.hid (hT2.out.below hb3)
  have HB3 := Lib.hid (bstep HB2.out hb3)
  have HBW : Hid (∀ x : World, Below W1.heap.size W1 x → Below w.heap.size w x) := Lib.hid (fun x hx => by have h1 := HB1.out; rw [← hgw.out] at h1; exact bstep h1 hx)
  clear hb3
  have hz2 : zz ≤ 200 := by have := HZZ.out; omega
  go_wp2_with fail
  refine (rcheck_run P n hn10 d T _ _ _ _ hT3.out HW.out).mono ?_
  rintro e w4 ⟨rfl, hb4⟩
  go_wp2_with fail
  go_ret
  rw [← hgw.out]
  exact ⟨rfl, HBW.out _ (bstep HB3.out hb4)⟩

set_option maxRecDepth 100000 in
set_option maxHeartbeats 2000000 in
theorem rcvalid_run (P : Nat → Prop) (ms : List Mem) (v : Value) (w : World) (hl : ms.length ≤ 10) (h : MemsAt P 2 w v ms) (hok : MemsOk ms.length ms) :
    Calls Tryz.prog 64 #[.agg #[v]] w fun e w' => e = .returned (.int .i64 0) ∧ Below w.heap.size w w' := by
  obtain ⟨A, c, rfl⟩ := h.slice
  have hb1 : Below w.heap.size w (w.alloc (.cells #[.slice A ms.length c] 27)) := balloc (bref w) _
  have k0 : (w.alloc (.cells #[.slice A ms.length c] 27)).heap[w.heap.size]? = some (.cells #[.slice A ms.length c] 27 (0, 0)) := alloc_at rfl
  have H := Lib.hid (h.below hb1)
  have HB := Lib.hid hb1
  have K0 := Lib.hid k0
  have HOK := Lib.hid hok
  clear h hb1 k0 hok
  go_enter Tryz.func64, Tryz.ntmps64
  go_upto_region 1 with fail
  generalize w.alloc (.cells #[.slice A ms.length c] 27) = W1 at *
  generalize hg : w.heap.size = g at *
  have HG := Lib.hid hg
  clear hg
  have c0 : W1.cell? ⟨g, 0, none⟩ = some (.slice A ms.length c) := cell_of_row _ _ 0 _ _ (0, 0) K0.out
  have hgl := cell_lt c0
  have hl10 : ¬ (10 : Int) < (ms.length : Int) := by omega
  go_wp2_with fail
  go_loopw [13] (fun t W => ∃ k : Nat, k ≤ ms.length ∧ t = .int .i64 k ∧ Hid (Below W1.heap.size W1 W)) (fun t _ => ms.length - (intOf t).toNat)
  case atStart => exact ⟨0, by omega, rfl, Lib.hid (bref _)⟩
  case round =>
    obtain ⟨k, hk, rfl, hB⟩ := hrel
    by_cases hlt : k < ms.length
    · obtain ⟨m, hm⟩ : ∃ m, ms[k]? = some m := ⟨_, List.getElem?_eq_getElem hlt⟩
      obtain ⟨b, off, t, A1, n1, c1, A2, n2, c2, rfl, hP, hbl, e0, e1, e2, e3, hT⟩ := memBox (H.out.below hB.out) hm
      have hmo := HOK.out m (List.mem_of_getElem? hm)
      have HM1 := Lib.hid hmo.1
      have HM2 := Lib.hid hmo.2
      obtain ⟨dec, T⟩ := m
      have hba := balloc (bref wr) (.cells #[.bool dec, .int .i64 t, .slice A1 n1 c1, .slice A2 n2 c2] 75)
      have k1 : (wr.alloc (.cells #[.bool dec, .int .i64 t, .slice A1 n1 c1, .slice A2 n2 c2] 75)).heap[wr.heap.size]? = some (.cells #[.bool dec, .int .i64 t, .slice A1 n1 c1, .slice A2 n2 c2] 75 (0, 0)) := alloc_at rfl
      have K1 := Lib.hid k1
      have hTA := hT.below hba
      have HBA := Lib.hid (bstep hB.out hba)
      clear hm hT hmo hba k1
      go_upto_region 6 with fail
      generalize wr.alloc (.cells #[.bool dec, .int .i64 t, .slice A1 n1 c1, .slice A2 n2 c2] 75) = W3 at *
      generalize wr.heap.size = r at *
      have c4 : W3.cell? ⟨g, 0, none⟩ = some (.slice (some ⟨b, off, none⟩) ms.length c) := (HBA.out.cell hgl).trans (cell_of_row _ _ 0 _ _ (0, 0) K0.out)
      have r0 : W3.cell? ⟨r, 0, none⟩ = some (.bool dec) := cell_of_row _ _ 0 _ _ (0, 0) K1.out
      have r1 : W3.cell? ⟨r, 1, none⟩ = some (.int .i64 t) := cell_of_row _ _ 1 _ _ (0, 0) K1.out
      have r2 : W3.cell? ⟨r, 2, none⟩ = some (.slice A1 n1 c1) := cell_of_row _ _ 2 _ _ (0, 0) K1.out
      have r3 : W3.cell? ⟨r, 3, none⟩ = some (.slice A2 n2 c2) := cell_of_row _ _ 3 _ _ (0, 0) K1.out
      clear e0 e1 e2 e3 c0
      cases dec
      · obtain rfl := HM2.out rfl
        obtain ⟨ht, _, _, hN, hL⟩ := hTA.parts
        obtain ⟨A3, c3, hv1⟩ := hN.slice
        obtain ⟨A4, c5, hv2⟩ := hL.slice
        cases ht
        cases hv1
        cases hv2
        clear hTA hN hL
        go_wp2_with fail
        refine (rsame0_run _ _ _ _ _ _ _ _ _).mono ?_
        rintro e w4 ⟨rfl, hb4⟩
        have HB4 := Lib.hid (bstep HBA.out hb4)
        clear hb4 c4 r0 r1 r2 r3
        go_wp2_with fail
        go_roundw
        case rel => exact ⟨k + 1, by omega, by go_num, HB4⟩
        case measure => simp [intOf]; omega
      · have HW := Lib.hid (HM1.out rfl)
        have HT := Lib.hid hTA
        have HU := Lib.hid (ltpow_of_bits _ ms.length (usesT_sub hl 2 T HW.out))
        have hul := usesT_lt 2 T
        have hpw : IntKind.i64.wrap (2 ^ ms.length) = ((2 ^ ms.length : Nat) : Int) := pow11' ms.length (by omega)
        have HPW := Lib.hid hpw
        clear hTA hpw
        go_wp2_with fail
        refine (rtvalid_run P ms.length (by omega) 2 (by omega) T _ _ _ _ HT.out HW.out (sizeT2_le HW.out)).mono ?_
        rintro e w4 ⟨rfl, hb4⟩
        have HS4 := Lib.hid (stKeep (⟨c4, r1, r2, r3, HT.out, HBA.out⟩) hb4)
        clear hb4 c4 r0 r1 r2 r3
        go_upto_region 12 with fail
        have hS := Lib.hid (stKeep HS4.out (bdrew' w4))
        have hpw := HPW.out
        obtain ⟨N, hN⟩ : ∃ N, 2 ^ ms.length = N := ⟨_, rfl⟩
        have HN := Lib.hid hN
        have huN := HU.out
        rw [hN] at hpw huN
        obtain ⟨U, hUq⟩ : ∃ U, usesT 2 T = U := ⟨_, rfl⟩
        have HUU := Lib.hid hUq
        rw [hUq] at huN hul
        have hge : ((N : Int) ≤ (U : Int)) = False := by simp; omega
        clear hN hUq huN
        refine wp_region_noPanic ?_
        refine wp_region_held_drew (S := fun W => W.cell? ⟨g, 0, none⟩ = some (.slice (some ⟨b, off, none⟩) ms.length c) ∧ W.cell? ⟨r, 1, none⟩ = some (.int .i64 t) ∧ W.cell? ⟨r, 2, none⟩ = some (.slice A1 n1 c1) ∧ W.cell? ⟨r, 3, none⟩ = some (.slice A2 n2 c2) ∧ TAt P 2 W (.int .i64 t) (.slice A1 n1 c1) (.slice A2 n2 c2) T ∧ Below W1.heap.size W1 W) (by kernel_rfl) hS.out (fun hHeld => ?_)
        refine take_d (some 31) (i := 0) (v := ?_) rfl rfl (by kernel_rfl) (by kernel_rfl) (by kernel_rfl) (fun _ _ _ h => h) (Or.inl ⟨by rfl, ?_⟩) (by assumption) ?_
        rotate_left
        · intro w hSw; (try dsimp only at hSw); go_simp; (try with_reducible rfl)
        try simp only [Act.put, List.setIfInBounds_toArray, List.set_cons_zero, List.set_cons_succ]
        refine take_d (some 32) (i := 1) (v := ?_) rfl rfl (by kernel_rfl) (by kernel_rfl) (by kernel_rfl) (fun _ _ _ h => h) (Or.inl ⟨by rfl, ?_⟩) (by assumption) ?_
        rotate_left
        · intro w hSw; (try dsimp only at hSw); go_simp; (try with_reducible rfl)
        try simp only [Act.put, List.setIfInBounds_toArray, List.set_cons_zero, List.set_cons_succ]
        refine take_d (some 34) (i := 3) (v := ?_) rfl rfl (by kernel_rfl) (by kernel_rfl) (by kernel_rfl) (fun _ _ _ h => h) (Or.inl ⟨by rfl, ?_⟩) (by assumption) ?_
        rotate_left
        · intro w hSw; (try dsimp only at hSw); go_simp; (try with_reducible rfl)
        try simp only [Act.put, List.setIfInBounds_toArray, List.set_cons_zero, List.set_cons_succ]
        refine take_d (some 35) (i := 4) (v := ?_) rfl rfl (by kernel_rfl) (by kernel_rfl) (by kernel_rfl) (fun _ _ _ h => h) (Or.inl ⟨by rfl, ?_⟩) (by assumption) ?_
        rotate_left
        · intro w hSw; (try dsimp only at hSw); go_simp; (try with_reducible rfl)
        try simp only [Act.put, List.setIfInBounds_toArray, List.set_cons_zero, List.set_cons_succ]
        refine take_d (some 36) (i := 5) (v := ?_) rfl rfl (by kernel_rfl) (by kernel_rfl) (by kernel_rfl) (fun _ _ _ h => h) (Or.inl ⟨by rfl, ?_⟩) (by assumption) ?_
        rotate_left
        · intro w hSw; (try dsimp only at hSw); go_simp; (try with_reducible rfl)
        try simp only [Act.put, List.setIfInBounds_toArray, List.set_cons_zero, List.set_cons_succ]
        refine take_d (some 37) (i := 6) (v := ?_) rfl rfl (by kernel_rfl) (by kernel_rfl) (by kernel_rfl) (fun _ _ _ h => h) (Or.inl ⟨by rfl, ?_⟩) (by assumption) ?_
        rotate_left
        · intro w hSw; (try dsimp only at hSw); go_simp; (try with_reducible rfl)
        try simp only [Act.put, List.setIfInBounds_toArray, List.set_cons_zero, List.set_cons_succ]
        refine wpAnyH_ready (rs := [2]) (by kernel_rfl) (by simp) ?_
        refine AllReadyH.cons rfl (fun K hK => ?_) AllReadyH.nil
        go_simp
        refine (ruses_run P 2 T _ _ _ _ (stT (by assumption))).mono ?_; rintro e WK ⟨rfl, hbK⟩; have hSK := stKeep (by assumption) hbK; rw [HUU.out]
        go_wp2_with fail
        refine hK.out _ _ ?_ (fun hHeld => ?_)
        · exact hSK
        clear hK K
        try simp only [Act.put, List.setIfInBounds_toArray, List.set_cons_zero, List.set_cons_succ]
        refine take_d (some 38) (i := 7) (v := ?_) rfl rfl (by kernel_rfl) (by kernel_rfl) (by kernel_rfl) (fun _ _ _ h => h) (Or.inl ⟨by rfl, ?_⟩) (by assumption) ?_
        rotate_left
        · intro w hSw; (try dsimp only at hSw); go_simp; (try with_reducible rfl)
        try simp only [Act.put, List.setIfInBounds_toArray, List.set_cons_zero, List.set_cons_succ]
        refine wpAnyH_done (by kernel_rfl) ?_ _
        refine NoPanic.normal ?_
        have HB6 := Lib.hid (hSK.2.2.2.2.2)
        clear hSK hHeld hS
        go_wp2_with fail
        go_roundw
        case rel => exact ⟨k + 1, by omega, by go_num, HB6⟩
        case measure => simp [intOf]; omega
    · obtain rfl : k = ms.length := by omega
      go_wp2_with fail
      go_ret
      exact ⟨rfl, by
        have h1 := HB.out
        rw [← HG.out] at h1
        exact bstep h1 hB.out⟩

/-- What the reference's Holds returns. -/
def RHolds (ms : List Mem) (e : Ending) : Prop := ∃ b : Bool, e = .returned (.tuple #[.bool b, .int .i64 0]) ∧ (b = true ↔ ∀ t, ¬ Apart 2 ms t)

set_option maxRecDepth 100000 in
set_option maxHeartbeats 1000000 in
theorem rholds_run (P : Nat → Prop) (ms : List Mem) (v : Value) (w : World) (hl : ms.length ≤ 10) (h : MemsAt P 2 w v ms) (hok : MemsOk ms.length ms) :
    Calls Tryz.prog 27 #[.agg #[v]] w fun e w' => RHolds ms e ∧ Below w.heap.size w w' := by
  obtain ⟨A, c, rfl⟩ := h.slice
  have hb1 : Below w.heap.size w (w.alloc (.cells #[.slice A ms.length c] 27)) := balloc (bref w) _
  have k0 : (w.alloc (.cells #[.slice A ms.length c] 27)).heap[w.heap.size]? = some (.cells #[.slice A ms.length c] 27 (0, 0)) := alloc_at rfl
  have H := Lib.hid (h.below hb1)
  have HB := Lib.hid hb1
  have K0 := Lib.hid k0
  have HOK := Lib.hid hok
  clear h hb1 k0 hok
  go_enter Tryz.func27, Tryz.ntmps27
  go_upto_region 1 with fail
  generalize w.alloc (.cells #[.slice A ms.length c] 27) = W1 at *
  generalize hg : w.heap.size = g at *
  have HG := Lib.hid hg
  clear hg
  have c0 : W1.cell? ⟨g, 0, none⟩ = some (.slice A ms.length c) := cell_of_row _ _ 0 _ _ (0, 0) K0.out
  have hgl := cell_lt c0
  have HBw := Lib.hid (show Below w.heap.size w W1 by rw [HG.out]; exact HB.out)
  go_wp2_with fail
  refine (rcvalid_run _ ms _ _ hl H.out HOK.out).mono ?_
  rintro e W2 ⟨rfl, hb2⟩
  have c2 := (hb2.cell hgl).trans c0
  have HB2 := Lib.hid hb2
  clear hb2 c0
  go_wp2_with fail
  refine (rapart_run _ 2 ms _ _ hl (H.out.below HB2.out)).mono ?_
  rintro e W3 ⟨hA, hb3⟩
  have HZ := Lib.hid (bstep HBw.out (bstep HB2.out hb3))
  clear hb3 c2
  rcases hA with ⟨a, b, rfl, hap⟩ | ⟨rfl, hno⟩
  · have ha0 : ((a : Int) == 0) = false := by rw [beq_eq_false_iff_ne]; have := hap.1.1; omega
    have HR := Lib.hid (show RHolds ms (.returned (.tuple #[.bool false, .int .i64 0])) from ⟨false, rfl, fun h => (by cases h), fun h => (h a hap).elim⟩)
    clear hap
    go_wp2_with fail
    go_ret2
    exact ⟨HR.out, HZ.out⟩
  · have HR := Lib.hid (show RHolds ms (.returned (.tuple #[.bool true, .int .i64 0])) from ⟨true, rfl, fun _ => hno, fun _ => rfl⟩)
    clear hno
    go_wp2_with fail
    go_ret2
    exact ⟨HR.out, HZ.out⟩

end Go.Proofs.YtacpfcckilnbfaaGreat

namespace Go.Proofs.YtacpfcckilnbfaaGreat
set_option linter.unusedVariables false
set_option linter.unusedSimpArgs false
open Go.RowKit

def thrOf : Tree → Int | .mk t _ _ => t

def deadT (T : Tree) : Bool := decide (thrOf T ≤ 0)

/-- A trust without the nodes of a set. -/
def lessT (s : Nat) : Nat → Tree → Tree
  | 0, T => T
  | d + 1, .mk thr ns is => .mk ((thr.toNat - cnt (hasB (s : Int)) ns - cnt deadT (is.map (lessT s d)) : Nat) : Int) (ns.filter (fun k => !hasB (s : Int) k)) ((is.map (lessT s d)).filter (fun T => !deadT T))

/-- A trust after the deletion of a set at a node. -/
def delT (s k d : Nat) (T : Tree) : Tree := if deadT (lessT s d T) then .mk 1 [(k : Int)] [] else lessT s d T

def delOne (s k : Nat) (m : Mem) : Mem := if hasB (s : Int) (k : Int) then (false, .mk 0 [] []) else if m.1 then (true, delT s k 2 m.2) else m

def delM (s : Nat) (ms : List Mem) : List Mem := ms.mapIdx (fun k m => delOne s k m)

theorem delM_len (s : Nat) (ms : List Mem) : (delM s ms).length = ms.length := by unfold delM; simp

theorem delM_get {s : Nat} {ms : List Mem} {k : Nat} {m : Mem} (h : ms[k]? = some m) : (delM s ms)[k]? = some (delOne s k m) := by
  unfold delM
  rw [List.getElem?_mapIdx, h]; rfl

theorem cnt_two {α : Type} (p : α → Bool) (l : List α) : cnt p l + (l.filter (fun x => !p x)).length = l.length := by
  induction l with
  | nil => rfl
  | cons x l ih =>
    unfold cnt at *
    rw [List.filter_cons, List.filter_cons]
    cases hp : p x
    · simp; omega
    · simp; omega

theorem less_wf {n : Int} {s : Nat} : ∀ (d : Nat) (T : Tree), WF n d T → deadT (lessT s d T) = false → WF n d (lessT s d T)
  | 0, T, w, _ => w.elim
  | d + 1, .mk thr ns is, w, hd => by
    obtain ⟨h1, h2, h3, h4, h5, h6, hi⟩ := w
    have hd : ¬ (((thr.toNat - cnt (hasB (s : Int)) ns - cnt deadT (is.map (lessT s d)) : Nat)) : Int) ≤ 0 := of_decide_eq_false hd
    have e1 := cnt_two (hasB (s : Int)) ns
    have e2 := cnt_two deadT (is.map (lessT s d))
    rw [List.length_map] at e2
    refine ⟨by omega, by omega, Nat.le_trans (List.length_filter_le _ _) h3, by omega, fun x hx => h5 x (List.mem_filter.1 hx).1, h6.filter _, fun T hT => ?_⟩
    obtain ⟨hm, hdt⟩ := List.mem_filter.1 hT
    obtain ⟨T0, h0, rfl⟩ := List.mem_map.1 hm
    exact less_wf d T0 (hi T0 h0) (by simpa using hdt)

theorem delT_wf {n : Int} {s k d : Nat} {T : Tree} (hk : (k : Int) < n) (h : WF n (d + 1) T) : WF n (d + 1) (delT s k (d + 1) T) := by
  unfold delT
  cases hd : deadT (lessT s (d + 1) T)
  · exact less_wf _ _ h hd
  · exact (Fine.single (D := d) (n := n) (r := (k : Int)) (by omega) hk).1

theorem delM_ok {s : Nat} {ms : List Mem} (h : MemsOk ms.length ms) : MemsOk (delM s ms).length (delM s ms) := by
  intro x hx
  obtain ⟨k, hk, he⟩ := List.getElem_of_mem hx
  rw [delM_len] at hk ⊢
  have hm : ms[k]? = some ms[k] := List.getElem?_eq_getElem hk
  have h1 := delM_get (s := s) hm
  rw [List.getElem?_eq_getElem (by rw [delM_len]; exact hk), he] at h1
  have hx1 : x = delOne s k ms[k] := Option.some.inj h1
  have h0 := h ms[k] (List.getElem_mem hk)
  rw [hx1]
  unfold delOne
  cases hb : hasB (s : Int) (k : Int)
  · simp only [Bool.false_eq_true, if_false]
    cases hd : ms[k].1
    · simp only [Bool.false_eq_true, if_false]; exact h0
    · simp only [if_true]
      exact ⟨fun _ => delT_wf (by omega) (h0.1 hd), fun h => (by cases h)⟩
  · simp only [if_true]
    exact ⟨fun h => (by cases h), fun _ => trivial⟩

theorem declS_iff {ms : List Mem} (k : Nat) : ∀ (n : Nat), (declS ms n).testBit k = (decide (k < n) && (ms.getD k (false, .mk 0 [] [])).1)
  | 0 => by simp [declS]
  | n + 1 => by
    have ih := declS_iff (ms := ms) k n
    unfold declS
    by_cases hkn : k = n
    · subst hkn
      cases hd : (ms.getD k (false, .mk 0 [] [])).1
      · rw [if_neg (by simp), ih]; simp [hd]
      · rw [if_pos rfl, Nat.testBit_or, Nat.testBit_two_pow_self]; simp
    · have e : decide (k < n + 1) = decide (k < n) := by rw [decide_eq_decide]; omega
      rw [e]
      split
      · rw [Nat.testBit_or, ih, Nat.testBit_two_pow_of_ne (by omega)]; simp
      · exact ih

def minS (q s : Nat) : Nat := q ^^^ (q &&& s)

theorem minS_bit (q s k : Nat) : (minS q s).testBit k = (q.testBit k && !s.testBit k) := by
  unfold minS
  rw [Nat.testBit_xor, Nat.testBit_and]
  cases q.testBit k <;> cases s.testBit k <;> rfl

theorem minS_lt {q s : Nat} (h : q < 1024) : minS q s < 1024 := Nat.xor_lt_two_pow (n := 10) h (Nat.lt_of_le_of_lt Nat.and_le_left h)

end Go.Proofs.YtacpfcckilnbfaaGreat

namespace Go.Proofs.YtacpfcckilnbfaaGreat
set_option linter.unusedVariables false
set_option linter.unusedSimpArgs false
open Go.RowKit

/-- Member k of the restricted configuration. -/
def resM (s : Nat) (ms : List Mem) (k : Nat) : Mem := if s.testBit k then ms.getD k (false, .mk 0 [] []) else (false, .mk 0 [] [])

def restM (s : Nat) (ms : List Mem) (n : Nat) : List Mem := (List.range n).map (resM s ms)

end Go.Proofs.YtacpfcckilnbfaaGreat

namespace Go.Proofs.YtacpfcckilnbfaaGreat
set_option linter.unusedVariables false
set_option linter.unusedSimpArgs false
open Go.RowKit

/-- Members in a row of its own, with trusts that lie below B0. -/
def RowT (B0 B d : Nat) (W : World) (v : Value) (rs : List Mem) : Prop :=
  ∃ cs : List Value, W.ownsRow B 75 4 v rs.length cs ∧ ∀ k m, rs[k]? = some m → ∃ x0 x1 x2, cs[k * 4]? = some (.bool m.1) ∧ cs[k * 4 + 1]? = some x0 ∧ cs[k * 4 + 2]? = some x1 ∧ cs[k * 4 + 3]? = some x2 ∧ TAt (fun b => b < B0) d W x0 x1 x2 m.2

theorem RowT.keep {B0 B d : Nat} {W W' : World} {v : Value} {rs : List Mem} (h : RowT B0 B d W v rs) (hk : ∀ q, q < W.heap.size → (q < B0 ∨ B ≤ q) → W'.heap[q]? = W.heap[q]?) : RowT B0 B d W' v rs := by
  obtain ⟨cs, h1, h2⟩ := h
  refine ⟨cs, own_keepG h1 (fun j _ hB hl => hk j hl (.inr hB)), fun k m hm => ?_⟩
  obtain ⟨x0, x1, x2, e0, e1, e2, e3, e4⟩ := h2 k m hm
  exact ⟨x0, x1, x2, e0, e1, e2, e3, e4.keep (fun q hq hP => hk q hq (.inl hP))⟩

theorem RowT.mems {B0 B d : Nat} {W : World} {v : Value} {rs : List Mem} (h : RowT B0 B d W v rs) : MemsAt (fun _ => True) d W v rs := by
  obtain ⟨cs, h1, h2⟩ := h
  rcases h1.2 with ⟨hv, h0⟩ | ⟨g, cap, cur, hv, hb, _⟩
  · exact ⟨none, 0, by rw [hv, h0], fun k T hT => by have := (List.getElem?_eq_some_iff.1 hT).1; omega⟩
  · refine ⟨some ⟨g, 0, none⟩, cap, hv, fun k m hm => ?_⟩
    obtain ⟨x0, x1, x2, e0, e1, e2, e3, e4⟩ := h2 k m hm
    have c : ∀ j u, cs[j]? = some u → W.cell? ⟨g, 0 + j, none⟩ = some u := fun j u hu => by
      have := h1.cells (g := g) (by rw [hv]; rfl) j u hu
      rwa [Addr.add_lit] at this
    exact ⟨g, 0, x0, x1, x2, rfl, trivial, c _ _ e0, by rw [Nat.add_assoc]; exact c _ _ e1, by rw [Nat.add_assoc]; exact c _ _ e2, by rw [Nat.add_assoc]; exact c _ _ e3, e4.imp (fun q _ hq => trivial)⟩

end Go.Proofs.YtacpfcckilnbfaaGreat

namespace Go.Proofs.YtacpfcckilnbfaaGreat
set_option linter.unusedVariables false
set_option linter.unusedSimpArgs false
open Go.RowKit

set_option maxHeartbeats 400000 in
theorem rlower_run (n : Nat) (hn : n ≤ 1000000) (w : World) : Calls Tryz.prog 131 #[.int .i64 (n : Int)] w fun e w' => e = .returned (.int .i64 ((n - 1 : Nat) : Int)) ∧ w = w' := by
  rcases n with _ | m
  · go_enter Tryz.func131, Tryz.ntmps131
    go_wp2_with fail
    go_ret
    exact ⟨rfl, rfl⟩
  · have h0 : ¬ ((m + 1 : Nat) : Int) ≤ 0 := by omega
    have hw : wrap64 (((m + 1 : Nat) : Int) - 1) = (m : Int) := by unfold wrap64; omega
    generalize hq : ((m + 1 : Nat) : Int) = q at *
    have HW := Lib.hid hw
    clear hw hq
    go_enter Tryz.func131, Tryz.ntmps131
    go_wp2_with fail
    go_ret
    exact ⟨by rw [HW.out]; rfl, rfl⟩

def fN (s : Nat) (l : List Int) : List Int := l.filter (fun k => !hasB (s : Int) k)

def fI (s d : Nat) (l : List Tree) : List Tree := (l.map (lessT s d)).filter (fun T => !deadT T)

theorem fN_len (s : Nat) (l : List Int) : (fN s l).length ≤ l.length := List.length_filter_le _ _

theorem fI_len (s d : Nat) (l : List Tree) : (fI s d l).length ≤ l.length := Nat.le_trans (List.length_filter_le _ _) (by simp)

theorem take_one {α : Type} {l : List α} {j : Nat} {x : α} (h : l[j]? = some x) : l.take (j + 1) = l.take j ++ [x] := by
  rw [List.take_add_one, h]; rfl

theorem fN_take {s : Nat} {l : List Int} {j : Nat} {x : Int} (h : l[j]? = some x) : fN s (l.take (j + 1)) = fN s (l.take j) ++ (if hasB (s : Int) x then [] else [x]) := by
  unfold fN
  rw [take_one h, List.filter_append]
  cases hb : hasB (s : Int) x <;> simp [List.filter_cons, hb]

theorem fI_take {s d : Nat} {l : List Tree} {j : Nat} {x : Tree} (h : l[j]? = some x) : fI s d (l.take (j + 1)) = fI s d (l.take j) ++ (if deadT (lessT s d x) then [] else [lessT s d x]) := by
  unfold fI
  rw [take_one h, List.map_append, List.filter_append]
  cases hb : deadT (lessT s d x) <;> simp [List.filter_cons, hb]

theorem cnt_take1 {α : Type} {p : α → Bool} {l : List α} {j : Nat} {x : α} (h : l[j]? = some x) : cnt p (l.take (j + 1)) = cnt p (l.take j) + (if p x then 1 else 0) := cnt_take_succ p l j x h

theorem TAt.thr {P : Nat → Prop} {d : Nat} {w : World} {t : Int} {v1 v2 : Value} {T : Tree} (h : TAt P d w (.int .i64 t) v1 v2 T) : thrOf T = t := by
  cases d with
  | zero => exact h.elim
  | succ d =>
    obtain ⟨thr, ns, is⟩ := T
    obtain ⟨h1, _⟩ := h.parts
    injection h1 with _ h2
    exact h2.symm

/-- The contract of less. -/
def LessC (s d : Nat) : Prop := ∀ (P : Nat → Prop) (n : Int) (T : Tree) (x0 x1 x2 : Value) (w : World), TAt P d w x0 x1 x2 T → WF n d T →
    Calls Tryz.prog 106 #[.agg #[x0, x1, x2], .int .i64 (s : Int)] w fun e w' => ∃ y0 y1 y2, e = .returned (.agg #[y0, y1, y2]) ∧ TAt (fun b => w.heap.size ≤ b) d w' y0 y1 y2 (lessT s d T) ∧ Below w.heap.size w w'

set_option maxRecDepth 100000 in
set_option maxHeartbeats 8000000 in
theorem less_step (s d : Nat) (hs : s < 1024) (ih : LessC s d) : LessC s (d + 1) := by
  intro P n T x0 x1 x2 w h hWF
  obtain ⟨thr, ns, is⟩ := T
  obtain ⟨i0, hin, hz0, hz1, hz2⟩ := info_parts infoInt
  obtain ⟨i3, hi3, hy0, hy1, hy2⟩ := info_parts infoTrust
  obtain ⟨rfl, hn, hi, hN, hL⟩ := h.parts
  obtain ⟨A, c, rfl⟩ := hN.slice
  obtain ⟨B, c', rfl⟩ := hL.slice
  obtain ⟨ht0, ht1, hl10, hl3, _, _, hWi⟩ := hWF
  obtain ⟨t0, rfl⟩ := Int.eq_ofNat_of_zero_le (show 0 ≤ thr by omega)
  have HWI := Lib.hid hWi
  have HT1 := Lib.hid (show t0 ≤ 13 by omega)
  clear ht1
  have HI := Lib.hid ih
  have hb3 : Below w.heap.size w (((w.alloc (.cells #[.int .i64 (t0 : Int), .slice A ns.length c, .slice B is.length c'] 73)).alloc (.cells #[.int .i64 0, .slice none 0 0, .slice none 0 0] 73)).alloc (.cells #[.int .i64 (t0 : Int), .slice none 0 0, .slice none 0 0] 73)) := balloc (balloc (balloc (bref w) _) _) _
  have k0 : (((w.alloc (.cells #[.int .i64 (t0 : Int), .slice A ns.length c, .slice B is.length c'] 73)).alloc (.cells #[.int .i64 0, .slice none 0 0, .slice none 0 0] 73)).alloc (.cells #[.int .i64 (t0 : Int), .slice none 0 0, .slice none 0 0] 73)).heap[w.heap.size]? = some (.cells #[.int .i64 (t0 : Int), .slice A ns.length c, .slice B is.length c'] 73 (0, 0)) := alloc_on (alloc_on (alloc_at rfl))
  have k1 : OutAt (((w.alloc (.cells #[.int .i64 (t0 : Int), .slice A ns.length c, .slice B is.length c'] 73)).alloc (.cells #[.int .i64 0, .slice none 0 0, .slice none 0 0] 73)).alloc (.cells #[.int .i64 (t0 : Int), .slice none 0 0, .slice none 0 0] 73)) (w.heap.size + 1) 0 (.slice none 0 0) (.slice none 0 0) := alloc_on (alloc_at (alloc_sz _ _))
  have k2 : OutAt (((w.alloc (.cells #[.int .i64 (t0 : Int), .slice A ns.length c, .slice B is.length c'] 73)).alloc (.cells #[.int .i64 0, .slice none 0 0, .slice none 0 0] 73)).alloc (.cells #[.int .i64 (t0 : Int), .slice none 0 0, .slice none 0 0] 73)) (w.heap.size + 2) (t0 : Int) (.slice none 0 0) (.slice none 0 0) := alloc_at (by rw [alloc_sz, alloc_sz])
  have hsz : (((w.alloc (.cells #[.int .i64 (t0 : Int), .slice A ns.length c, .slice B is.length c'] 73)).alloc (.cells #[.int .i64 0, .slice none 0 0, .slice none 0 0] 73)).alloc (.cells #[.int .i64 (t0 : Int), .slice none 0 0, .slice none 0 0] 73)).heap.size = w.heap.size + 3 := by rw [alloc_sz, alloc_sz, alloc_sz]
  have HN := Lib.hid ((hN.both (Q := fun b => b < w.heap.size) (fun _ _ _ => rfl) (fun k hk _ => hk)).below hb3)
  have HL := Lib.hid ((hL.both (Q := fun b => b < w.heap.size) (fun _ _ _ => rfl) (fun k hk _ => hk)).below hb3)
  have HB := Lib.hid hb3
  have K0 := Lib.hid k0
  have K1 := Lib.hid k1
  have K2 := Lib.hid k2
  clear h hb3 k0 k1 k2 hN hL hWi ih
  go_enter Tryz.func106, Tryz.ntmps106
  go_upto_region 2 with fail
  generalize (((w.alloc (.cells #[.int .i64 (t0 : Int), .slice A ns.length c, .slice B is.length c'] 73)).alloc (.cells #[.int .i64 0, .slice none 0 0, .slice none 0 0] 73)).alloc (.cells #[.int .i64 (t0 : Int), .slice none 0 0, .slice none 0 0] 73)) = W1 at *
  generalize hg : w.heap.size = g at *
  have HG := Lib.hid hg
  clear hg
  have b1 : W1.cell? ⟨g, 1, none⟩ = some (.slice A ns.length c) := cell_of_row _ _ 1 _ _ (0, 0) K0.out
  go_wp2_with fail
  clear b1
  go_loopw [17] (fun t W => ∃ (j : Nat) (v : Value), j ≤ ns.length ∧ t = .int .i64 j ∧ W.ownsRow (g + 3) 3 1 v (fN s (ns.take j)).length ((fN s (ns.take j)).map (Value.int .i64)) ∧ Hid (OutAt W (g + 2) ((t0 - cnt (hasB (s : Int)) (ns.take j) : Nat) : Int) v (.slice none 0 0)) ∧ Hid (W1.grownBy W (some (g + 2)))) (fun t _ => ns.length - (intOf t).toNat)
  case atStart => exact ⟨0, .slice none 0 0, by omega, rfl, World.ownsRow_nil _ _ _ _, K2, Lib.hid (World.grownBy.refl _ _)⟩
  case round =>
    obtain ⟨j, v, hj, rfl, hown, hO, hGr⟩ := hrel
    have hwr := hGr.out.size
    obtain ⟨o0, o1, o2⟩ := hO.out.cs
    have of0 := hO.out.fr 0
    have of1 := hO.out.fr 1
    have hol := hO.out.lt
    by_cases hlt : j < ns.length
    · obtain ⟨An, cn, hAn, hNc⟩ := HN.out
      injection hAn with hA1 hA2 hA3
      subst hA1
      subst hA3
      obtain ⟨b, off, rfl, hP, hc⟩ := hNc j hlt
      have hx0 : ns[j]? = some (ns.getD j 0) := by rw [List.getD_eq_getElem?_getD, List.getElem?_eq_getElem hlt]; rfl
      generalize ns.getD j 0 = x at *
      have d1 := (World.cell?_of_block (a := ⟨b, off + j, none⟩) (hGr.out.block b (by omega) (by simp; omega))).trans hc
      have HC := Lib.hid (cnt_take1 (p := hasB (s : Int)) hx0)
      have HF := Lib.hid (fN_take (s := s) hx0)
      have hfl := Nat.le_trans (fN_len s (ns.take j)) (by rw [List.length_take]; exact Nat.min_le_right _ _)
      clear hc hNc hx0
      cases hb : hasB (s : Int) x
      · rw [hb] at HC HF
        rw [if_neg (by simp)] at HC HF
        go_wp2_with fail
        refine (rhas_run _ _ _).mono ?_
        rintro e w2 ⟨rfl, rfl⟩
        rw [hb]
        have HOB := Lib.hid (fun (q : Nat) (hq : v.ownBlock = some q) => (hown.lt q hq).1)
        go_wp2_with (at_builtin; refine wpList_append_own _ rfl _ _ 22 rfl (g + 3) 3 i0 (.int .i64 0) 1 8 Tryz.underlying22 hin hz0 hz1 hz2 rfl (by decide) _ _ _ rfl (hown.alloc _) ⟨wr.heap.size, 0, none⟩ 1 1 [.int .i64 x] rfl rfl (cell_one_new _ _ _) (fun u hu => by simp at hu; subst hu; rfl) (by unfold maxLen; omega) (by omega) (by simp; omega) ?_; intro v' W2 hown' hgrow hnil; obtain ⟨gq, cq, rfl, hgq, hlq⟩ := hown'.form (by omega); have hO3 := hO.out.keep ((hgrow.block _ (by simp; omega) (fun e => by have := HOB.out _ e.symm; omega)).trans (Below.heap_alloc _ _ _ hol)); obtain ⟨p0, p1, p2⟩ := hO3.cs; have pf1 := hO3.fr 1)
        have hown4 := hown'.kept (gset1 W2 ⟨g + 2, 1, none⟩ (.slice (some ⟨gq, 0, none⟩) ((fN s (ns.take j)).length + 1) cq)) (.inr (by simp [Value.ownBlock]; omega))
        have HOW4 := Lib.hid (own_snoc hown4)
        have HG3 := Lib.hid (grown_at (gown (grown_trans hGr.out (grown_below (balloc (bref wr) (.cells #[.int .i64 x] 3)))) hgrow (fun q hq => by have := HOB.out q hq; omega)) 1 (.slice (some ⟨gq, 0, none⟩) ((fN s (ns.take j)).length + 1) cq))
        have HO4 := Lib.hid (hO3.set1 (.slice (some ⟨gq, 0, none⟩) ((fN s (ns.take j)).length + 1) cq))
        clear hown' hgrow hnil hown hown4
        go_roundw
        case rel => exact ⟨j + 1, _, by omega, by go_num, by rw [HF.out]; simpa using HOW4.out, by rw [HC.out]; exact HO4, HG3⟩
        case measure => simp [intOf]; omega
      · rw [hb] at HC HF
        rw [if_pos rfl] at HC HF
        have HOWN := Lib.hid hown
        have hlow : t0 - cnt (hasB (s : Int)) (ns.take j) ≤ 1000000 := by have := HT1.out; omega
        have HSUB := Lib.hid (show t0 - cnt (hasB (s : Int)) (ns.take (j + 1)) = t0 - cnt (hasB (s : Int)) (ns.take j) - 1 by have := HC.out; omega)
        generalize t0 - cnt (hasB (s : Int)) (ns.take j) = m0 at *
        go_wp2_with fail
        refine (rhas_run _ _ _).mono ?_
        rintro e w2 ⟨rfl, rfl⟩
        rw [hb]
        go_wp2_with fail
        refine (rlower_run m0 hlow _).mono ?_
        rintro e w2 ⟨rfl, rfl⟩
        have HO4 := Lib.hid (hO.out.set0 ((m0 - 1 : Nat) : Int))
        have HG3 := Lib.hid (grown_at hGr.out 0 (.int .i64 ((m0 - 1 : Nat) : Int)))
        have HOW4 := Lib.hid (HOWN.out.kept (gset1 wr ⟨g + 2, 0, none⟩ (.int .i64 ((m0 - 1 : Nat) : Int))) (own_below HOWN.out (by simp)))
        clear hown
        go_wp2_with fail
        go_roundw
        case rel => exact ⟨j + 1, v, by omega, by go_num, by rw [HF.out, List.append_nil]; exact HOW4.out, by rw [HSUB.out]; exact HO4, HG3⟩
        case measure => simp [intOf]; omega
    · obtain rfl : j = ns.length := by omega
      rw [List.take_length] at hown hO
      have HTK := Lib.hid (show cnt (hasB (s : Int)) (ns.take ns.length) = cnt (hasB (s : Int)) ns by rw [List.take_length])
      generalize hm0 : t0 - cnt (hasB (s : Int)) ns = m0 at *
      have hm13 : m0 ≤ 13 := by have := HT1.out; omega
      have HM0 := Lib.hid hm0
      clear hm0
      obtain ⟨A1, c1, rfl⟩ := own_slice hown
      have HOWN := Lib.hid hown
      have HO0 := hO
      have HG0 := hGr
      have b2 : wr.cell? ⟨g, 2, none⟩ = some (.slice B is.length c') := (World.cell?_of_block (a := ⟨g, 2, none⟩) (hGr.out.block g (by omega) (by simp))).trans (cell_of_row _ _ 2 _ _ (0, 0) K0.out)
      clear hown of0 of1 o0 o1 o2
      have hL1l := Nat.le_trans (fN_len s ns) hl10
      generalize hL1 : fN s ns = L1 at *
      have HL1 := Lib.hid hL1
      clear hL1
      go_wp2_with fail
      clear b2
      go_loopw [38] (fun t W => ∃ (j : Nat) (v2 : Value), j ≤ is.length ∧ t = .int .i64 j ∧ Hid (W.ownsRow (g + 3) 3 1 (.slice A1 L1.length c1) L1.length (L1.map (Value.int .i64))) ∧ Hid (Inner (g + 3) d W v2 (fI s d (is.take j))) ∧ Hid (OutAt W (g + 2) ((m0 - cnt (fun T => deadT (lessT s d T)) (is.take j) : Nat) : Int) (.slice A1 L1.length c1) v2) ∧ Hid (W1.grownBy W (some (g + 2)))) (fun t _ => is.length - (intOf t).toNat)
      case atStart => exact ⟨0, .slice none 0 0, by omega, rfl, HOWN, Lib.hid (Inner.nil _ _ _), HO0, HG0⟩
      case round =>
        clear HOWN HO0 HG0 hO hGr hwr hol
        obtain ⟨j, v2, hj, rfl, hOW, hInn, hO, hGr⟩ := hrel
        have hwr := hGr.out.size
        obtain ⟨o0, o1, o2⟩ := hO.out.cs
        have of0 := hO.out.fr 0
        have of2 := hO.out.fr 2
        have hol := hO.out.lt
        by_cases hlt : j < is.length
        · obtain ⟨Bn, cn, hBn, hLc⟩ := HL.out
          injection hBn with hA1 hA2 hA3
          subst hA1
          subst hA3
          obtain ⟨T, hT⟩ : ∃ T, is[j]? = some T := ⟨_, List.getElem?_eq_getElem hlt⟩
          obtain ⟨b, off, x0, x1, x2, rfl, hP, e0, e1, e2, hTk⟩ := hLc j T hT
          obtain ⟨t', A', n', ca, B', m', cb, rfl, rfl, rfl⟩ := hTk.form
          have lw := hGr.out.block b (by omega) (by simp; omega)
          have d0 := (World.cell?_of_block (a := ⟨b, off + j * 3, none⟩) lw).trans e0
          have d1 := (World.cell?_of_block (a := ⟨b, off + j * 3 + 1, none⟩) lw).trans e1
          have d2 := (World.cell?_of_block (a := ⟨b, off + j * 3 + 2, none⟩) lw).trans e2
          have hTr : TAt (fun b => b < g) d wr (.int .i64 t') (.slice A' n' ca) (.slice B' m' cb) T := hTk.keep (fun q hq hP => hGr.out.block q hq (by simp; omega))
          have HTb := Lib.hid (hTr.below (balloc (bref wr) (.cells #[.int .i64 t', .slice A' n' ca, .slice B' m' cb] 73)))
          have HWT := Lib.hid (HWI.out T (List.mem_of_getElem? hT))
          have HC := Lib.hid (cnt_take1 (p := fun T => deadT (lessT s d T)) hT)
          have HF := Lib.hid (fI_take (s := s) (d := d) hT)
          have hfl := Nat.le_trans (fI_len s d (is.take j)) (by rw [List.length_take]; exact Nat.min_le_right _ _)
          have HOWB := Lib.hid (fun q (hq : v2.ownBlock = some q) => (hInn.out.own q hq).2)
          have HGr := hGr
          have HO := hO
          clear lw e0 e1 e2 hTr hTk hLc hT hGr hO of0 of2 o0 o1 o2
          go_wp2_with fail
          refine (HI.out _ n T _ _ _ _ HTb.out HWT.out).mono ?_
          rintro e W2 ⟨y0, y1, y2, rfl, hT2, hb2⟩
          obtain ⟨t2, A2, n2, c2, B2, m2, c3, rfl, rfl, rfl⟩ := hT2.form
          have hthr := hT2.thr
          have hbA := balloc (bstep (balloc (bref wr) (.cells #[.int .i64 t', .slice A' n' ca, .slice B' m' cb] 73)) hb2) (.cells #[.int .i64 t2, .slice A2 n2 c2, .slice B2 m2 c3] 73)
          have k3 : (W2.alloc (.cells #[.int .i64 t2, .slice A2 n2 c2, .slice B2 m2 c3] 73)).heap[W2.heap.size]? = some (.cells #[.int .i64 t2, .slice A2 n2 c2, .slice B2 m2 c3] 73 (0, 0)) := alloc_at rfl
          have HT3 := Lib.hid (TAt.both (Q := fun b => wr.heap.size ≤ b) (fun _ _ _ => rfl) (fun q _ hq => by simp at hq; omega) _ _ _ _ _ (hT2.below (balloc (bref W2) (.cells #[.int .i64 t2, .slice A2 n2 c2, .slice B2 m2 c3] 73))))
          have HK3 := Lib.hid k3
          have HO3 := Lib.hid (HO.out.keep (hbA.block _ hol))
          have HOW3 := Lib.hid (own_bel hOW.out hbA)
          have HI3 := Lib.hid (hInn.out.below hbA)
          have HG3 := Lib.hid (grown_trans HGr.out (grown_below hbA))
          have HS3 := Lib.hid hbA.size
          clear hT2 hb2 hbA k3 d0 d1 d2
          go_upto_region 13 with fail
          generalize W2.alloc (.cells #[.int .i64 t2, .slice A2 n2 c2, .slice B2 m2 c3] 73) = W3 at *
          generalize W2.heap.size = r3 at *
          have r0 : W3.cell? ⟨r3, 0, none⟩ = some (.int .i64 t2) := cell_of_row _ _ 0 _ _ (0, 0) HK3.out
          have r1 : W3.cell? ⟨r3, 1, none⟩ = some (.slice A2 n2 c2) := cell_of_row _ _ 1 _ _ (0, 0) HK3.out
          have r2 : W3.cell? ⟨r3, 2, none⟩ = some (.slice B2 m2 c3) := cell_of_row _ _ 2 _ _ (0, 0) HK3.out
          obtain ⟨o0, o1, o2⟩ := HO3.out.cs
          have of0 := HO3.out.fr 0
          have of2 := HO3.out.fr 2
          have hol3 := HO3.out.lt
          cases hdd : deadT (lessT s d T)
          · rw [hdd] at HC HF
            rw [if_neg (by simp)] at HC HF
            have hpos : ¬ t2 ≤ 0 := by unfold deadT at hdd; rw [hthr] at hdd; exact of_decide_eq_false hdd
            obtain ⟨cs, hcs, hcl⟩ := HI3.out
            have hcn := hcs.1
            have HOWI := Lib.hid (fun q (hq : v2.ownBlock = some q) => (hcs.lt q hq).1)
            have HCS3 := Lib.hid hcs
            have HCSA := Lib.hid (hcs.alloc (.cells #[.int .i64 t2, .slice A2 n2 c2, .slice B2 m2 c3] 73))
            have HNEW := Lib.hid (cell_three_new W3 (.int .i64 t2) (.slice A2 n2 c2) (.slice B2 m2 c3) 73)
            have HBA4 := Lib.hid (balloc (bref W3) (.cells #[.int .i64 t2, .slice A2 n2 c2, .slice B2 m2 c3] 73))
            have HSZ4 := Lib.hid (alloc_sz W3 (.cells #[.int .i64 t2, .slice A2 n2 c2, .slice B2 m2 c3] 73))
            have HCL := Lib.hid hcl
            clear hcs hcl hthr hdd
            go_wp2_with (at_builtin; refine wpList_append_lies _ rfl _ _ 71 rfl (g + 3) 73 i3 (.agg #[.int .i64 0, .slice none 0 0, .slice none 0 0]) 3 56 Tryz.underlying71 hi3 hy0 hy1 hy2 rfl (by decide) _ (fI s d (is.take j)).length cs rfl (by exact HCSA.out) ⟨_, 0, none⟩ 1 1 [.int .i64 t2, .slice A2 n2 c2, .slice B2 m2 c3] rfl rfl (by exact HNEW.out) (by intro u hu; simp at hu; rcases hu with rfl | rfl | rfl <;> rfl) (by omega) (by unfold maxLen; omega) (by omega) (by have := HSZ4.out; omega) _ rfl ?_; intro g4 cap4 W5 hown4 hgrow4 hat4 hlt4; have hO5 := HO3.out.keep ((hgrow4.block (g + 2) (by have := HSZ4.out; omega) (fun e => by have := HOWI.out _ e.symm; omega)).trans (HBA4.out.block (g + 2) hol3)); obtain ⟨s0, s1, s2⟩ := hO5.cs; have sf2 := hO5.fr 2)
            have hgB : (W3.alloc (.cells #[.int .i64 t2, .slice A2 n2 c2, .slice B2 m2 c3] 73)).grownBy W5 v2.ownBlock := ⟨hgrow4.os, hgrow4.tape, hgrow4.output, hgrow4.size, hgrow4.block⟩
            have hI5 := Inner.append (W := W3.alloc (.cells #[.int .i64 t2, .slice A2 n2 c2, .slice B2 m2 c3] 73)) (fun k T hT => by
                obtain ⟨z0, z1, z2, e0, e1, e2, e3⟩ := HCL.out k T hT
                exact ⟨z0, z1, z2, e0, e1, e2, e3.below HBA4.out⟩) hcn
              ((HT3.out.below HBA4.out).imp (fun q _ hq => ⟨by omega, fun e => by have := (HCS3.out.lt q e).2; have := HOWB.out q e; omega⟩)) hown4 hgB hat4
            have HI5 := Lib.hid (hI5.setLow (p := ⟨g + 2, 2, none⟩) (by simp) (.slice (some ⟨g4, 0, none⟩) ((fI s d (is.take j)).length + 1) cap4))
            have HO5 := Lib.hid (hO5.set2 (.slice (some ⟨g4, 0, none⟩) ((fI s d (is.take j)).length + 1) cap4))
            have HG5 := Lib.hid (grown_at (gown (grown_trans HG3.out (grown_below HBA4.out)) hgB (fun q hq => by have := HOWI.out q hq; omega)) 2 (.slice (some ⟨g4, 0, none⟩) ((fI s d (is.take j)).length + 1) cap4))
            have hOWA := own_bel HOW3.out HBA4.out
            have HOW5 := Lib.hid ((hOWA.kept hgB (own_apart hOWA HCSA.out)).kept (gset1 W5 ⟨g + 2, 2, none⟩ (.slice (some ⟨g4, 0, none⟩) ((fI s d (is.take j)).length + 1) cap4)) (own_below (hOWA.kept hgB (own_apart hOWA HCSA.out)) (by simp)))
            clear hown4 hgrow4 hat4 hlt4 hgB hI5 hO5 hOWA s0 s1 s2 sf2
            have HCE := Lib.hid (show cnt (fun T => deadT (lessT s d T)) (is.take (j + 1)) = cnt (fun T => deadT (lessT s d T)) (is.take j) by have := HC.out; omega)
            go_roundw
            case rel => exact ⟨j + 1, _, by omega, by go_num, HOW5, by rw [HF.out]; exact HI5, by rw [HCE.out]; exact HO5, HG5⟩
            case measure => simp [intOf]; omega
          · rw [hdd] at HC HF
            rw [if_pos rfl] at HC HF
            have hpos : t2 ≤ 0 := by unfold deadT at hdd; rw [hthr] at hdd; exact of_decide_eq_true hdd
            have HSUB := Lib.hid (show m0 - cnt (fun T => deadT (lessT s d T)) (is.take (j + 1)) = m0 - cnt (fun T => deadT (lessT s d T)) (is.take j) - 1 by have := HC.out; omega)
            have hlow : m0 - cnt (fun T => deadT (lessT s d T)) (is.take j) ≤ 1000000 := by omega
            generalize m0 - cnt (fun T => deadT (lessT s d T)) (is.take j) = q0 at *
            clear hthr hdd
            go_wp2_with fail
            refine (rlower_run q0 hlow _).mono ?_
            rintro e w2 ⟨rfl, rfl⟩
            have HO4 := Lib.hid (HO3.out.set0 ((q0 - 1 : Nat) : Int))
            have HG4 := Lib.hid (grown_at HG3.out 0 (.int .i64 ((q0 - 1 : Nat) : Int)))
            have HOW4 := Lib.hid (HOW3.out.kept (gset1 W3 ⟨g + 2, 0, none⟩ (.int .i64 ((q0 - 1 : Nat) : Int))) (own_below HOW3.out (by simp)))
            have HI4 := Lib.hid (HI3.out.setLow (p := ⟨g + 2, 0, none⟩) (by simp) (.int .i64 ((q0 - 1 : Nat) : Int)))
            go_wp2_with fail
            go_roundw
            case rel => exact ⟨j + 1, v2, by omega, by go_num, HOW4, by rw [HF.out, List.append_nil]; exact HI4, by rw [HSUB.out]; exact HO4, HG4⟩
            case measure => simp [intOf]; omega
        · obtain rfl : j = is.length := by omega
          obtain ⟨A2, c2, rfl⟩ := hInn.out.slice
          have HTI := Lib.hid (show fI s d (is.take is.length) = fI s d is by rw [List.take_length])
          have hR : OutAt wr (g + 1) 0 (.slice none 0 0) (.slice none 0 0) := K1.out.keep (hGr.out.block (g + 1) (by omega) (by simp))
          obtain ⟨r0, r1, r2⟩ := hR.cs
          have rf0 := hR.fr 0
          have rf1 := hR.fr 1
          have rf2 := hR.fr 2
          have HZB := Lib.hid (show Below w.heap.size w wr by
            have h1 := HB.out
            rw [← HG.out] at h1
            exact h1.grown hGr.out h1.size (fun q hq => by obtain rfl := Option.some.inj hq; have := HG.out; omega))
          have hfl := Nat.le_trans (fI_len s d (is.take is.length)) (by rw [List.length_take]; exact Nat.min_le_right _ _)
          have HLE := Lib.hid (show lessT s (d + 1) (.mk (t0 : Int) ns is) = .mk ((m0 - cnt (fun T => deadT (lessT s d T)) (is.take is.length) : Nat) : Int) L1 (fI s d (is.take is.length)) by
            rw [← HM0.out, ← HL1.out, List.take_length]
            show Tree.mk _ _ _ = _
            have e1 : cnt deadT (is.map (lessT s d)) = cnt (fun T => deadT (lessT s d T)) is := by
              unfold cnt; rw [List.filter_map, List.length_map]; rfl
            rw [e1]
            rfl)
          generalize m0 - cnt (fun T => deadT (lessT s d T)) (is.take is.length) = tz at *
          clear HTI
          generalize fI s d (is.take is.length) = L2 at *
          have HOW := hOW
          have HInn := hInn
          clear hOW hInn hR
          go_wp2_with fail
          have K1' := ((HOW.out.kept (gset1 wr ⟨g + 1, 0, none⟩ (.int .i64 (tz : Int))) (own_below HOW.out (by simp))).kept (gset1 _ ⟨g + 1, 1, none⟩ (.slice A1 L1.length c1)) (own_below HOW.out (by simp))).kept (gset1 _ ⟨g + 1, 2, none⟩ (.slice A2 L2.length c2)) (own_below HOW.out (by simp))
          have K2' := ((HInn.out.setLow (p := ⟨g + 1, 0, none⟩) (by simp) (.int .i64 (tz : Int))).setLow (p := ⟨g + 1, 1, none⟩) (by simp) (.slice A1 L1.length c1)).setLow (p := ⟨g + 1, 2, none⟩) (by simp) (.slice A2 L2.length c2)
          have hgl := HG.out
          refine bodyPost_ret (v := .agg #[.int .i64 (tz : Int), .slice A1 L1.length c1, .slice A2 L2.length c2]) ?_ rfl ⟨_, _, _, rfl, ?_, ?_⟩
          · simp [results, Tryz.results106, go_sem, r0, r1, r2]
          · rw [HLE.out]
            exact made (fun b hb => by omega) (by omega) (by omega) K1' K2'
          · exact bset (bset (bset HZB.out (p := ⟨g + 1, 0, none⟩) (by show w.heap.size ≤ g + 1; omega) _) (p := ⟨g + 1, 1, none⟩) (by show w.heap.size ≤ g + 1; omega) _) (p := ⟨g + 1, 2, none⟩) (by show w.heap.size ≤ g + 1; omega) _

theorem less_run (s : Nat) (hs : s < 1024) : ∀ d, LessC s d
  | 0 => fun P n T x0 x1 x2 w h _ => h.elim
  | d + 1 => less_step s d hs (less_run s hs d)

end Go.Proofs.YtacpfcckilnbfaaGreat

namespace Go.Proofs.YtacpfcckilnbfaaGreat
set_option linter.unusedVariables false
set_option linter.unusedSimpArgs false
open Go.RowKit

/-- Members in a row of its own from B on, with trusts in blocks of Q. -/
def GRow (Q : Nat → Prop) (B d : Nat) (W : World) (v : Value) (ms : List Mem) : Prop :=
  ∃ cs : List Value, W.ownsRow B 75 4 v ms.length cs ∧ ∀ k m, ms[k]? = some m → ∃ x0 x1 x2, cs[k * 4]? = some (.bool m.1) ∧ cs[k * 4 + 1]? = some x0 ∧ cs[k * 4 + 2]? = some x1 ∧ cs[k * 4 + 3]? = some x2 ∧ TAt (fun b => Q b ∧ v.ownBlock ≠ some b) d W x0 x1 x2 m.2

theorem GRow.nil (Q : Nat → Prop) (B d : Nat) (W : World) : GRow Q B d W (.slice none 0 0) [] := ⟨[], World.ownsRow_nil _ _ _ _, fun k T h => by simp at h⟩

theorem GRow.own {Q : Nat → Prop} {B d : Nat} {W : World} {v : Value} {ms : List Mem} (h : GRow Q B d W v ms) : ∀ j, v.ownBlock = some j → B ≤ j ∧ j < W.heap.size := by
  obtain ⟨cs, h1, _⟩ := h
  exact h1.lt

theorem GRow.keep {Q : Nat → Prop} {B d : Nat} {W W' : World} {v : Value} {ms : List Mem} (h : GRow Q B d W v ms) (hk : ∀ q, (Q q ∨ B ≤ q) → q < W.heap.size → W'.heap[q]? = W.heap[q]?) : GRow Q B d W' v ms := by
  obtain ⟨cs, h1, h2⟩ := h
  refine ⟨cs, own_keepG h1 (fun j _ hB hl => hk j (.inr hB) hl), fun k m hm => ?_⟩
  obtain ⟨x0, x1, x2, e0, e1, e2, e3, e4⟩ := h2 k m hm
  exact ⟨x0, x1, x2, e0, e1, e2, e3, e4.keep (fun q hq hP => hk q (.inl hP.1) hq)⟩

/-- One more member. -/
theorem GRow.append {Q : Nat → Prop} {B d : Nat} {WA W4 : World} {lv x0 x1 x2 : Value} {ms : List Mem} {m : Mem} {g4 cap4 : Nat} {cs : List Value}
    (hcl : ∀ k m, ms[k]? = some m → ∃ x0 x1 x2, cs[k * 4]? = some (.bool m.1) ∧ cs[k * 4 + 1]? = some x0 ∧ cs[k * 4 + 2]? = some x1 ∧ cs[k * 4 + 3]? = some x2 ∧ TAt (fun b => Q b ∧ lv.ownBlock ≠ some b) d WA x0 x1 x2 m.2) (hcn : cs.length = ms.length * 4)
    (hT : TAt (fun b => Q b ∧ lv.ownBlock ≠ some b) d WA x0 x1 x2 m.2)
    (hown4 : W4.ownsRow B 75 4 (.slice (some ⟨g4, 0, none⟩) (ms.length + 1) cap4) (ms.length + 1) (cs ++ [.bool m.1, x0, x1, x2])) (hg4 : WA.grownBy W4 lv.ownBlock) (hat4 : lv.ownBlock = some g4 ∨ g4 = WA.heap.size) :
    GRow Q B d W4 (.slice (some ⟨g4, 0, none⟩) (ms.length + 1) cap4) (ms ++ [m]) := by
  have up : ∀ {y0 y1 y2 : Value} {S : Tree}, TAt (fun b => Q b ∧ lv.ownBlock ≠ some b) d WA y0 y1 y2 S → TAt (fun b => Q b ∧ (Value.slice (some ⟨g4, 0, none⟩) (ms.length + 1) cap4).ownBlock ≠ some b) d W4 y0 y1 y2 S := fun h =>
    TAt.both (fun q hq hP => hg4.block q hq (fun e => hP.2 e.symm)) (fun q hq hP => ⟨hP.1, fun e => by
      have e' : g4 = q := by simpa [Value.ownBlock] using e
      rcases hat4 with hat | hat
      · exact hP.2 (by rw [hat, e'])
      · omega⟩) _ _ _ _ _ h
  refine ⟨cs ++ [.bool m.1, x0, x1, x2], by simpa using hown4, fun k S hS => ?_⟩
  rcases Nat.lt_or_ge k ms.length with hk | hk
  · rw [List.getElem?_append_left hk] at hS
    obtain ⟨y0, y1, y2, e0, e1, e2, e3, e4⟩ := hcl k S hS
    exact ⟨y0, y1, y2, by rw [List.getElem?_append_left (by omega)]; exact e0, by rw [List.getElem?_append_left (by omega)]; exact e1, by rw [List.getElem?_append_left (by omega)]; exact e2, by rw [List.getElem?_append_left (by omega)]; exact e3, up e4⟩
  · have hk2 : k = ms.length := by
      have := (List.getElem?_eq_some_iff.1 hS).1
      simp at this; omega
    subst hk2
    have hS' : S = m := by simpa using hS.symm
    subst hS'
    refine ⟨x0, x1, x2, ?_, ?_, ?_, ?_, up hT⟩
    · rw [List.getElem?_append_right (by omega)]; simp [hcn]
    · rw [List.getElem?_append_right (by omega), show ms.length * 4 + 1 - cs.length = 1 by omega]; rfl
    · rw [List.getElem?_append_right (by omega), show ms.length * 4 + 2 - cs.length = 2 by omega]; rfl
    · rw [List.getElem?_append_right (by omega), show ms.length * 4 + 3 - cs.length = 3 by omega]; rfl

theorem GRow.mems {Q : Nat → Prop} {B d : Nat} {W : World} {v : Value} {ms : List Mem} {P : Nat → Prop} (h : GRow Q B d W v ms) (hP : ∀ b, (Q b ∨ B ≤ b) → P b) : MemsAt P d W v ms := by
  obtain ⟨cs, h1, h2⟩ := h
  rcases h1.2 with ⟨hv, h0⟩ | ⟨g, cap, cur, hv, hb, _⟩
  · exact ⟨none, 0, by rw [hv, h0], fun k T hT => by have := (List.getElem?_eq_some_iff.1 hT).1; omega⟩
  · refine ⟨some ⟨g, 0, none⟩, cap, hv, fun k m hm => ?_⟩
    obtain ⟨x0, x1, x2, e0, e1, e2, e3, e4⟩ := h2 k m hm
    have c : ∀ j u, cs[j]? = some u → W.cell? ⟨g, 0 + j, none⟩ = some u := fun j u hu => by
      have := h1.cells (g := g) (by rw [hv]; rfl) j u hu
      rwa [Addr.add_lit] at this
    exact ⟨g, 0, x0, x1, x2, rfl, hP g (.inr hb), c _ _ e0, by rw [Nat.add_assoc]; exact c _ _ e1, by rw [Nat.add_assoc]; exact c _ _ e2, by rw [Nat.add_assoc]; exact c _ _ e3, e4.imp (fun q _ hq => hP q (.inl hq.1))⟩

set_option maxRecDepth 100000 in
set_option maxHeartbeats 2000000 in
theorem rdelT_run (P : Nat → Prop) (n : Int) (s k d : Nat) (T : Tree) (x0 x1 x2 : Value) (w : World) (hs : s < 1024) (h : TAt P (d + 1) w x0 x1 x2 T) (hWF : WF n (d + 1) T) :
    Calls Tryz.prog 66 #[.agg #[x0, x1, x2], .int .i64 (k : Int), .int .i64 (s : Int)] w fun e w' => ∃ y0 y1 y2, e = .returned (.agg #[y0, y1, y2]) ∧ TAt (fun b => w.heap.size ≤ b) (d + 1) w' y0 y1 y2 (delT s k (d + 1) T) ∧ Below w.heap.size w w' := by
  obtain ⟨t', A', n', ca, B', m', cb, rfl, rfl, rfl⟩ := h.form
  have hsv := Lib.hid (show setB (s : Int) = true from setB_iff.2 ⟨by omega, by omega⟩)
  have hb2 : Below w.heap.size w ((w.alloc (.cells #[.int .i64 t', .slice A' n' ca, .slice B' m' cb] 73)).alloc (.cells #[.int .i64 0, .slice none 0 0, .slice none 0 0] 73)) := balloc (balloc (bref w) _) _
  have k0 : ((w.alloc (.cells #[.int .i64 t', .slice A' n' ca, .slice B' m' cb] 73)).alloc (.cells #[.int .i64 0, .slice none 0 0, .slice none 0 0] 73)).heap[w.heap.size]? = some (.cells #[.int .i64 t', .slice A' n' ca, .slice B' m' cb] 73 (0, 0)) := alloc_on (alloc_at rfl)
  have k1 : OutAt ((w.alloc (.cells #[.int .i64 t', .slice A' n' ca, .slice B' m' cb] 73)).alloc (.cells #[.int .i64 0, .slice none 0 0, .slice none 0 0] 73)) (w.heap.size + 1) 0 (.slice none 0 0) (.slice none 0 0) := alloc_at (alloc_sz _ _)
  have HT := Lib.hid (h.below hb2)
  have HB := Lib.hid hb2
  have K0 := Lib.hid k0
  have K1 := Lib.hid k1
  have HW := Lib.hid hWF
  clear h hb2 k0 k1 hWF
  go_enter Tryz.func66, Tryz.ntmps66
  go_upto_region 1 with fail
  generalize ((w.alloc (.cells #[.int .i64 t', .slice A' n' ca, .slice B' m' cb] 73)).alloc (.cells #[.int .i64 0, .slice none 0 0, .slice none 0 0] 73)) = W1 at *
  generalize hg : w.heap.size = g at *
  have HG := Lib.hid hg
  clear hg
  have c0 : W1.cell? ⟨g, 0, none⟩ = some (.int .i64 t') := cell_of_row _ _ 0 _ _ (0, 0) K0.out
  have c1 : W1.cell? ⟨g, 1, none⟩ = some (.slice A' n' ca) := cell_of_row _ _ 1 _ _ (0, 0) K0.out
  have c2 : W1.cell? ⟨g, 2, none⟩ = some (.slice B' m' cb) := cell_of_row _ _ 2 _ _ (0, 0) K0.out
  have hol := K1.out.lt
  go_wp2_with fail
  refine (rsetValid_run _ _).mono ?_
  rintro e w2 ⟨rfl, rfl⟩
  rw [hsv.out]
  go_wp2_with fail
  refine (less_run s hs (d + 1) _ n T _ _ _ _ HT.out HW.out).mono ?_
  rintro e W2 ⟨y0, y1, y2, rfl, hT2, hb2⟩
  obtain ⟨t2, A2, n2, c2', B2, m2, c3, rfl, rfl, rfl⟩ := hT2.form
  have hthr := hT2.thr
  have hbA := balloc hb2 (.cells #[.int .i64 t2, .slice A2 n2 c2', .slice B2 m2 c3] 73)
  have k3 : (W2.alloc (.cells #[.int .i64 t2, .slice A2 n2 c2', .slice B2 m2 c3] 73)).heap[W2.heap.size]? = some (.cells #[.int .i64 t2, .slice A2 n2 c2', .slice B2 m2 c3] 73 (0, 0)) := alloc_at rfl
  have HT3 := Lib.hid (hT2.below (balloc (bref W2) (.cells #[.int .i64 t2, .slice A2 n2 c2', .slice B2 m2 c3] 73)))
  have HK3 := Lib.hid k3
  have HO3 := Lib.hid (K1.out.keep (hbA.block _ hol))
  have HB3 := Lib.hid (show Below w.heap.size w (W2.alloc (.cells #[.int .i64 t2, .slice A2 n2 c2', .slice B2 m2 c3] 73)) by
    have h1 := HB.out
    rw [← HG.out] at h1
    exact bstep h1 hbA)
  have HS3 := Lib.hid hbA.size
  clear hT2 hb2 hbA k3 c0 c1 c2
  go_upto_region 4 with fail
  generalize W2.alloc (.cells #[.int .i64 t2, .slice A2 n2 c2', .slice B2 m2 c3] 73) = W3 at *
  generalize W2.heap.size = r3 at *
  have r0 : W3.cell? ⟨r3, 0, none⟩ = some (.int .i64 t2) := cell_of_row _ _ 0 _ _ (0, 0) HK3.out
  have r1 : W3.cell? ⟨r3, 1, none⟩ = some (.slice A2 n2 c2') := cell_of_row _ _ 1 _ _ (0, 0) HK3.out
  have r2 : W3.cell? ⟨r3, 2, none⟩ = some (.slice B2 m2 c3) := cell_of_row _ _ 2 _ _ (0, 0) HK3.out
  obtain ⟨o0, o1, o2⟩ := HO3.out.cs
  have of0 := HO3.out.fr 0
  have of1 := HO3.out.fr 1
  have of2 := HO3.out.fr 2
  have hol3 := HO3.out.lt
  have hgl := HG.out
  have HBG := Lib.hid (fun (W : World) (h : Below w.heap.size w W) => (by rw [← HG.out]; exact h : Below g w W))
  cases hdd : deadT (lessT s (d + 1) T)
  · have hpos : ¬ t2 ≤ 0 := by unfold deadT at hdd; rw [hthr] at hdd; exact of_decide_eq_false hdd
    have HE := Lib.hid (show delT s k (d + 1) T = lessT s (d + 1) T by unfold delT; rw [hdd]; rfl)
    clear hdd hthr
    go_wp2_with fail
    refine bodyPost_ret (v := .agg #[.int .i64 t2, .slice A2 n2 c2', .slice B2 m2 c3]) ?_ rfl ⟨_, _, _, rfl, ?_, ?_⟩
    · simp [results, Tryz.results66, go_sem, o0, o1, o2]
    · rw [HE.out]
      exact TAt.both (fun q hq hP => (Below.heap_setCell _ _ _ _ (by simp; omega)).trans ((Below.heap_setCell _ _ _ _ (by simp; omega)).trans (Below.heap_setCell _ _ _ _ (by simp; omega)))) (fun q _ hP => by omega) _ _ _ _ _ HT3.out
    · exact HBG.out _ (bset (bset (bset HB3.out (p := ⟨g + 1, 0, none⟩) (by show w.heap.size ≤ g + 1; omega) _) (p := ⟨g + 1, 1, none⟩) (by show w.heap.size ≤ g + 1; omega) _) (p := ⟨g + 1, 2, none⟩) (by show w.heap.size ≤ g + 1; omega) _)
  · have hpos : t2 ≤ 0 := by unfold deadT at hdd; rw [hthr] at hdd; exact of_decide_eq_true hdd
    have HE := Lib.hid (show delT s k (d + 1) T = .mk 1 [(k : Int)] [] by unfold delT; rw [hdd]; rfl)
    clear hdd hthr
    go_wp2_with fail
    refine bodyPost_ret (v := .agg #[.int .i64 1, .slice (some ⟨W3.heap.size, 0, none⟩) 1 1, .slice none 0 0]) ?_ rfl ⟨_, _, _, rfl, ?_, ?_⟩
    · simp [results, Tryz.results66, go_sem, o0, o1, o2, hol3]
    · rw [HE.out]
      refine ⟨rfl, by simp, by simp, ⟨some ⟨W3.heap.size, 0, none⟩, 1, rfl, fun j hj => ⟨W3.heap.size, 0, rfl, by omega, ?_⟩⟩, ⟨none, 0, rfl, fun k T hT => by simp at hT⟩⟩
      obtain rfl : j = 0 := by simpa using hj
      refine (cell_of_row _ _ 0 #[.int .i64 (k : Int)] 3 (0, 0) ?_)
      have := heap_alloc_new (((W3.setCell ⟨g + 1, 0, none⟩ (.int .i64 1)).setCell ⟨g + 1, 1, none⟩ (.slice (some ⟨W3.heap.size, 0, none⟩) 1 1)).setCell ⟨g + 1, 2, none⟩ (.slice none 0 0)) (.cells #[.int .i64 (k : Int)] 3)
      simpa using this
    · exact (balloc (bset (bset (bset HB3.out (p := ⟨g + 1, 0, none⟩) (by show w.heap.size ≤ g + 1; omega) _) (p := ⟨g + 1, 1, none⟩) (by show w.heap.size ≤ g + 1; omega) _) (p := ⟨g + 1, 2, none⟩) (by show w.heap.size ≤ g + 1; omega) _) _)

theorem delM_take {s k : Nat} {ms : List Mem} {m : Mem} (h : ms[k]? = some m) : (delM s ms).take (k + 1) = (delM s ms).take k ++ [delOne s k m] := take_one (delM_get h)

theorem TAt.empty (P : Nat → Prop) (d : Nat) (w : World) (A B : Option Addr) (c c' : Nat) : TAt P (d + 1) w (.int .i64 0) (.slice A 0 c) (.slice B 0 c') (.mk 0 [] []) := ⟨rfl, by simp, by simp, ⟨A, c, rfl, fun k hk => by simp at hk⟩, ⟨B, c', rfl, fun k T hT => by simp at hT⟩⟩

set_option maxRecDepth 100000 in
set_option maxHeartbeats 8000000 in
theorem rdelete_run (P : Nat → Prop) (ms : List Mem) (v : Value) (s : Nat) (w : World) (hl : ms.length ≤ 10) (hs : s < 1024) (h : MemsAt P 2 w v ms) (hok : MemsOk ms.length ms) :
    Calls Tryz.prog 28 #[.agg #[v], .int .i64 (s : Int)] w fun e w' => ∃ v', e = .returned (.agg #[v']) ∧ MemsAt (fun b => w.heap.size ≤ b) 2 w' v' (delM s ms) ∧ Below w.heap.size w w' := by
  obtain ⟨A, c, rfl⟩ := h.slice
  have hsv := Lib.hid (show setB (s : Int) = true from setB_iff.2 ⟨by omega, by omega⟩)
  obtain ⟨i4, hi4, hy0, hy1, hy2⟩ := info_parts infoMember
  have hb3 : Below w.heap.size w (((w.alloc (.cells #[.slice A ms.length c] 27)).alloc (.cells #[.slice none 0 0] 27)).alloc (.cells #[.slice none 0 0] 27)) := balloc (balloc (balloc (bref w) _) _) _
  have k0 : (((w.alloc (.cells #[.slice A ms.length c] 27)).alloc (.cells #[.slice none 0 0] 27)).alloc (.cells #[.slice none 0 0] 27)).heap[w.heap.size]? = some (.cells #[.slice A ms.length c] 27 (0, 0)) := alloc_on (alloc_on (alloc_at rfl))
  have k1 : (((w.alloc (.cells #[.slice A ms.length c] 27)).alloc (.cells #[.slice none 0 0] 27)).alloc (.cells #[.slice none 0 0] 27)).heap[w.heap.size + 1]? = some (.cells #[.slice none 0 0] 27 (0, 0)) := alloc_on (alloc_at (alloc_sz _ _))
  have k2 : (((w.alloc (.cells #[.slice A ms.length c] 27)).alloc (.cells #[.slice none 0 0] 27)).alloc (.cells #[.slice none 0 0] 27)).heap[w.heap.size + 2]? = some (.cells #[.slice none 0 0] 27 (0, 0)) := alloc_at (by rw [alloc_sz, alloc_sz])
  have hsz : (((w.alloc (.cells #[.slice A ms.length c] 27)).alloc (.cells #[.slice none 0 0] 27)).alloc (.cells #[.slice none 0 0] 27)).heap.size = w.heap.size + 3 := by rw [alloc_sz, alloc_sz, alloc_sz]
  have H := Lib.hid ((h.both (Q := fun b => b < w.heap.size) (fun _ _ _ => rfl) (fun k hk _ => hk)).below hb3)
  have HB := Lib.hid hb3
  have K0 := Lib.hid k0
  have K1 := Lib.hid k1
  have K2 := Lib.hid k2
  have HOK := Lib.hid hok
  clear h hb3 k0 k1 k2 hok
  go_enter Tryz.func28, Tryz.ntmps28
  go_upto_region 1 with fail
  go_wp2_with fail
  refine (rsetValid_run _ _).mono ?_
  rintro e w2 ⟨rfl, rfl⟩
  rw [hsv.out]
  go_upto_region 4 with fail
  generalize (((w.alloc (.cells #[.slice A ms.length c] 27)).alloc (.cells #[.slice none 0 0] 27)).alloc (.cells #[.slice none 0 0] 27)) = W1 at *
  generalize hg : w.heap.size = g at *
  have HG := Lib.hid hg
  clear hg
  have c0 : W1.cell? ⟨g, 0, none⟩ = some (.slice A ms.length c) := cell_of_row _ _ 0 _ _ (0, 0) K0.out
  go_wp2_with fail
  clear c0
  go_loopw [15] (fun t W => ∃ (k : Nat) (v : Value), k ≤ ms.length ∧ t = .int .i64 k ∧ Hid (GRow (fun b => g + 3 ≤ b) (g + 3) 2 W v ((delM s ms).take k)) ∧ Hid (W.heap[g + 2]? = some (.cells #[v] 27 (0, 0))) ∧ Hid (W1.grownBy W (some (g + 2)))) (fun t _ => ms.length - (intOf t).toNat)
  case atStart => exact ⟨0, .slice none 0 0, by omega, rfl, Lib.hid (GRow.nil _ _ _ _), K2, Lib.hid (World.grownBy.refl _ _)⟩
  case round =>
    obtain ⟨k, v, hk, rfl, hRow, hOut, hGr⟩ := hrel
    have hwr := hGr.out.size
    by_cases hlt : k < ms.length
    · obtain ⟨m, hm⟩ : ∃ m, ms[k]? = some m := ⟨_, List.getElem?_eq_getElem hlt⟩
      obtain ⟨b, off, t, A1, n1, c1, A2, n2, c2, rfl, hP, hbl, e0, e1, e2, e3, hT⟩ := memBox H.out hm
      have lw := hGr.out.block b hbl (by simp; omega)
      have d0 := (World.cell?_of_block (a := ⟨b, off + k * 4, none⟩) lw).trans e0
      have d1 := (World.cell?_of_block (a := ⟨b, off + k * 4 + 1, none⟩) lw).trans e1
      have d2 := (World.cell?_of_block (a := ⟨b, off + k * 4 + 2, none⟩) lw).trans e2
      have d3 := (World.cell?_of_block (a := ⟨b, off + k * 4 + 3, none⟩) lw).trans e3
      have hTr := hT.keep (w' := wr) (fun q hq hP => hGr.out.block q hq (by simp; omega))
      have HTK := Lib.hid (delM_take (s := s) hm)
      have HTL := Lib.hid (show ((delM s ms).take k).length = k by rw [List.length_take, delM_len]; omega)
      generalize List.take k (delM s ms) = Lk at *
      have hmo := HOK.out m (List.mem_of_getElem? hm)
      have HM1 := Lib.hid hmo.1
      have HM2 := Lib.hid hmo.2
      have hbit := hasB_bit hs (show k < 10 by omega)
      have HDO := Lib.hid (show delOne s k m = if hasB (s : Int) (k : Int) then (false, .mk 0 [] []) else if m.1 then (true, delT s k 2 m.2) else m from rfl)
      generalize delOne s k m = mo at *
      obtain ⟨dec, T⟩ := m
      have hba := balloc (bref wr) (.cells #[.bool dec, .int .i64 t, .slice A1 n1 c1, .slice A2 n2 c2] 75)
      have kx : (wr.alloc (.cells #[.bool dec, .int .i64 t, .slice A1 n1 c1, .slice A2 n2 c2] 75)).heap[wr.heap.size]? = some (.cells #[.bool dec, .int .i64 t, .slice A1 n1 c1, .slice A2 n2 c2] 75 (0, 0)) := alloc_at rfl
      have HKX := Lib.hid kx
      have HTX := Lib.hid (hTr.below hba)
      have HGX := Lib.hid (grown_trans hGr.out (grown_below hba))
      have HLX := Lib.hid (fun q (hq : q < wr.heap.size) => hba.block q hq)
      have HRW := hRow
      have HOW := hOut
      have HROX := Lib.hid (fun q (hq : v.ownBlock = some q) => (hRow.out.own q hq))
      have hwl : g + 3 ≤ wr.heap.size := by omega
      have HSX := Lib.hid (alloc_sz wr (.cells #[.bool dec, .int .i64 t, .slice A1 n1 c1, .slice A2 n2 c2] 75))
      clear hba kx hTr hT hm hmo hRow hOut hGr lw e0 e1 e2 e3
      go_upto_region 7 with fail
      generalize wr.alloc (.cells #[.bool dec, .int .i64 t, .slice A1 n1 c1, .slice A2 n2 c2] 75) = W3 at *
      generalize hrq : wr.heap.size = r at *
      have HRQ := Lib.hid hrq
      clear hrq
      have r0 : W3.cell? ⟨r, 0, none⟩ = some (.bool dec) := cell_of_row _ _ 0 _ _ (0, 0) HKX.out
      have r1 : W3.cell? ⟨r, 1, none⟩ = some (.int .i64 t) := cell_of_row _ _ 1 _ _ (0, 0) HKX.out
      have r2 : W3.cell? ⟨r, 2, none⟩ = some (.slice A1 n1 c1) := cell_of_row _ _ 2 _ _ (0, 0) HKX.out
      have r3 : W3.cell? ⟨r, 3, none⟩ = some (.slice A2 n2 c2) := cell_of_row _ _ 3 _ _ (0, 0) HKX.out
      have rf : ∀ j, W3.frozen? ⟨r, j, none⟩ = false := fun j => by simp [World.frozen?, HKX.out]
      have rf0 := rf 0
      have rf1 := rf 1
      have rf2 := rf 2
      have rf3 := rf 3
      have hrl := cell_lt r0
      have hszx := HSX.out
      clear rf d0 d1 d2 d3
      cases hb : s.testBit k
      · rw [hb] at hbit
        rw [hbit] at HDO
        rw [if_neg (by simp)] at HDO
        cases dec
        · obtain rfl := HM2.out rfl
          rw [if_neg (show ¬ (false = true) by simp)] at HDO
          obtain ⟨ht, _, _, hN, hL⟩ := HTX.out.parts
          obtain ⟨A3, c3, hv1⟩ := hN.slice
          obtain ⟨A4, c5, hv2⟩ := hL.slice
          cases ht
          cases hv1
          cases hv2
          clear hN hL
          go_wp2_with fail
          refine (rhas_run _ _ _).mono ?_
          rintro e w2 ⟨rfl, rfl⟩
          rw [hbit]
          go_upto_region 11 with fail
          have K6 := Lib.hid (show W3.heap[r]? = some (.cells #[.bool false, .int .i64 0, .slice A1 0 c1, .slice A2 0 c2] 75 (0, 0)) from HKX.out)
          have L6 := HLX
          clear hszx
          have HT6 := Lib.hid (TAt.empty (fun b => g + 3 ≤ b ∧ v.ownBlock ≠ some b) 1 W3 A1 A2 c1 c2)
          have HG6 := HGX
          have HMO := HDO
          clear r0 r1 r2 r3 rf0 rf1 rf2 rf3
          have x0 : W3.cell? ⟨r, 0, none⟩ = some (.bool false) := cell_of_row _ _ 0 _ _ (0, 0) K6.out
          have x1 : W3.cell? ⟨r, 1, none⟩ = some (.int .i64 0) := cell_of_row _ _ 1 _ _ (0, 0) K6.out
          have x2 : W3.cell? ⟨r, 2, none⟩ = some (.slice A1 0 c1) := cell_of_row _ _ 2 _ _ (0, 0) K6.out
          have x3 : W3.cell? ⟨r, 3, none⟩ = some (.slice A2 0 c2) := cell_of_row _ _ 3 _ _ (0, 0) K6.out
          have hcb6 : W3.heap[g + 2]? = some (.cells #[v] 27 (0, 0)) := (L6.out (g + 2) (by omega)).trans HOW.out
          have q2 : W3.cell? ⟨g + 2, 0, none⟩ = some v := cell_of_row _ _ 0 _ _ (0, 0) hcb6
          have HCB6 := Lib.hid hcb6
          have hR6 := HRW.out.keep (W' := W3) (fun q _ hq => L6.out q (by rw [← HRQ.out]; exact hq))
          obtain ⟨cs, hcs, hcl⟩ := hR6
          have hcn := hcs.1
          have HCSA := Lib.hid (hcs.alloc (.cells #[.bool false, .int .i64 0, .slice A1 0 c1, .slice A2 0 c2] 75))
          have HNEW := Lib.hid (cell_four_new W3 (.bool false) (.int .i64 0) (.slice A1 0 c1) (.slice A2 0 c2) 75)
          have HBA4 := Lib.hid (balloc (bref W3) (.cells #[.bool false, .int .i64 0, .slice A1 0 c1, .slice A2 0 c2] 75))
          have HSZ4 := Lib.hid (alloc_sz W3 (.cells #[.bool false, .int .i64 0, .slice A1 0 c1, .slice A2 0 c2] 75))
          have HCL := Lib.hid hcl
          have hz6 : r < W3.heap.size := cell_lt x0
          clear hcs hcl hcb6
          go_wp2_with (at_builtin; refine wpList_append_lies _ rfl _ _ 25 rfl (g + 3) 75 i4 (.agg #[.bool false, .int .i64 0, .slice none 0 0, .slice none 0 0]) 4 64 Tryz.underlying25 hi4 hy0 hy1 hy2 rfl (by decide) _ Lk.length cs rfl (by exact HCSA.out) ⟨_, 0, none⟩ 1 1 [.bool false, .int .i64 0, .slice A1 0 c1, .slice A2 0 c2] rfl rfl (by exact HNEW.out) (by intro u hu; simp at hu; rcases hu with rfl | rfl | rfl | rfl <;> rfl) (by omega) (by have := HTL.out; unfold maxLen; omega) (by have := HTL.out; omega) (by have := HSZ4.out; omega) _ rfl ?_; intro g4 cap4 W7 hown4 hgrow4 hat4 hlt4; have hcb5 : W7.heap[g + 2]? = some (.cells #[v] 27 (0, 0)) := (hgrow4.block (g + 2) (by have := HSZ4.out; omega) (fun e => by have := (HROX.out _ e.symm).1; omega)).trans ((HBA4.out.block (g + 2) (by omega)).trans HCB6.out); have s0 : W7.cell? ⟨g + 2, 0, none⟩ = some v := cell_of_row _ _ 0 _ _ (0, 0) hcb5; have sf : W7.frozen? ⟨g + 2, 0, none⟩ = false := by simp [World.frozen?, hcb5])
          have hgB : (W3.alloc (.cells #[.bool false, .int .i64 0, .slice A1 0 c1, .slice A2 0 c2] 75)).grownBy W7 v.ownBlock := ⟨hgrow4.os, hgrow4.tape, hgrow4.output, hgrow4.size, hgrow4.block⟩
          have hrow5 := GRow.append (Q := fun b => g + 3 ≤ b) (m := (false, .mk 0 [] [])) (WA := W3.alloc (.cells #[.bool false, .int .i64 0, .slice A1 0 c1, .slice A2 0 c2] 75)) (fun k m hm => by
              obtain ⟨z0, z1, z2, e0, e1, e2, e3, e4⟩ := HCL.out k m hm
              exact ⟨z0, z1, z2, e0, e1, e2, e3, e4.below HBA4.out⟩) hcn (HT6.out.below HBA4.out) hown4 hgB hat4
          rw [← HMO.out, ← HTK.out] at hrow5
          have HROW5 := Lib.hid (hrow5.keep (W' := W7.setCell ⟨g + 2, 0, none⟩ (.slice (some ⟨g4, 0, none⟩) (Lk.length + 1) cap4)) (fun q hq _ => Below.heap_setCell _ _ _ _ (by simp; omega)))
          have hset5 : (W7.setCell ⟨g + 2, 0, none⟩ (.slice (some ⟨g4, 0, none⟩) (Lk.length + 1) cap4)).heap[g + 2]? = some (.cells #[.slice (some ⟨g4, 0, none⟩) (Lk.length + 1) cap4] 27 (0, 0)) := by
            simp [World.setCell, Array.getElem?_modify, hcb5]
          have HSET5 := Lib.hid hset5
          have HGR5 := Lib.hid (grown_at (gown (grown_trans HG6.out (grown_below HBA4.out)) hgB (fun q hq => by have := (HROX.out q hq).1; omega)) 0 (.slice (some ⟨g4, 0, none⟩) (Lk.length + 1) cap4))
          clear hown4 hgrow4 hat4 hlt4 hcb5 s0 sf hgB hrow5 hset5
          go_roundw
          case rel => exact ⟨k + 1, _, by omega, by go_num, HROW5, HSET5, HGR5⟩
          case measure => simp [intOf]; omega
        · have HW := Lib.hid (HM1.out rfl)
          rw [if_pos rfl] at HDO
          have hk0 : (0 : Int) ≤ (k : Int) := by omega
          go_wp2_with fail
          refine (rhas_run _ _ _).mono ?_
          rintro e w2 ⟨rfl, rfl⟩
          rw [hbit]
          go_wp2_with fail
          refine (rdelT_run _ ms.length s k 1 T _ _ _ _ hs HTX.out HW.out).mono ?_
          rintro e W5 ⟨y0, y1, y2, rfl, hT5, hb5⟩
          obtain ⟨t6, B1, n6, c6, B2, m6, c7, rfl, rfl, rfl⟩ := hT5.form
          have z0 := (hb5.cell hrl).trans r0
          have kz := (hb5.block r hrl).trans HKX.out
          have zf1 : W5.frozen? ⟨r, 1, none⟩ = false := by simp [World.frozen?, kz]
          have zf2 : W5.frozen? ⟨r, 2, none⟩ = false := by simp [World.frozen?, kz]
          have zf3 : W5.frozen? ⟨r, 3, none⟩ = false := by simp [World.frozen?, kz]
          have z1 : W5.cell? ⟨r, 1, none⟩ = some (.int .i64 t) := cell_of_row _ _ 1 _ _ (0, 0) kz
          have z2 : W5.cell? ⟨r, 2, none⟩ = some (.slice A1 n1 c1) := cell_of_row _ _ 2 _ _ (0, 0) kz
          have z3 : W5.cell? ⟨r, 3, none⟩ = some (.slice A2 n2 c2) := cell_of_row _ _ 3 _ _ (0, 0) kz
          have hz5 : r < W5.heap.size := cell_lt z0
          have K6 := Lib.hid (show (((W5.setCell ⟨r, 1, none⟩ (.int .i64 t6)).setCell ⟨r, 2, none⟩ (.slice B1 n6 c6)).setCell ⟨r, 3, none⟩ (.slice B2 m6 c7)).heap[r]? = some (.cells #[.bool true, .int .i64 t6, .slice B1 n6 c6, .slice B2 m6 c7] 75 (0, 0)) by
            simp [World.setCell, Array.getElem?_modify, kz])
          have l6 : ∀ q, q ≠ r → (((W5.setCell ⟨r, 1, none⟩ (.int .i64 t6)).setCell ⟨r, 2, none⟩ (.slice B1 n6 c6)).setCell ⟨r, 3, none⟩ (.slice B2 m6 c7)).heap[q]? = W5.heap[q]? := fun q hq =>
            (Below.heap_setCell _ _ _ _ (by simpa using hq)).trans ((Below.heap_setCell _ _ _ _ (by simpa using hq)).trans (Below.heap_setCell _ _ _ _ (by simpa using hq)))
          have L6 := Lib.hid (fun q (hq : q < r) => (l6 q (by omega)).trans ((hb5.block q (by omega)).trans (HLX.out q (by omega))))
          have HT6 := Lib.hid (TAt.both (Q := fun b => g + 3 ≤ b ∧ v.ownBlock ≠ some b) (w' := (((W5.setCell ⟨r, 1, none⟩ (.int .i64 t6)).setCell ⟨r, 2, none⟩ (.slice B1 n6 c6)).setCell ⟨r, 3, none⟩ (.slice B2 m6 c7))) (fun q hq hP => l6 q (by omega)) (fun q _ hP => ⟨by omega, fun e => by have := (HROX.out q e).2; have := HRQ.out; omega⟩) _ _ _ _ _ hT5)
          have HG6 := Lib.hid (gset (gset (gset (grown_trans HGX.out (grown_below hb5)) (p := ⟨r, 1, none⟩) (by show W1.heap.size ≤ r; omega) (.int .i64 t6)) (p := ⟨r, 2, none⟩) (by show W1.heap.size ≤ r; omega) (.slice B1 n6 c6)) (p := ⟨r, 3, none⟩) (by show W1.heap.size ≤ r; omega) (.slice B2 m6 c7))
          obtain ⟨T6, hT6⟩ : ∃ T6, delT s k 2 T = T6 := ⟨_, rfl⟩
          rw [hT6] at HDO HT6
          have HMO := HDO
          clear hT5 l6 hb5 kz z0 hT6
          go_upto_region 11 with fail
          generalize (((W5.setCell ⟨r, 1, none⟩ (.int .i64 t6)).setCell ⟨r, 2, none⟩ (.slice B1 n6 c6)).setCell ⟨r, 3, none⟩ (.slice B2 m6 c7)) = W6 at *
          clear z1 z2 z3 zf1 zf2 zf3 r0 r1 r2 r3 rf0 rf1 rf2 rf3
          have x0 : W6.cell? ⟨r, 0, none⟩ = some (.bool true) := cell_of_row _ _ 0 _ _ (0, 0) K6.out
          have x1 : W6.cell? ⟨r, 1, none⟩ = some (.int .i64 t6) := cell_of_row _ _ 1 _ _ (0, 0) K6.out
          have x2 : W6.cell? ⟨r, 2, none⟩ = some (.slice B1 n6 c6) := cell_of_row _ _ 2 _ _ (0, 0) K6.out
          have x3 : W6.cell? ⟨r, 3, none⟩ = some (.slice B2 m6 c7) := cell_of_row _ _ 3 _ _ (0, 0) K6.out
          have hcb6 : W6.heap[g + 2]? = some (.cells #[v] 27 (0, 0)) := (L6.out (g + 2) (by omega)).trans HOW.out
          have q2 : W6.cell? ⟨g + 2, 0, none⟩ = some v := cell_of_row _ _ 0 _ _ (0, 0) hcb6
          have HCB6 := Lib.hid hcb6
          have hR6 := HRW.out.keep (W' := W6) (fun q _ hq => L6.out q (by rw [← HRQ.out]; exact hq))
          obtain ⟨cs, hcs, hcl⟩ := hR6
          have hcn := hcs.1
          have HCSA := Lib.hid (hcs.alloc (.cells #[.bool true, .int .i64 t6, .slice B1 n6 c6, .slice B2 m6 c7] 75))
          have HNEW := Lib.hid (cell_four_new W6 (.bool true) (.int .i64 t6) (.slice B1 n6 c6) (.slice B2 m6 c7) 75)
          have HBA4 := Lib.hid (balloc (bref W6) (.cells #[.bool true, .int .i64 t6, .slice B1 n6 c6, .slice B2 m6 c7] 75))
          have HSZ4 := Lib.hid (alloc_sz W6 (.cells #[.bool true, .int .i64 t6, .slice B1 n6 c6, .slice B2 m6 c7] 75))
          have HCL := Lib.hid hcl
          have hz6 : r < W6.heap.size := cell_lt x0
          clear hcs hcl hcb6
          go_wp2_with (at_builtin; refine wpList_append_lies _ rfl _ _ 25 rfl (g + 3) 75 i4 (.agg #[.bool false, .int .i64 0, .slice none 0 0, .slice none 0 0]) 4 64 Tryz.underlying25 hi4 hy0 hy1 hy2 rfl (by decide) _ Lk.length cs rfl (by exact HCSA.out) ⟨_, 0, none⟩ 1 1 [.bool true, .int .i64 t6, .slice B1 n6 c6, .slice B2 m6 c7] rfl rfl (by exact HNEW.out) (by intro u hu; simp at hu; rcases hu with rfl | rfl | rfl | rfl <;> rfl) (by omega) (by have := HTL.out; unfold maxLen; omega) (by have := HTL.out; omega) (by have := HSZ4.out; omega) _ rfl ?_; intro g4 cap4 W7 hown4 hgrow4 hat4 hlt4; have hcb5 : W7.heap[g + 2]? = some (.cells #[v] 27 (0, 0)) := (hgrow4.block (g + 2) (by have := HSZ4.out; omega) (fun e => by have := (HROX.out _ e.symm).1; omega)).trans ((HBA4.out.block (g + 2) (by omega)).trans HCB6.out); have s0 : W7.cell? ⟨g + 2, 0, none⟩ = some v := cell_of_row _ _ 0 _ _ (0, 0) hcb5; have sf : W7.frozen? ⟨g + 2, 0, none⟩ = false := by simp [World.frozen?, hcb5])
          have hgB : (W6.alloc (.cells #[.bool true, .int .i64 t6, .slice B1 n6 c6, .slice B2 m6 c7] 75)).grownBy W7 v.ownBlock := ⟨hgrow4.os, hgrow4.tape, hgrow4.output, hgrow4.size, hgrow4.block⟩
          have hrow5 := GRow.append (Q := fun b => g + 3 ≤ b) (m := (true, T6)) (WA := W6.alloc (.cells #[.bool true, .int .i64 t6, .slice B1 n6 c6, .slice B2 m6 c7] 75)) (fun k m hm => by
              obtain ⟨z0, z1, z2, e0, e1, e2, e3, e4⟩ := HCL.out k m hm
              exact ⟨z0, z1, z2, e0, e1, e2, e3, e4.below HBA4.out⟩) hcn (HT6.out.below HBA4.out) hown4 hgB hat4
          rw [← HMO.out, ← HTK.out] at hrow5
          have HROW5 := Lib.hid (hrow5.keep (W' := W7.setCell ⟨g + 2, 0, none⟩ (.slice (some ⟨g4, 0, none⟩) (Lk.length + 1) cap4)) (fun q hq _ => Below.heap_setCell _ _ _ _ (by simp; omega)))
          have hset5 : (W7.setCell ⟨g + 2, 0, none⟩ (.slice (some ⟨g4, 0, none⟩) (Lk.length + 1) cap4)).heap[g + 2]? = some (.cells #[.slice (some ⟨g4, 0, none⟩) (Lk.length + 1) cap4] 27 (0, 0)) := by
            simp [World.setCell, Array.getElem?_modify, hcb5]
          have HSET5 := Lib.hid hset5
          have HGR5 := Lib.hid (grown_at (gown (grown_trans HG6.out (grown_below HBA4.out)) hgB (fun q hq => by have := (HROX.out q hq).1; omega)) 0 (.slice (some ⟨g4, 0, none⟩) (Lk.length + 1) cap4))
          clear hown4 hgrow4 hat4 hlt4 hcb5 s0 sf hgB hrow5 hset5
          go_roundw
          case rel => exact ⟨k + 1, _, by omega, by go_num, HROW5, HSET5, HGR5⟩
          case measure => simp [intOf]; omega
      · rw [hb] at hbit
        rw [hbit] at HDO
        rw [if_pos rfl] at HDO
        go_wp2_with fail
        refine (rhas_run _ _ _).mono ?_
        rintro e w2 ⟨rfl, rfl⟩
        rw [hbit]
        have K6 := Lib.hid (show ((((W3.setCell ⟨r, 0, none⟩ (.bool false)).setCell ⟨r, 1, none⟩ (.int .i64 0)).setCell ⟨r, 2, none⟩ (.slice none 0 0)).setCell ⟨r, 3, none⟩ (.slice none 0 0)).heap[r]? = some (.cells #[.bool false, .int .i64 0, .slice none 0 0, .slice none 0 0] 75 (0, 0)) by
          simp [World.setCell, Array.getElem?_modify, HKX.out])
        have l6 : ∀ q, q ≠ r → ((((W3.setCell ⟨r, 0, none⟩ (.bool false)).setCell ⟨r, 1, none⟩ (.int .i64 0)).setCell ⟨r, 2, none⟩ (.slice none 0 0)).setCell ⟨r, 3, none⟩ (.slice none 0 0)).heap[q]? = W3.heap[q]? := fun q hq =>
          (Below.heap_setCell _ _ _ _ (by simpa using hq)).trans ((Below.heap_setCell _ _ _ _ (by simpa using hq)).trans ((Below.heap_setCell _ _ _ _ (by simpa using hq)).trans (Below.heap_setCell _ _ _ _ (by simpa using hq))))
        have L6 := Lib.hid (fun q (hq : q < r) => (l6 q (by omega)).trans (HLX.out q hq))
        have HG6 := Lib.hid (gset (gset (gset (gset HGX.out (p := ⟨r, 0, none⟩) (by show W1.heap.size ≤ r; omega) (.bool false)) (p := ⟨r, 1, none⟩) (by show W1.heap.size ≤ r; omega) (.int .i64 0)) (p := ⟨r, 2, none⟩) (by show W1.heap.size ≤ r; omega) (.slice none 0 0)) (p := ⟨r, 3, none⟩) (by show W1.heap.size ≤ r; omega) (.slice none 0 0))
        have HMO := HDO
        clear l6
        go_upto_region 11 with fail
        generalize ((((W3.setCell ⟨r, 0, none⟩ (.bool false)).setCell ⟨r, 1, none⟩ (.int .i64 0)).setCell ⟨r, 2, none⟩ (.slice none 0 0)).setCell ⟨r, 3, none⟩ (.slice none 0 0)) = W6 at *
        have HT6 := Lib.hid (TAt.empty (fun b => g + 3 ≤ b ∧ v.ownBlock ≠ some b) 1 W6 none none 0 0)
        clear r0 r1 r2 r3 rf0 rf1 rf2 rf3
        have x0 : W6.cell? ⟨r, 0, none⟩ = some (.bool false) := cell_of_row _ _ 0 _ _ (0, 0) K6.out
        have x1 : W6.cell? ⟨r, 1, none⟩ = some (.int .i64 0) := cell_of_row _ _ 1 _ _ (0, 0) K6.out
        have x2 : W6.cell? ⟨r, 2, none⟩ = some (.slice none 0 0) := cell_of_row _ _ 2 _ _ (0, 0) K6.out
        have x3 : W6.cell? ⟨r, 3, none⟩ = some (.slice none 0 0) := cell_of_row _ _ 3 _ _ (0, 0) K6.out
        have hcb6 : W6.heap[g + 2]? = some (.cells #[v] 27 (0, 0)) := (L6.out (g + 2) (by omega)).trans HOW.out
        have q2 : W6.cell? ⟨g + 2, 0, none⟩ = some v := cell_of_row _ _ 0 _ _ (0, 0) hcb6
        have HCB6 := Lib.hid hcb6
        have hR6 := HRW.out.keep (W' := W6) (fun q _ hq => L6.out q (by rw [← HRQ.out]; exact hq))
        obtain ⟨cs, hcs, hcl⟩ := hR6
        have hcn := hcs.1
        have HCSA := Lib.hid (hcs.alloc (.cells #[.bool false, .int .i64 0, .slice none 0 0, .slice none 0 0] 75))
        have HNEW := Lib.hid (cell_four_new W6 (.bool false) (.int .i64 0) (.slice none 0 0) (.slice none 0 0) 75)
        have HBA4 := Lib.hid (balloc (bref W6) (.cells #[.bool false, .int .i64 0, .slice none 0 0, .slice none 0 0] 75))
        have HSZ4 := Lib.hid (alloc_sz W6 (.cells #[.bool false, .int .i64 0, .slice none 0 0, .slice none 0 0] 75))
        have HCL := Lib.hid hcl
        have hz6 : r < W6.heap.size := cell_lt x0
        clear hcs hcl hcb6
        go_wp2_with (at_builtin; refine wpList_append_lies _ rfl _ _ 25 rfl (g + 3) 75 i4 (.agg #[.bool false, .int .i64 0, .slice none 0 0, .slice none 0 0]) 4 64 Tryz.underlying25 hi4 hy0 hy1 hy2 rfl (by decide) _ Lk.length cs rfl (by exact HCSA.out) ⟨_, 0, none⟩ 1 1 [.bool false, .int .i64 0, .slice none 0 0, .slice none 0 0] rfl rfl (by exact HNEW.out) (by intro u hu; simp at hu; rcases hu with rfl | rfl | rfl | rfl <;> rfl) (by omega) (by have := HTL.out; unfold maxLen; omega) (by have := HTL.out; omega) (by have := HSZ4.out; omega) _ rfl ?_; intro g4 cap4 W7 hown4 hgrow4 hat4 hlt4; have hcb5 : W7.heap[g + 2]? = some (.cells #[v] 27 (0, 0)) := (hgrow4.block (g + 2) (by have := HSZ4.out; omega) (fun e => by have := (HROX.out _ e.symm).1; omega)).trans ((HBA4.out.block (g + 2) (by omega)).trans HCB6.out); have s0 : W7.cell? ⟨g + 2, 0, none⟩ = some v := cell_of_row _ _ 0 _ _ (0, 0) hcb5; have sf : W7.frozen? ⟨g + 2, 0, none⟩ = false := by simp [World.frozen?, hcb5])
        have hgB : (W6.alloc (.cells #[.bool false, .int .i64 0, .slice none 0 0, .slice none 0 0] 75)).grownBy W7 v.ownBlock := ⟨hgrow4.os, hgrow4.tape, hgrow4.output, hgrow4.size, hgrow4.block⟩
        have hrow5 := GRow.append (Q := fun b => g + 3 ≤ b) (m := (false, .mk 0 [] [])) (WA := W6.alloc (.cells #[.bool false, .int .i64 0, .slice none 0 0, .slice none 0 0] 75)) (fun k m hm => by
            obtain ⟨z0, z1, z2, e0, e1, e2, e3, e4⟩ := HCL.out k m hm
            exact ⟨z0, z1, z2, e0, e1, e2, e3, e4.below HBA4.out⟩) hcn (HT6.out.below HBA4.out) hown4 hgB hat4
        rw [← HMO.out, ← HTK.out] at hrow5
        have HROW5 := Lib.hid (hrow5.keep (W' := W7.setCell ⟨g + 2, 0, none⟩ (.slice (some ⟨g4, 0, none⟩) (Lk.length + 1) cap4)) (fun q hq _ => Below.heap_setCell _ _ _ _ (by simp; omega)))
        have hset5 : (W7.setCell ⟨g + 2, 0, none⟩ (.slice (some ⟨g4, 0, none⟩) (Lk.length + 1) cap4)).heap[g + 2]? = some (.cells #[.slice (some ⟨g4, 0, none⟩) (Lk.length + 1) cap4] 27 (0, 0)) := by
          simp [World.setCell, Array.getElem?_modify, hcb5]
        have HSET5 := Lib.hid hset5
        have HGR5 := Lib.hid (grown_at (gown (grown_trans HG6.out (grown_below HBA4.out)) hgB (fun q hq => by have := (HROX.out q hq).1; omega)) 0 (.slice (some ⟨g4, 0, none⟩) (Lk.length + 1) cap4))
        clear hown4 hgrow4 hat4 hlt4 hcb5 s0 sf hgB hrow5 hset5
        go_roundw
        case rel => exact ⟨k + 1, _, by omega, by go_num, HROW5, HSET5, HGR5⟩
        case measure => simp [intOf]; omega
    · obtain rfl : k = ms.length := by omega
      have HLE := Lib.hid (show (delM s ms).take ms.length = delM s ms by rw [← delM_len s ms, List.take_length])
      have hrl : GRow (fun b => g + 3 ≤ b) (g + 3) 2 wr v (delM s ms) := by have h1 := hRow.out; rw [HLE.out] at h1; exact h1
      have hvs : ∃ A c, v = .slice A (delM s ms).length c := (hrl.mems (P := fun _ => True) (fun _ _ => trivial)).slice
      obtain ⟨Av, cv, rfl⟩ := hvs
      generalize (delM s ms).length = nv at *
      have c2 : wr.cell? ⟨g + 2, 0, none⟩ = some (.slice Av nv cv) := cell_of_row _ _ 0 _ _ (0, 0) hOut.out
      have hres : wr.heap[g + 1]? = some (.cells #[.slice none 0 0] 27 (0, 0)) := (hGr.out.block (g + 1) (by omega) (by simp)).trans K1.out
      have z0 : wr.cell? ⟨g + 1, 0, none⟩ = some (.slice none 0 0) := cell_of_row _ _ 0 _ _ (0, 0) hres
      have zf : wr.frozen? ⟨g + 1, 0, none⟩ = false := by simp [World.frozen?, hres]
      have hset : (wr.setCell ⟨g + 1, 0, none⟩ (.slice Av nv cv)).heap[g + 1]? = some (.cells #[.slice Av nv cv] 27 (0, 0)) := by
        simp [World.setCell, Array.getElem?_modify, hres]
      have q0 : (wr.setCell ⟨g + 1, 0, none⟩ (.slice Av nv cv)).cell? ⟨g + 1, 0, none⟩ = some (.slice Av nv cv) := cell_of_row _ _ 0 _ _ (0, 0) hset
      have hms : MemsAt (fun b => w.heap.size ≤ b) 2 (wr.setCell ⟨g + 1, 0, none⟩ (.slice Av nv cv)) (.slice Av nv cv) (delM s ms) := (hrl.keep (fun q hq _ => Below.heap_setCell _ _ _ _ (by simp; omega))).mems (fun b hb => by have := HG.out; omega)
      have hbW : Below w.heap.size w (wr.setCell ⟨g + 1, 0, none⟩ (.slice Av nv cv)) := by
        have h1 := HB.out
        rw [← HG.out] at h1
        exact bset (h1.grown hGr.out h1.size (fun q hq => by obtain rfl := Option.some.inj hq; have := HG.out; omega)) (p := ⟨g + 1, 0, none⟩) (by have := HG.out; show w.heap.size ≤ g + 1; omega) _
      have HF := Lib.hid (And.intro hms hbW)
      have Q0 := Lib.hid q0
      clear hset q0 hms hbW hres hrl
      go_wp2_with fail
      have q0 := Q0.out
      refine bodyPost_ret (v := .agg #[.slice Av nv cv]) ?_ rfl ⟨_, rfl, HF.out⟩
      simp [results, Tryz.results28, go_sem, q0]

end Go.Proofs.YtacpfcckilnbfaaGreat

namespace Go.Proofs.YtacpfcckilnbfaaGreat
set_option linter.unusedVariables false
set_option linter.unusedSimpArgs false
open Go.RowKit

def sgnI (a b : Int) : Int := if a < b then -1 else if b < a then 1 else 0

theorem sgnI_zero {a b : Int} (h : sgnI a b = 0) : a = b := by
  unfold sgnI at h
  split at h
  · cases h
  · split at h
    · cases h
    · omega

set_option maxHeartbeats 400000 in
theorem sign_run (a b : Int) (w : World) : Calls Tryz.prog 148 #[.int .i64 a, .int .i64 b] w fun e w' => e = .returned (.int .i64 (sgnI a b)) ∧ w = w' := by
  unfold sgnI
  by_cases h1 : a < b
  · rw [if_pos h1]
    go_enter Tryz.func148, Tryz.ntmps148
    go_wp2_with fail
    go_ret
    exact ⟨rfl, rfl⟩
  · rw [if_neg h1]
    by_cases h2 : b < a
    · rw [if_pos h2]
      go_enter Tryz.func148, Tryz.ntmps148
      go_wp2_with fail
      go_ret
      exact ⟨rfl, rfl⟩
    · rw [if_neg h2]
      go_enter Tryz.func148, Tryz.ntmps148
      go_wp2_with fail
      go_ret
      exact ⟨rfl, rfl⟩

def CmpOk (T U : Tree) (e : Ending) : Prop := ∃ c : Int, e = .returned (.int .i64 c) ∧ (c = 0 → T = U)

theorem CmpOk.ne {T U : Tree} {c : Int} (h : c ≠ 0) : CmpOk T U (.returned (.int .i64 c)) := ⟨c, rfl, fun h' => absurd h' h⟩

def TCmpC (d : Nat) : Prop := ∀ (P Q : Nat → Prop) (T U : Tree) (v0 v1 v2 u0 u1 u2 : Value) (w : World), TAt P d w v0 v1 v2 T → TAt Q d w u0 u1 u2 U →
    Calls Tryz.prog 133 #[.agg #[v0, v1, v2], .agg #[u0, u1, u2]] w fun e w' => CmpOk T U e ∧ Below w.heap.size w w'

theorem take_eq_succ {α : Type} {l m : List α} {k : Nat} {x : α} (h : l.take k = m.take k) (h1 : l[k]? = some x) (h2 : m[k]? = some x) : l.take (k + 1) = m.take (k + 1) := by
  rw [List.take_add_one, List.take_add_one, h, h1, h2]

theorem take_eq_all {α : Type} {l m : List α} {k : Nat} (h : l.take k = m.take k) (hl : l.length = m.length) (hk : l.length ≤ k) : l = m := by
  rw [List.take_of_length_le hk, List.take_of_length_le (by omega)] at h
  exact h

theorem getD_some {l : List Int} {k : Nat} (h : k < l.length) : l[k]? = some (l.getD k 0) := by
  rw [List.getD_eq_getElem?_getD, List.getElem?_eq_getElem h]; rfl

set_option maxRecDepth 100000 in
set_option maxHeartbeats 8000000 in
theorem tcmp_step (d : Nat) (ih : TCmpC d) : TCmpC (d + 1) := by
  intro P Q T U v0 v1 v2 u0 u1 u2 w h h2
  obtain ⟨thr, ns, is⟩ := T
  obtain ⟨thr', ms, js⟩ := U
  obtain ⟨rfl, hn, hi, hN, hL⟩ := h.parts
  obtain ⟨rfl, hm, hj, hN2, hL2⟩ := h2.parts
  obtain ⟨A, c, rfl⟩ := hN.slice
  obtain ⟨B, c', rfl⟩ := hL.slice
  obtain ⟨A2, e, rfl⟩ := hN2.slice
  obtain ⟨B2, e', rfl⟩ := hL2.slice
  have hb2 : Below w.heap.size w ((w.alloc (.cells #[.int .i64 thr, .slice A ns.length c, .slice B is.length c'] 73)).alloc (.cells #[.int .i64 thr', .slice A2 ms.length e, .slice B2 js.length e'] 73)) := balloc (balloc (bref w) _) _
  have k0 : ((w.alloc (.cells #[.int .i64 thr, .slice A ns.length c, .slice B is.length c'] 73)).alloc (.cells #[.int .i64 thr', .slice A2 ms.length e, .slice B2 js.length e'] 73)).heap[w.heap.size]? = some (.cells #[.int .i64 thr, .slice A ns.length c, .slice B is.length c'] 73 (0, 0)) := alloc_on (alloc_at rfl)
  have k1 : ((w.alloc (.cells #[.int .i64 thr, .slice A ns.length c, .slice B is.length c'] 73)).alloc (.cells #[.int .i64 thr', .slice A2 ms.length e, .slice B2 js.length e'] 73)).heap[w.heap.size + 1]? = some (.cells #[.int .i64 thr', .slice A2 ms.length e, .slice B2 js.length e'] 73 (0, 0)) := alloc_at (alloc_sz _ _)
  have HN := Lib.hid (hN.below hb2)
  have HN2 := Lib.hid (hN2.below hb2)
  have HL := Lib.hid (hL.below hb2)
  have HL2 := Lib.hid (hL2.below hb2)
  have HB := Lib.hid hb2
  have K0 := Lib.hid k0
  have K1 := Lib.hid k1
  have HI := Lib.hid ih
  clear h h2 hb2 k0 k1 hN hN2 hL hL2 ih
  go_enter Tryz.func133, Tryz.ntmps133
  go_upto_region 1 with fail
  generalize ((w.alloc (.cells #[.int .i64 thr, .slice A ns.length c, .slice B is.length c'] 73)).alloc (.cells #[.int .i64 thr', .slice A2 ms.length e, .slice B2 js.length e'] 73)) = W1 at *
  generalize hg : w.heap.size = g at *
  have HG := Lib.hid hg
  clear hg
  have HBw := Lib.hid (show Below w.heap.size w W1 by rw [HG.out]; exact HB.out)
  clear HB
  have a0 : W1.cell? ⟨g, 0, none⟩ = some (.int .i64 thr) := cell_of_row _ _ 0 _ _ (0, 0) K0.out
  have a1 : W1.cell? ⟨g, 1, none⟩ = some (.slice A ns.length c) := cell_of_row _ _ 1 _ _ (0, 0) K0.out
  have b0 : W1.cell? ⟨g + 1, 0, none⟩ = some (.int .i64 thr') := cell_of_row _ _ 0 _ _ (0, 0) K1.out
  have b1 : W1.cell? ⟨g + 1, 1, none⟩ = some (.slice A2 ms.length e) := cell_of_row _ _ 1 _ _ (0, 0) K1.out
  go_wp2_with fail
  refine (sign_run thr thr' _).mono ?_
  rintro e3 w2 ⟨rfl, rfl⟩
  by_cases hth : ¬ sgnI thr thr' = 0
  · have HF := Lib.hid (show CmpOk (.mk thr ns is) (.mk thr' ms js) (.returned (.int .i64 (sgnI thr thr'))) from CmpOk.ne hth)
    generalize sgnI thr thr' = cc at *
    have q0 : (cc != 0) = true := bne_iff_ne.2 hth
    go_wp2_with fail
    go_ret
    exact ⟨HF.out, HBw.out⟩
  have hth := Decidable.not_not.1 hth
  obtain rfl := sgnI_zero hth
  rw [hth]
  clear hth
  go_wp2_with fail
  clear a0 a1 b0 b1
  go_loopw [6] (fun t W => ∃ k : Nat, k ≤ ns.length ∧ k ≤ ms.length ∧ t = .int .i64 k ∧ Hid (ns.take k = ms.take k) ∧ Hid (Below W1.heap.size W1 W)) (fun t _ => ns.length - (intOf t).toNat)
  case atStart => exact ⟨0, Nat.zero_le _, Nat.zero_le _, rfl, Lib.hid rfl, Lib.hid (bref _)⟩
  case round =>
    obtain ⟨k, hk, hk2, rfl, hE, hBe⟩ := hrel
    have a1 : wr.cell? ⟨g, 1, none⟩ = some (.slice A ns.length c) := cell_of_row _ _ 1 _ _ (0, 0) ((hBe.out.block _ (Array.getElem?_eq_some_iff.1 K0.out).1).trans K0.out)
    have b1 : wr.cell? ⟨g + 1, 1, none⟩ = some (.slice A2 ms.length e) := cell_of_row _ _ 1 _ _ (0, 0) ((hBe.out.block _ (Array.getElem?_eq_some_iff.1 K1.out).1).trans K1.out)
    by_cases hboth : k < ns.length ∧ k < ms.length
    · obtain ⟨hlt, hlt2⟩ := hboth
      obtain ⟨A', c1, hA', hcs⟩ := HN.out
      injection hA' with q1 q2 q3
      subst q1
      obtain ⟨A3, c3, hA3, hcs3⟩ := HN2.out
      injection hA3 with r1 r2 r3
      subst r1
      obtain ⟨b, off, rfl, _, e1⟩ := hcs k hlt
      obtain ⟨b', off', rfl, _, e2⟩ := hcs3 k hlt2
      have d1 := (World.cell?_of_block (a := ⟨b, off + k, none⟩) (hBe.out.block b (cell_lt e1))).trans e1
      have d2 := (World.cell?_of_block (a := ⟨b', off' + k, none⟩) (hBe.out.block b' (cell_lt e2))).trans e2
      have HX := Lib.hid (getD_some hlt)
      have HY := Lib.hid (getD_some hlt2)
      clear e1 e2 hcs hcs3 q2 q3 r2 r3
      generalize ns.getD k 0 = x at *
      generalize ms.getD k 0 = y at *
      go_wp2_with fail
      go_quiet ((go_at_call 148; exact (sign_run _ _ _).mono (by rintro e w2 ⟨rfl, rfl⟩; exact ⟨rfl, _, rfl⟩)))
      by_cases hxy : sgnI x y = 0
      · obtain rfl := sgnI_zero hxy
        have HE2 := Lib.hid (take_eq_succ hE.out HX.out HY.out)
        rw [hxy]
        clear hxy
        go_wp2_with fail
        go_roundw
        case rel => exact ⟨k + 1, hlt, hlt2, by go_num, HE2, Lib.hid (bdrewN hBe.out nq)⟩
        case measure => simp [intOf]; omega
      · have HF := Lib.hid (show CmpOk (.mk thr ns is) (.mk thr ms js) (.returned (.int .i64 (sgnI x y))) from CmpOk.ne hxy)
        generalize sgnI x y = cc at *
        have q0 : (cc != 0) = true := bne_iff_ne.2 hxy
        go_wp2_with fail
        go_ret
        exact ⟨HF.out, bstep HBw.out (bdrewN hBe.out nq)⟩
    · have a2 : wr.cell? ⟨g, 2, none⟩ = some (.slice B is.length c') := cell_of_row _ _ 2 _ _ (0, 0) ((hBe.out.block _ (Array.getElem?_eq_some_iff.1 K0.out).1).trans K0.out)
      have b2 : wr.cell? ⟨g + 1, 2, none⟩ = some (.slice B2 js.length e') := cell_of_row _ _ 2 _ _ (0, 0) ((hBe.out.block _ (Array.getElem?_eq_some_iff.1 K1.out).1).trans K1.out)
      have HKE := Lib.hid (show k = ns.length ∨ k = ms.length by omega)
      have HEK := hE
      have HEXIT := Lib.hid (show ns.length = ms.length → ns = ms from fun hl => take_eq_all hE.out hl (by omega))
      generalize hla : ns.length = la at *
      generalize hlb : ms.length = lb at *
      clear hla hlb hE HEK
      have go_on : True := trivial
      by_cases hka : k < la
      · obtain rfl : k = lb := by have := HKE.out; omega
        have hkb : ¬ k < k := by omega
        have hsg : sgnI (la : Int) (k : Int) = 1 := by unfold sgnI; rw [if_neg (by omega), if_pos (by omega)]
        have HS := Lib.hid hsg
        clear hsg
        go_wp2_with fail
        refine (sign_run _ _ _).mono ?_
        rintro e3 w2 ⟨rfl, rfl⟩
        rw [HS.out]
        go_wp2_with fail
        go_ret
        exact ⟨CmpOk.ne (by omega), bstep HBw.out hBe.out⟩
      · obtain rfl : k = la := by omega
        by_cases hab : k = lb
        · subst hab
          obtain rfl := HEXIT.out rfl
          have hsg : sgnI (k : Int) (k : Int) = 0 := by unfold sgnI; rw [if_neg (by omega), if_neg (by omega)]
          have HS := Lib.hid hsg
          clear hsg
          go_wp2_with fail
          refine (sign_run _ _ _).mono ?_
          rintro e3 w2 ⟨rfl, rfl⟩
          rw [HS.out]
          obtain ⟨wo, rfl⟩ : ∃ wo : World, wo = wr := ⟨_, rfl⟩
          have HLW := Lib.hid (HL.out.below hBe.out)
          have HLW2 := Lib.hid (HL2.out.below hBe.out)
          have HB2 := Lib.hid (bstep HBw.out hBe.out)
          have HK0 := Lib.hid ((hBe.out.block _ (Array.getElem?_eq_some_iff.1 K0.out).1).trans K0.out)
          have HK1 := Lib.hid ((hBe.out.block _ (Array.getElem?_eq_some_iff.1 K1.out).1).trans K1.out)
          clear hBe K0 K1 HL HL2 HN HN2 HBw
          go_wp2_with fail
          clear a1 b1 a2 b2
          go_loopw [9] (fun t W => ∃ k : Nat, k ≤ is.length ∧ k ≤ js.length ∧ t = .int .i64 k ∧ Hid (is.take k = js.take k) ∧ Hid (Below wo.heap.size wo W)) (fun t _ => is.length - (intOf t).toNat)
          case atStart => exact ⟨0, Nat.zero_le _, Nat.zero_le _, rfl, Lib.hid rfl, Lib.hid (bref _)⟩
          case round =>
            obtain ⟨j, hj1, hj2, rfl, hE, hBe⟩ := hrel
            have a2 : wr.cell? ⟨g, 2, none⟩ = some (.slice B is.length c') := cell_of_row _ _ 2 _ _ (0, 0) ((hBe.out.block _ (Array.getElem?_eq_some_iff.1 HK0.out).1).trans HK0.out)
            have b2 : wr.cell? ⟨g + 1, 2, none⟩ = some (.slice B2 js.length e') := cell_of_row _ _ 2 _ _ (0, 0) ((hBe.out.block _ (Array.getElem?_eq_some_iff.1 HK1.out).1).trans HK1.out)
            by_cases hboth : j < is.length ∧ j < js.length
            · obtain ⟨hlt, hlt2⟩ := hboth
              obtain ⟨T, hT⟩ : ∃ T, is[j]? = some T := ⟨_, List.getElem?_eq_getElem hlt⟩
              obtain ⟨U, hU⟩ : ∃ U, js[j]? = some U := ⟨_, List.getElem?_eq_getElem hlt2⟩
              have h1 := HLW.out.below hBe.out
              have h2 := HLW2.out.below hBe.out
              obtain ⟨Bn, cn, hBn, hLc⟩ := h1
              obtain ⟨Bm, cm, hBm, hLd⟩ := h2
              injection hBn with q1 q2 q3
              injection hBm with r1 r2 r3
              subst q1 r1
              obtain ⟨b, off, x0, x1, x2, rfl, _, d0, d1, d2, hTk⟩ := hLc j T hT
              obtain ⟨b', off', y0, y1, y2, rfl, _, f0, f1, f2, hTj⟩ := hLd j U hU
              obtain ⟨t', A', n', ca, B', m', cb, rfl, rfl, rfl⟩ := hTk.form
              obtain ⟨t2, A3, n3, ca3, B3, m3, cb3, rfl, rfl, rfl⟩ := hTj.form
              have HTk := Lib.hid (TAt.keep (w := wr) (w' := wr.drew) (fun _ _ _ => rfl) hTk)
              have HTj := Lib.hid (TAt.keep (w := wr) (w' := wr.drew) (fun _ _ _ => rfl) hTj)
              have HE2 := Lib.hid (show T = U → is.take (j + 1) = js.take (j + 1) from fun e => take_eq_succ hE.out hT (by rw [e]; exact hU))
              have hsz := hBe.out.size
              clear hTk hTj hLc hLd hT hU q2 q3 r2 r3
              go_wp2_with fail
              go_region_with ((go_at_call 133; refine (HI.out _ _ T U _ _ _ _ _ _ _ (by exact HTk.out) (by exact HTj.out)).mono ?_; rintro e3 W5 ⟨⟨cc, rfl, hcc⟩, hb5⟩))
              all_goals
                have HB5 := Lib.hid (show Below wo.heap.size wo W5 from bstep (bdrew hBe.out) hb5)
                have HCC := Lib.hid hcc
                clear hb5 hcc
                by_cases h0 : cc = 0
                · subst h0
                  have HE3 := Lib.hid (HE2.out (HCC.out rfl))
                  go_wp2_with fail
                  go_roundw
                  case rel => exact ⟨j + 1, hlt, hlt2, by go_num, HE3, HB5⟩
                  case measure => simp [intOf]; omega
                · have q0 : (cc != 0) = true := bne_iff_ne.2 h0
                  go_wp2_with fail
                  go_ret
                  exact ⟨CmpOk.ne h0, bstep HB2.out HB5.out⟩
            · have HKE := Lib.hid (show j = is.length ∨ j = js.length by omega)
              have HF := Lib.hid (show CmpOk (.mk thr ns is) (.mk thr ns js) (.returned (.int .i64 (sgnI (is.length : Int) (js.length : Int)))) from ⟨_, rfl, fun h0 => by
                have h1 := sgnI_zero h0
                rw [take_eq_all hE.out (by omega) (by omega)]⟩)
              have HSG := Lib.hid (sign_run (is.length : Int) (js.length : Int))
              generalize hla : is.length = la at *
              generalize hlb : js.length = lb at *
              clear hla hlb hE
              generalize sgnI (la : Int) (lb : Int) = cc at *
              by_cases hka : j < la
              · obtain rfl : j = lb := by have := HKE.out; omega
                have hkb : ¬ j < j := by omega
                go_wp2_with fail
                refine (HSG.out _).mono ?_
                rintro e3 w2 ⟨rfl, rfl⟩
                go_wp2_with fail
                go_ret
                exact ⟨HF.out, bstep HB2.out hBe.out⟩
              · obtain rfl : j = la := by omega
                go_wp2_with fail
                refine (HSG.out _).mono ?_
                rintro e3 w2 ⟨rfl, rfl⟩
                go_wp2_with fail
                go_ret
                exact ⟨HF.out, bstep HB2.out hBe.out⟩
        · have hsg : sgnI (k : Int) (lb : Int) = -1 := by unfold sgnI; rw [if_pos (by omega)]
          have HS := Lib.hid hsg
          clear hsg
          go_wp2_with fail
          refine (sign_run _ _ _).mono ?_
          rintro e3 w2 ⟨rfl, rfl⟩
          rw [HS.out]
          go_wp2_with fail
          go_ret
          exact ⟨CmpOk.ne (by omega), bstep HBw.out hBe.out⟩

theorem tcmp_run : ∀ d, TCmpC d
  | 0 => fun P Q T U v0 v1 v2 u0 u1 u2 w h _ => h.elim
  | d + 1 => tcmp_step d (tcmp_run d)

end Go.Proofs.YtacpfcckilnbfaaGreat

namespace Go.Proofs.YtacpfcckilnbfaaGreat
set_option linter.unusedVariables false
set_option linter.unusedSimpArgs false
open Go Go.RowKit

theorem run_copy_rowM {P : Program} (w : World) (dT sT ty elem : TypeId) (m g o dLen dCap : Nat) (a : Addr) (sLen sCap : Nat) (cur : Array Value) (t : TypeId) (cs : List Value)
    (hu : P.underlying dT = some (.slice elem)) (hs : (P.info? elem).map (·.size) = some m)
    (hg : w.heap[g]? = some (.cells cur t (0, 0))) (hn : cs.length = Nat.min sLen dLen * m)
    (hsrc : ∀ j v, cs[j]? = some v → w.cell? (a.add j) = some v) (hfit : o + cs.length ≤ cur.size) (h1 : ∀ v ∈ cs, v.oneCell' = true) :
    (Builtin.copy_ #[dT, sT] ty #[.slice (some ⟨g, o, none⟩) dLen dCap, .slice (some a) sLen sCap]).run P w =
      .ok (goInt (Nat.min sLen dLen)) (w.setRow g (cur.toList.take o ++ cs ++ cur.toList.drop (o + cs.length)).toArray) := by
  have hl := run_loadCells_list (P := P) w a cs hsrc
  have hst := run_storeCells_at P g o t cs 0 cur w hg (by simpa using hfit) h1
  cases hq : P.info? elem with
  | none => simp [hq] at hs
  | some i =>
    have hi : i.size = m := by simpa [hq] using hs
    simp [Builtin.copy_, run_underlying hu, Builtin.lenOf, Builtin.firstCells, sizeOf, typeInfo, hq, hi, ← hn, hl, hst]

theorem run_copy_noneM {P : Program} (w : World) (dT sT ty elem : TypeId) (m : Nat) (d a : Option Addr) (dLen dCap sLen sCap : Nat) (hu : P.underlying dT = some (.slice elem)) (hs : (P.info? elem).map (·.size) = some m) (hn : Nat.min sLen dLen = 0) :
    (Builtin.copy_ #[dT, sT] ty #[.slice d dLen dCap, .slice a sLen sCap]).run P w = .ok (goInt 0) w := by
  cases hq : P.info? elem with
  | none => simp [hq] at hs
  | some i =>
    have hl : ∀ (x : Addr), (loadCells x 0).run P w = .ok #[] w := fun x => by simpa using run_loadCells_list (P := P) w x [] (by simp)
    cases d <;> cases a <;> simp [Builtin.copy_, run_underlying hu, Builtin.lenOf, Builtin.firstCells, sizeOf, typeInfo, hq, hn, storeCells, hl]

theorem step_copy_spliceM {P : Program} {ops : Array Oper} {o : Oper} {a : Act} {w : World} {K : Act → World → Prop} {Q : Exit → Act → World → Prop} {E : Prop} (hgd : o.guard = none) (d s : Operand) (dT sT : TypeId)
    (ho : o.op = .call { callee := .builtin .copy, args := #[d, s], argTypes := #[dT, sT] }) (elem : TypeId) (m : Nat) (hm : 0 < m) (hu : P.underlying dT = some (.slice elem)) (hsz : (P.info? elem).map (·.size) = some m)
    (dp sp : Option Addr) (dLen dCap sLen sCap : Nat) (hd : a.eval d = .slice dp dLen dCap) (hs : a.eval s = .slice sp sLen sCap)
    (g off : Nat) (cur : List Value) (t : TypeId) (hg : w.heap[g]? = some (.cells cur.toArray t (0, 0))) (cs : List Value) (N : Nat) (hN : N = Nat.min sLen dLen) (hn : cs.length = N * m)
    (hpos : 0 < cs.length → dp = some ⟨g, off, none⟩ ∧ ∃ ad, sp = some ad ∧ ∀ j v, cs[j]? = some v → w.cell? (ad.add j) = some v)
    (hfit : off + cs.length ≤ cur.length) (h1 : ∀ v ∈ cs, v.oneCell' = true) (B : Nat) (w0 : World) (hb : RowKit.Below B w0 w) (hBg : B ≤ g)
    (h : ∀ w', RowKit.Hid (w'.heap[g]? = some (.cells (splice cur off cs).toArray t (0, 0))) → RowKit.Below B w0 w' → (∀ q, q ≠ g → w'.heap[q]? = w.heap[q]?) → K (a.put o.dst (goInt N)) w') :
    if Region.wanted o (yielded ops a.tmps) = true then Oper.wp P o a w K Q else E := by
  have hw : Region.wanted o (yielded ops a.tmps) = true := by simp [Region.wanted, hgd]
  rw [if_pos hw]
  by_cases h0 : cs.length = 0
  · obtain rfl : cs = [] := List.eq_nil_of_length_eq_zero h0
    have hN0 : N = 0 := by
      rcases Nat.mul_eq_zero.1 (hn.symm.trans rfl : N * m = 0) with h2 | h2
      · exact h2
      · omega
    subst hN0
    have hrun := run_copy_noneM (P := P) w dT sT o.type elem m dp sp dLen dCap sLen sCap hu hsz hN.symm
    unfold Oper.wp
    simp [execOp, ho, resolve, invoke, builtin, hd, hs, hrun, Result.andThen]
    exact h w (show _ = _ by simpa [splice] using hg) hb (fun _ _ => rfl)
  · obtain ⟨rfl, ad, rfl, hsrc⟩ := hpos (by omega)
    have hrun := run_copy_rowM (P := P) w dT sT o.type elem m g off dLen dCap ad sLen sCap cur.toArray t cs hu hsz hg (by rw [hn, hN]) hsrc (by simpa using hfit) h1
    rw [← hN] at hrun
    unfold Oper.wp
    simp [execOp, ho, resolve, invoke, builtin, hd, hs, hrun, Result.andThen]
    exact h _ (show _ = _ by simpa [splice] using setRow_heap w g _ _ t _ hg) (below_setRow hb hBg _) (fun q hq => setRow_other w g q _ hq)

end Go.Proofs.YtacpfcckilnbfaaGreat

namespace Go.Proofs.YtacpfcckilnbfaaGreat
set_option linter.unusedVariables false
set_option linter.unusedSimpArgs false
open Go.RowKit

/-- The cells of some trusts. -/
def cell3 (l : List (Value × Value × Value)) : List Value := l.flatMap (fun x => [x.1, x.2.1, x.2.2])

theorem cell3_len : ∀ (l : List (Value × Value × Value)), (cell3 l).length = l.length * 3
  | [] => rfl
  | x :: l => by
    have := cell3_len l
    unfold cell3 at *
    rw [List.flatMap_cons, List.length_append, this]
    simp; omega

theorem cell3_app (l m : List (Value × Value × Value)) : cell3 (l ++ m) = cell3 l ++ cell3 m := by unfold cell3; rw [List.flatMap_append]

theorem cell3_take : ∀ (l : List (Value × Value × Value)) (k : Nat), (cell3 l).take (k * 3) = cell3 (l.take k)
  | [], k => by simp [cell3]
  | x :: l, 0 => by simp [cell3]
  | x :: l, k + 1 => by
    have ih := cell3_take l k
    unfold cell3 at *
    rw [List.flatMap_cons, List.take_succ_cons, List.flatMap_cons, show (k + 1) * 3 = 3 + k * 3 by omega, ← ih]
    rw [List.take_append, List.take_of_length_le (by simp)]
    simp

theorem cell3_drop (l : List (Value × Value × Value)) (k : Nat) (hk : k ≤ l.length) : (cell3 l).drop (k * 3) = cell3 (l.drop k) := by
  have h : cell3 l = cell3 (l.take k) ++ cell3 (l.drop k) := by rw [← cell3_app, List.take_append_drop]
  rw [h, List.drop_append]
  have h2 : (cell3 (l.take k)).length = k * 3 := by rw [cell3_len, List.length_take, Nat.min_eq_left hk]
  rw [List.drop_of_length_le (by omega), h2, Nat.sub_self, List.drop_zero, List.nil_append]

theorem cell3_get : ∀ (l : List (Value × Value × Value)) (k : Nat) (x : Value × Value × Value), l[k]? = some x → (cell3 l)[k * 3]? = some x.1 ∧ (cell3 l)[k * 3 + 1]? = some x.2.1 ∧ (cell3 l)[k * 3 + 2]? = some x.2.2
  | [], k, x, h => by cases h
  | y :: l, 0, x, h => by
    cases h
    unfold cell3
    rw [List.flatMap_cons]
    simp
  | y :: l, k + 1, x, h => by
    have ih := cell3_get l k x (by simpa using h)
    unfold cell3 at *
    rw [List.flatMap_cons]
    refine ⟨?_, ?_, ?_⟩
    · rw [List.getElem?_append_right (by simp; omega)]; simpa [show (k + 1) * 3 - 3 = k * 3 by omega] using ih.1
    · rw [List.getElem?_append_right (by simp; omega)]; simpa [show (k + 1) * 3 + 1 - 3 = k * 3 + 1 by omega] using ih.2.1
    · rw [List.getElem?_append_right (by simp; omega)]; simpa [show (k + 1) * 3 + 2 - 3 = k * 3 + 2 by omega] using ih.2.2

/-- A row of trusts of its own, from B on, with what it refers to in blocks of Q. -/
def TRow (Q : Nat → Prop) (B d : Nat) (W : World) (v : Value) (ts : List Tree) : Prop :=
  ∃ l : List (Value × Value × Value), l.length = ts.length ∧ W.ownsRow B 73 3 v ts.length (cell3 l) ∧ ∀ (k : Nat) (x : Value × Value × Value) (T : Tree), l[k]? = some x → ts[k]? = some T → TAt Q d W x.1 x.2.1 x.2.2 T

theorem TRow.nil (Q : Nat → Prop) (B d : Nat) (W : World) : TRow Q B d W (.slice none 0 0) [] := ⟨[], rfl, World.ownsRow_nil _ _ _ _, fun k x T h => by cases h⟩

theorem TRow.own {Q : Nat → Prop} {B d : Nat} {W : World} {v : Value} {ts : List Tree} (h : TRow Q B d W v ts) : ∀ j, v.ownBlock = some j → B ≤ j ∧ j < W.heap.size := by
  obtain ⟨l, _, h1, _⟩ := h
  exact h1.lt

theorem TRow.below {Q : Nat → Prop} {B d : Nat} {W W' : World} {v : Value} {ts : List Tree} (h : TRow Q B d W v ts) (hb : Below W.heap.size W W') : TRow Q B d W' v ts := by
  obtain ⟨l, h0, h1, h2⟩ := h
  exact ⟨l, h0, own_bel h1 hb, fun k x T hx hT => (h2 k x T hx hT).below hb⟩

theorem TRow.listP {Q R : Nat → Prop} {B d : Nat} {W : World} {v : Value} {ts : List Tree} (h : TRow Q B d W v ts) (hQ : ∀ b, Q b → R b) (hB : ∀ b, B ≤ b → R b) : ListT R d W v ts := by
  obtain ⟨l, h0, h1, h2⟩ := h
  rcases h1.2 with ⟨hv, hn⟩ | ⟨g, cap, cur, hv, hb, _⟩
  · exact ⟨none, 0, by rw [hv, hn], fun k T hT => by have := (List.getElem?_eq_some_iff.1 hT).1; omega⟩
  · refine ⟨some ⟨g, 0, none⟩, cap, hv, fun k T hT => ?_⟩
    obtain ⟨x, hx⟩ : ∃ x, l[k]? = some x := ⟨_, List.getElem?_eq_getElem (by rw [h0]; exact (List.getElem?_eq_some_iff.1 hT).1)⟩
    obtain ⟨e0, e1, e2⟩ := cell3_get l k x hx
    have c : ∀ j u, (cell3 l)[j]? = some u → W.cell? ⟨g, 0 + j, none⟩ = some u := fun j u hu => by
      have := h1.cells (g := g) (by rw [hv]; rfl) j u hu
      rwa [Addr.add_lit] at this
    exact ⟨g, 0, x.1, x.2.1, x.2.2, rfl, hB g hb, c _ _ e0, by rw [Nat.add_assoc]; exact c _ _ e1, by rw [Nat.add_assoc]; exact c _ _ e2, (h2 k x T hx hT).imp (fun b _ h => hQ b h)⟩

theorem TRow.list {Q : Nat → Prop} {B d : Nat} {W : World} {v : Value} {ts : List Tree} (h : TRow Q B d W v ts) : ListT (fun _ => True) d W v ts := h.listP (fun _ _ => trivial) (fun _ _ => trivial)

/-- One element is put in at k. -/
theorem ins3 {α : Type} (X : List α) (z0 z1 z2 a b c : α) (K : Nat) (hK : K ≤ X.length) :
    ((((X ++ [z0, z1, z2]).take (K + 3) ++ X.drop K).set K a).set (K + 1) b).set (K + 2) c = X.take K ++ a :: b :: c :: X.drop K := by
  have h1 : (X ++ [z0, z1, z2]).take (K + 3) = X.take K ++ (X.drop K ++ [z0, z1, z2]).take 3 := by
    have e : X ++ [z0, z1, z2] = X.take K ++ (X.drop K ++ [z0, z1, z2]) := by rw [← List.append_assoc, List.take_append_drop]
    rw [e, List.take_append]
    rw [List.length_take, Nat.min_eq_left hK, List.take_of_length_le (by rw [List.length_take]; omega)]
    simp
  obtain ⟨r0, r1, r2, hr⟩ : ∃ r0 r1 r2, (X.drop K ++ [z0, z1, z2]).take 3 = [r0, r1, r2] := by
    have hl : ((X.drop K ++ [z0, z1, z2]).take 3).length = 3 := by rw [List.length_take, List.length_append]; simp
    generalize (X.drop K ++ [z0, z1, z2]).take 3 = R at hl
    match R, hl with
    | [a, b, c], _ => exact ⟨a, b, c, rfl⟩
  rw [h1, hr]
  have hl : (X.take K).length = K := by rw [List.length_take, Nat.min_eq_left hK]
  generalize X.take K = Y at hl
  subst hl
  rw [List.append_assoc, List.set_append_right _ _ (Nat.le_refl _), List.set_append_right _ _ (by omega), List.set_append_right _ _ (by omega)]
  simp

theorem cell3_ins (l : List (Value × Value × Value)) (x : Value × Value × Value) (k : Nat) (hk : k ≤ l.length) : (cell3 l).take (k * 3) ++ x.1 :: x.2.1 :: x.2.2 :: (cell3 l).drop (k * 3) = cell3 (l.take k ++ x :: l.drop k) := by
  rw [cell3_take, cell3_drop l k hk, cell3_app]
  congr 1

theorem get_ins {α : Type} {l : List α} {x : α} {k : Nat} (hk : k ≤ l.length) (j : Nat) : (l.take k ++ x :: l.drop k)[j]? = if j < k then l[j]? else if j = k then some x else l[j - 1]? := by
  have hl : (l.take k).length = k := by rw [List.length_take, Nat.min_eq_left hk]
  by_cases h1 : j < k
  · rw [if_pos h1, List.getElem?_append_left (by omega), List.getElem?_take, if_pos h1]
  · rw [if_neg h1, List.getElem?_append_right (by omega), hl]
    by_cases h2 : j = k
    · rw [if_pos h2, h2, Nat.sub_self]; rfl
    · rw [if_neg h2]
      obtain ⟨i, rfl⟩ : ∃ i, j = k + 1 + i := ⟨j - k - 1, by omega⟩
      rw [show k + 1 + i - k = i + 1 by omega, List.getElem?_cons_succ, List.getElem?_drop, show k + 1 + i - 1 = k + i by omega]

theorem mem_ins {α : Type} {l : List α} {x y : α} {k : Nat} : y ∈ l.take k ++ x :: l.drop k ↔ y = x ∨ y ∈ l := by
  constructor
  · intro h
    rcases List.mem_append.1 h with h | h
    · exact .inr (List.mem_of_mem_take h)
    · rcases List.mem_cons.1 h with h | h
      · exact .inl h
      · exact .inr (List.mem_of_mem_drop h)
  · rintro (h | h)
    · exact List.mem_append.2 (.inr (List.mem_cons.2 (.inl h)))
    · rw [← List.take_append_drop k l] at h
      rcases List.mem_append.1 h with h | h
      · exact List.mem_append.2 (.inl h)
      · exact List.mem_append.2 (.inr (List.mem_cons.2 (.inr h)))

theorem len_ins {α : Type} {l : List α} {x : α} {k : Nat} (hk : k ≤ l.length) : (l.take k ++ x :: l.drop k).length = l.length + 1 := by
  rw [List.length_append, List.length_cons, List.length_take, List.length_drop]; omega

/-- The first i trusts, each once. -/
structure DiffOf (ts : List Tree) (i : Nat) (ds : List Tree) : Prop where
  sub : ∀ d ∈ ds, d ∈ ts.take i
  all : ∀ t ∈ ts.take i, t ∈ ds
  len : ds.length ≤ i

theorem DiffOf.zero (ts : List Tree) : DiffOf ts 0 [] := ⟨fun d h => by simp at h, fun t h => by simp at h, by simp⟩

theorem take_mem_succ {ts : List Tree} {i : Nat} {t y : Tree} (ht : ts[i]? = some t) : y ∈ ts.take (i + 1) ↔ y ∈ ts.take i ∨ y = t := by
  rw [List.take_add_one, ht, List.mem_append]
  simp

theorem DiffOf.skip {ts ds : List Tree} {i : Nat} {t : Tree} (h : DiffOf ts i ds) (ht : ts[i]? = some t) (hm : t ∈ ds) : DiffOf ts (i + 1) ds :=
  ⟨fun d hd => (take_mem_succ ht).2 (.inl (h.sub d hd)), fun y hy => ((take_mem_succ ht).1 hy).elim (h.all y) (fun e => by rw [e]; exact hm), Nat.le_succ_of_le h.len⟩

theorem DiffOf.put {ts ds : List Tree} {i k : Nat} {t : Tree} (h : DiffOf ts i ds) (ht : ts[i]? = some t) (hk : k ≤ ds.length) : DiffOf ts (i + 1) (ds.take k ++ t :: ds.drop k) :=
  ⟨fun d hd => (take_mem_succ ht).2 ((mem_ins.1 hd).elim .inr (fun h2 => .inl (h.sub d h2))), fun y hy => mem_ins.2 (((take_mem_succ ht).1 hy).elim (fun h2 => .inr (h.all y h2)) .inl), by rw [len_ins hk]; have := h.len; omega⟩

end Go.Proofs.YtacpfcckilnbfaaGreat

namespace Go.Proofs.YtacpfcckilnbfaaGreat
set_option linter.unusedVariables false
set_option linter.unusedSimpArgs false
open Go.RowKit

/-- The box of the trust that is put in. -/
structure BoxD (P : Nat → Prop) (w : World) (g : Nat) (t : Int) (v1 v2 : Value) (T : Tree) (W : World) : Prop where
  box : W.heap[g]? = some (.cells #[.int .i64 t, v1, v2] 73 (0, 0))
  tat : TAt (fun b => P b ∧ b < w.heap.size) 2 W (.int .i64 t) v1 v2 T
  low : w.heap.size ≤ g
  bel : Below w.heap.size w W

theorem BoxD.below {P : Nat → Prop} {w W W' : World} {g : Nat} {t : Int} {v1 v2 : Value} {T : Tree} (h : BoxD P w g t v1 v2 T W) (hb : Below W.heap.size W W') : BoxD P w g t v1 v2 T W' :=
  ⟨(hb.block _ (Array.getElem?_eq_some_iff.1 h.box).1).trans h.box, h.tat.below hb, h.low, bstep h.bel hb⟩

theorem TAt.via {P : Nat → Prop} {w A B : World} {d : Nat} {v0 v1 v2 : Value} {T : Tree} (h : TAt (fun b => P b ∧ b < w.heap.size) d A v0 v1 v2 T) (hA : Below w.heap.size w A) (hB : Below w.heap.size w B) : TAt (fun b => P b ∧ b < w.heap.size) d B v0 v1 v2 T :=
  h.keep (fun k _ hk => (hB.block k hk.2).trans (hA.block k hk.2).symm)

theorem cell3_mem {l : List (Value × Value × Value)} {u : Value} (h : u ∈ cell3 l) : ∃ x ∈ l, u = x.1 ∨ u = x.2.1 ∨ u = x.2.2 := by
  unfold cell3 at h
  obtain ⟨x, hx, hu⟩ := List.mem_flatMap.1 h
  exact ⟨x, hx, by simpa using hu⟩

theorem cell3_one {Q : Nat → Prop} {d : Nat} {W : World} {l : List (Value × Value × Value)} {ds : List Tree} (hl : l.length = ds.length) (h : ∀ (k : Nat) (x : Value × Value × Value) (T : Tree), l[k]? = some x → ds[k]? = some T → TAt Q d W x.1 x.2.1 x.2.2 T) : ∀ u ∈ cell3 l, u.oneCell' = true := fun u hu => by
  obtain ⟨x, hx, he⟩ := cell3_mem hu
  obtain ⟨k, hk, hkx⟩ := List.getElem_of_mem hx
  have h1 : l[k]? = some x := by rw [List.getElem?_eq_getElem hk, hkx]
  obtain ⟨t, A, n, c, B, m, c', e0, e1, e2⟩ := (h k x ds[k] h1 (List.getElem?_eq_getElem (by omega))).form
  rcases he with rfl | rfl | rfl
  · rw [e0]; rfl
  · rw [e1]; rfl
  · rw [e2]; rfl

theorem TRow.ins {P : Nat → Prop} {w W W' : World} {d k : Nat} {v : Value} {l : List (Value × Value × Value)} {ds : List Tree} {x0 x1 x2 : Value} {T : Tree} (hl : l.length = ds.length) (h : ∀ (k : Nat) (x : Value × Value × Value) (T : Tree), l[k]? = some x → ds[k]? = some T → TAt (fun b => P b ∧ b < w.heap.size) d W x.1 x.2.1 x.2.2 T)
    (hk : k ≤ ds.length) (hb : Below w.heap.size w W) (hb' : Below w.heap.size w W') (hT : TAt (fun b => P b ∧ b < w.heap.size) d W x0 x1 x2 T) (hown : W'.ownsRow w.heap.size 73 3 v (ds.length + 1) ((cell3 l).take (k * 3) ++ x0 :: x1 :: x2 :: (cell3 l).drop (k * 3))) :
    TRow (fun b => P b ∧ b < w.heap.size) w.heap.size d W' v (ds.take k ++ T :: ds.drop k) := by
  refine ⟨l.take k ++ (x0, x1, x2) :: l.drop k, by rw [len_ins (by omega), len_ins hk, hl], ?_, fun j x U hx hU => ?_⟩
  · have e := cell3_ins l (x0, x1, x2) k (by omega)
    rw [len_ins hk, ← e]
    exact hown
  · rw [get_ins (by omega)] at hx
    rw [get_ins hk] at hU
    by_cases h1 : j < k
    · rw [if_pos h1] at hx hU
      exact TAt.via (h j x U hx hU) hb hb'
    · rw [if_neg h1] at hx hU
      by_cases h2 : j = k
      · rw [if_pos h2] at hx hU
        cases hx; cases hU
        exact TAt.via hT hb hb'
      · rw [if_neg h2] at hx hU
        exact TAt.via (h _ x U hx hU) hb hb'

def MetP (m : Bool) (T : Tree) (ds : List Tree) : Prop := m = true → T ∈ ds

theorem own_blockM {W : World} {B g n cq m : Nat} {e : TypeId} {xs : List Value} (h : W.ownsRow B e m (.slice (some ⟨g, 0, none⟩) n cq) n xs) : ∃ cur : List Value, W.heap[g]? = some (.cells cur.toArray e (0, 0)) ∧ B ≤ g ∧ n ≤ cq ∧ cq ≤ maxLen ∧ cur.length = cq * m ∧ cur.take (n * m) = xs := by
  rcases h.2 with ⟨h', _⟩ | ⟨g', cap', cur, h', hb, hg, h1, h2, h3, h4⟩
  · simp at h'
  · simp only [Value.slice.injEq, Option.some.injEq, Addr.mk.injEq, and_true, true_and] at h'
    obtain ⟨rfl, rfl⟩ := h'
    exact ⟨cur.toList, by simpa using hg, hb, h1, h2, by simpa using h3, by simpa using h4⟩

theorem src_cellsM {W : World} {B g n cq m : Nat} {e : TypeId} {xs : List Value} (h : W.ownsRow B e m (.slice (some ⟨g, 0, none⟩) n cq) n xs) (k : Nat) : ∀ j v, (xs.drop k)[j]? = some v → W.cell? ((⟨g, k, none⟩ : Addr).add j) = some v := fun j v hv => by
  rw [List.getElem?_drop] at hv
  have h1 := h.cells (g := g) rfl (k + j) v hv
  rw [Addr.add_lit] at h1 ⊢
  simpa using h1

theorem own_splice3 {W : World} {B g n cq k : Nat} {e : TypeId} {cur : List Value} {xs : List Value} {z0 z1 z2 : Value} (hx : xs.length = n * 3) (hk : k ≤ n) (hb : B ≤ g) (h1 : n + 1 ≤ cq) (h2 : cq ≤ maxLen) (h3 : cur.length = cq * 3) (h4 : cur.take ((n + 1) * 3) = xs ++ [z0, z1, z2]) (hg : W.heap[g]? = some (.cells (splice cur ((k + 1) * 3) (xs.drop (k * 3))).toArray e (0, 0))) :
    W.ownsRow B e 3 (.slice (some ⟨g, 0, none⟩) (n + 1) cq) (n + 1) ((xs ++ [z0, z1, z2]).take (k * 3 + 3) ++ xs.drop (k * 3)) := by
  have hd : (xs.drop (k * 3)).length = (n - k) * 3 := by rw [List.length_drop, hx]; omega
  have ht : ((xs ++ [z0, z1, z2]).take (k * 3 + 3)).length = k * 3 + 3 := by rw [List.length_take, List.length_append, hx]; simp; omega
  refine ⟨by rw [List.length_append, hd, ht]; omega, .inr ⟨g, cq, _, rfl, hb, hg, h1, h2, ?_, ?_⟩⟩
  · rw [List.size_toArray, length_splice _ _ _ (by rw [hd]; omega)]; omega
  · rw [← h4]
    show ((splice cur ((k + 1) * 3) (xs.drop (k * 3))).toArray.toList).take ((n + 1) * 3) = _
    unfold splice
    have hc : (cur.take ((k + 1) * 3)).length = (k + 1) * 3 := by rw [List.length_take]; omega
    rw [List.take_take, show min (k * 3 + 3) ((n + 1) * 3) = (k + 1) * 3 by omega, ← List.append_assoc, List.take_append_of_le_length (by rw [List.length_append, hc, hd]; omega)]
    rw [List.take_of_length_le (by rw [List.length_append, hc, hd]; omega)]

set_option maxRecDepth 100000 in
set_option maxHeartbeats 8000000 in
theorem different_run (P : Nat → Prop) (ts : List Tree) (v : Value) (w : World) (hn : ts.length ≤ 3) (h : ListT P 2 w v ts) :
    Calls Tryz.prog 112 #[v] w fun e w' => ∃ v' ds, e = .returned v' ∧ ListT (fun b => P b ∨ w.heap.size ≤ b) 2 w' v' ds ∧ DiffOf ts ts.length ds ∧ Below w.heap.size w w' := by
  obtain ⟨i0, hi, hz0, hz1, hz2⟩ := info_parts infoTr
  obtain ⟨A, c, rfl⟩ := h.slice
  have H := Lib.hid h
  obtain ⟨n, hnn⟩ : ∃ n, ts.length = n := ⟨_, rfl⟩
  have HNN := Lib.hid hnn
  rw [hnn] at hn H ⊢
  clear h hnn
  go_enter Tryz.func112, Tryz.ntmps112
  go_wp2_with fail
  go_loopw [3, 13] (fun u t W => ∃ (i : Nat) (ds : List Tree) (vv : Value), i ≤ n ∧ u = vv ∧ t = .int .i64 i ∧ Hid (TRow (fun b => P b ∧ b < w.heap.size) w.heap.size 2 W vv ds) ∧ Hid (DiffOf ts i ds) ∧ Hid (Below w.heap.size w W)) (fun _ t _ => n - (intOf t).toNat)
  case atStart => exact ⟨0, [], .slice none 0 0, Nat.zero_le _, rfl, rfl, Lib.hid (TRow.nil _ _ _ _), Lib.hid (DiffOf.zero _), Lib.hid (bref _)⟩
  case round =>
    obtain ⟨i, ds, vv, hi2, hv, rfl, hR, hD, hB⟩ := hrel
    replace hv := hv.symm
    subst hv
    by_cases hlt : i < n
    · obtain ⟨T, hT⟩ : ∃ T, ts[i]? = some T := ⟨_, List.getElem?_eq_getElem (by rw [HNN.out]; exact hlt)⟩
      obtain ⟨An, cn, hAn, hLc⟩ := H.out
      injection hAn with q1 q2 q3
      subst q1
      obtain ⟨b, off, x0, x1, x2, rfl, _, e0, e1, e2, hTk⟩ := hLc i T hT
      obtain ⟨t', A1, n1, c1, A2, n2, c2, rfl, rfl, rfl⟩ := hTk.form
      have d0 := (hB.out.cell (cell_lt e0)).trans e0
      have d1 := (hB.out.cell (cell_lt e1)).trans e1
      have d2 := (hB.out.cell (cell_lt e2)).trans e2
      have hTo := ((hTk.imp (Q := fun b => P b ∧ b < w.heap.size) (fun _ hk hP => ⟨hP, hk⟩)).below hB.out).below (balloc (bref wr) (.cells #[.int .i64 t', .slice A1 n1 c1, .slice A2 n2 c2] 73))
      have HX := Lib.hid (show BoxD P w wr.heap.size t' (.slice A1 n1 c1) (.slice A2 n2 c2) T (wr.alloc (.cells #[.int .i64 t', .slice A1 n1 c1, .slice A2 n2 c2] 73)) from ⟨alloc_at rfl, hTo, hB.out.size, balloc hB.out _⟩)
      have HR := Lib.hid (hR.out.below (balloc (bref wr) (.cells #[.int .i64 t', .slice A1 n1 c1, .slice A2 n2 c2] 73)))
      have HTS := Lib.hid hT
      clear e0 e1 e2 hTk hTo hLc q2 q3 hT
      obtain ⟨Ao, co, hvo⟩ : ∃ Ao co, vv = .slice Ao ds.length co := by
        obtain ⟨A', c', h1, _⟩ := hR.out.list
        exact ⟨A', c', h1⟩
      subst hvo
      obtain ⟨no, hno⟩ : ∃ no, ds.length = no := ⟨_, rfl⟩
      have hnol : no ≤ 3 := by have := hD.out.len; omega
      have HNO := Lib.hid hno
      rw [hno] at HR ⊢
      have HOWN := Lib.hid (show ∀ q, (Value.slice Ao no co).ownBlock = some q → q < wr.heap.size from fun q hq => (hR.out.own q (by rw [hno]; exact hq)).2)
      clear hno hR hB
      go_upto_region 5 with fail
      generalize hg5 : wr.heap.size = g5 at *
      generalize (wr.alloc (.cells #[.int .i64 t', .slice A1 n1 c1, .slice A2 n2 c2] 73)) = W3 at *
      clear d0 d1 d2 hg5
      go_wp2_with fail
      go_loopw [6, 7, 19] (fun k m t W => ∃ (j kk : Nat) (mb : Bool), j ≤ no ∧ kk ≤ j ∧ k = .int .i64 kk ∧ m = .bool mb ∧ t = .int .i64 j ∧ Hid (MetP mb T ds) ∧ Hid (Below W3.heap.size W3 W)) (fun _ _ t _ => no - (intOf t).toNat)
      case atStart => exact ⟨0, 0, false, Nat.zero_le _, Nat.le_refl _, rfl, rfl, rfl, Lib.hid (show MetP false T ds from fun h => by cases h), Lib.hid (bref _)⟩
      case round =>
        obtain ⟨j, kk, mb, hj, hkj, rfl, rfl, rfl, hM, hB4⟩ := hrel
        have HX4 := Lib.hid (HX.out.below hB4.out)
        have HR4 := Lib.hid (HR.out.below hB4.out)
        by_cases hlt2 : j < no
        · obtain ⟨l, hl0, hown, hl2⟩ := HR4.out
          obtain ⟨y, hy⟩ : ∃ y, l[j]? = some y := ⟨_, List.getElem?_eq_getElem (by rw [hl0, HNO.out]; exact hlt2)⟩
          obtain ⟨D, hDj⟩ : ∃ D, ds[j]? = some D := ⟨_, List.getElem?_eq_getElem (by rw [HNO.out]; exact hlt2)⟩
          have hTD := hl2 j y D hy hDj
          obtain ⟨f0, f1, f2⟩ := cell3_get l j y hy
          obtain ⟨y0, y1, y2⟩ := y
          obtain ⟨u', B1, m1, z1, B2, m2, z2, rfl, rfl, rfl⟩ := hTD.form
          rcases hown.2 with ⟨hv, h0⟩ | ⟨gb, cap, cur, hv, hbg, _⟩
          · exfalso; rw [HNO.out] at h0; omega
          · have hv' := hv
            injection hv' with v1 v2 v3
            subst v1
            have cc : ∀ q u, (cell3 l)[q]? = some u → wr.cell? ⟨gb, q, none⟩ = some u := fun q u hu => by
              have := hown.cells (g := gb) rfl q u hu
              rwa [Addr.add_lit, Nat.zero_add] at this
            have d0 := cc _ _ f0
            have d1 := cc _ _ f1
            have d2 := cc _ _ f2
            have HMem := Lib.hid (List.mem_of_getElem? hDj)
            have b0 : wr.cell? ⟨g5, 0, none⟩ = some (.int .i64 t') := cell_of_row _ _ 0 _ _ (0, 0) HX4.out.box
            have b1 : wr.cell? ⟨g5, 1, none⟩ = some (.slice A1 n1 c1) := cell_of_row _ _ 1 _ _ (0, 0) HX4.out.box
            have b2 : wr.cell? ⟨g5, 2, none⟩ = some (.slice A2 n2 c2) := cell_of_row _ _ 2 _ _ (0, 0) HX4.out.box
            have HTD := Lib.hid (hTD.below (balloc (bref wr) (.cells #[.int .i64 u', .slice B1 m1 z1, .slice B2 m2 z2] 73)))
            have HTT := Lib.hid (HX4.out.tat.below (balloc (bref wr) (.cells #[.int .i64 u', .slice B1 m1 z1, .slice B2 m2 z2] 73)))
            have HB5 := Lib.hid (balloc hB4.out (.cells #[.int .i64 u', .slice B1 m1 z1, .slice B2 m2 z2] 73))
            have hg5l : g5 < wr.heap.size := (Array.getElem?_eq_some_iff.1 HX4.out.box).1
            clear hl2 hTD f0 f1 f2 hown hv hbg cc hl0 hy hDj v2 v3
            go_wp2_with fail
            refine (tcmp_run 2 _ _ D T _ _ _ _ _ _ _ HTD.out HTT.out).mono ?_
            rintro e w6 ⟨⟨cc, rfl, hcc⟩, hb6⟩
            have HB6 := Lib.hid (bstep HB5.out hb6)
            have HCC := Lib.hid (show cc = 0 → T ∈ ds from fun h => by rw [← hcc h]; exact HMem.out)
            clear hb6 hcc
            rcases (show mb = false ∨ mb = true by cases mb <;> simp) with rfl | rfl
            · by_cases h0 : cc = 0
              · have HM2 := Lib.hid (show MetP true T ds from fun _ => HCC.out h0)
                subst h0
                clear HCC hM
                go_wp2_with fail
                go_roundw
                case rel => exact ⟨j + 1, kk, true, hlt2, by omega, rfl, rfl, by go_num, HM2, HB6⟩
                case measure => simp [intOf]; omega
              · have q0 : (cc == 0) = false := beq_eq_false_iff_ne.2 h0
                by_cases h1 : cc < 0
                · go_wp2_with fail
                  go_roundw
                  case rel => exact ⟨j + 1, j + 1, false, hlt2, Nat.le_refl _, by go_num, rfl, by go_num, hM, HB6⟩
                  case measure => simp [intOf]; omega
                · go_wp2_with fail
                  go_roundw
                  case rel => exact ⟨j + 1, kk, false, hlt2, by omega, rfl, rfl, by go_num, hM, HB6⟩
                  case measure => simp [intOf]; omega
            · by_cases h1 : cc < 0
              · go_wp2_with fail
                go_roundw
                case rel => exact ⟨j + 1, j + 1, true, hlt2, Nat.le_refl _, by go_num, rfl, by go_num, hM, HB6⟩
                case measure => simp [intOf]; omega
              · go_wp2_with fail
                go_roundw
                case rel => exact ⟨j + 1, kk, true, hlt2, by omega, rfl, rfl, by go_num, hM, HB6⟩
                case measure => simp [intOf]; omega
        · obtain rfl : j = no := by omega
          rcases (show mb = true ∨ mb = false by cases mb <;> simp) with rfl | rfl
          · have HD2 := Lib.hid (hD.out.skip HTS.out (hM.out rfl))
            have HBx := Lib.hid HX4.out.bel
            go_wp2_with fail
            go_roundw
            case rel => exact ⟨i + 1, ds, _, hlt, rfl, by go_num, HR4, HD2, HBx⟩
            case measure => simp [intOf]; omega
          · obtain ⟨l, hl0, hown, hl2⟩ := HR4.out
            rw [HNO.out] at hl0 hown
            have HL2 := Lib.hid hl2
            have HL0 := Lib.hid hl0
            have HIN := Lib.hid (hD.out.put HTS.out (k := kk) (by rw [HNO.out]; exact hkj))
            obtain ⟨X, hX⟩ : ∃ X, X = cell3 l := ⟨_, rfl⟩
            have HXE := Lib.hid hX
            have hXl : X.length = j * 3 := by rw [hX, cell3_len, hl0]
            have HXL := Lib.hid hXl
            rw [← hX] at hown
            have hsz := HX4.out.bel.size
            clear hl2 hl0 hX hXl hM
            go_upto_region 16 with (at_builtin; refine wpList_append_lies _ rfl _ _ 71 rfl w.heap.size 73 i0 (.agg #[.int .i64 0, .slice none 0 0, .slice none 0 0]) 3 56 Tryz.underlying71 hi hz0 hz1 hz2 rfl (by decide) _ j X rfl (by exact (hown.alloc _)) ⟨wr.heap.size, 0, none⟩ 1 1 [.int .i64 0, .slice none 0 0, .slice none 0 0] rfl rfl (cell_three_new _ _ _ _ _) (by intro u hu; simp at hu; rcases hu with rfl | rfl | rfl <;> rfl) (by omega) (by unfold maxLen; omega) (by omega) (by simp; omega) _ rfl ?_; intro gq cq W6 hown6 hgrow6 hat6 hlq)
            have HB6 := Lib.hid (Below.grown (balloc HX4.out.bel (.cells #[.int .i64 0, .slice none 0 0, .slice none 0 0] 73)) hgrow6 (by simp; omega) (fun j hj => (hown.lt j hj).1))
            have hne : gq ≠ g5 := by
              have h5 := (Array.getElem?_eq_some_iff.1 HX4.out.box).1
              rcases hat6 with h1 | h1
              · have := HOWN.out _ h1; omega
              · rw [h1, alloc_sz]; omega
            have HX6 := Lib.hid (show BoxD P w g5 t' (.slice A1 n1 c1) (.slice A2 n2 c2) T W6 from ⟨(hgrow6.block g5 (by rw [alloc_sz]; have := (Array.getElem?_eq_some_iff.1 HX4.out.box).1; omega) (fun e => by have := HOWN.out _ e.symm; omega)).trans (alloc_on HX4.out.box), TAt.via HX4.out.tat HX4.out.bel HB6.out, HX4.out.low, HB6.out⟩)
            obtain ⟨cur, hcg, hgB, hnc, hcm, hcl, hct⟩ := own_blockM hown6
            have HSRC := Lib.hid (show ∀ q v, (X.drop (kk * 3))[q]? = some v → W6.cell? ((⟨gq, kk * 3, none⟩ : Addr).add q) = some v from fun q v hv => src_cellsM hown6 (kk * 3) q v (by
              rw [List.getElem?_drop] at hv ⊢
              rw [List.getElem?_append_left (List.getElem?_eq_some_iff.1 hv).1]
              exact hv))
            have H1C := Lib.hid (show ∀ u ∈ X.drop (kk * 3), u.oneCell' = true from fun u hu => cell3_one (by rw [HL0.out, HNO.out]) HL2.out u (by rw [← HXE.out]; exact List.mem_of_mem_drop hu))
            have HCG := Lib.hid hcg
            have HCT := Lib.hid hct
            have hcl64 : cq ≤ 9223372036854775807 := by unfold maxLen at hcm; omega
            have HCM := Lib.hid hcm
            have HCLL := Lib.hid hcl
            have HSZ := Lib.hid (show (Tryz.prog.info? 73).map (·.size) = some 3 by rw [hi]; simp [hz1])
            have HCL := Lib.hid (show (X.drop (kk * 3)).length = (j - kk) * 3 by rw [List.length_drop, HXL.out]; omega)
            clear hcg hct hcm hcl hown6 hgrow6 hat6 hown
            obtain ⟨k1, hk1⟩ : ∃ k1, k1 = kk + 1 := ⟨_, rfl⟩
            have HK1 := Lib.hid hk1
            have hwk : IntKind.i64.wrap ((kk : Int) + 1) = (k1 : Int) := (IntWalk.i64_in _ (by omega)).trans (by omega)
            have hk1q : (k1 : Int) ≤ (j : Int) + 1 := by omega
            have hkq : (kk : Int) ≤ (j : Int) + 1 := by omega
            have hck : ¬ cq = kk := by omega
            have HKQ := Lib.hid (show k1 + (j - kk) = j + 1 ∧ j + 1 - k1 = j - kk ∧ j - kk ≤ j + 1 - kk by omega)
            have HK0 := Lib.hid (show cq = k1 → j - kk = 0 from fun h => by omega)
            clear hk1
            by_cases hkc : cq = k1
            · subst hkc
              have hkc2 : ¬ cq = kk := hck
              go_region_law (refine step_copy_spliceM rfl (.tmp 45) (.tmp 48) 71 71 rfl 73 3 (by decide) Tryz.underlying71 HSZ.out (some ⟨gq, 0, none⟩) (some ⟨gq, kk * 3, none⟩) 0 0 (j + 1 - kk) (cq - kk) (by simp [Act.eval, Act.put, hkc2]) (by simp [Act.eval, Act.put, hkc2]) gq (cq * 3) cur 73 (by exact HCG.out) (X.drop (kk * 3)) (j - kk) ((show ∀ a b c : Nat, c = min a b → c = Nat.min a b from fun _ _ _ h => h) _ _ _ (by have h1 := HKQ.out; have h2 := HK0.out rfl; omega)) HCL.out (fun h0 => absurd h0 (by rw [HCL.out, HK0.out rfl]; omega)) (by rw [HCL.out, HCLL.out, HK0.out rfl]; omega) H1C.out w.heap.size w (by exact bstep HB6.out (bdrew' _)) hgB ?_; intro W7 hW7 hb7 hfar7)
              all_goals
                have own4 := own_splice3 (W := W7) (B := w.heap.size) (z0 := .int .i64 0) (z1 := .slice none 0 0) (z2 := .slice none 0 0) HXL.out hkj hgB hnc HCM.out HCLL.out HCT.out (by have h := hW7.out; rw [HK1.out] at h; exact h)
                have hyl : ((X ++ [Value.int .i64 0, .slice none 0 0, .slice none 0 0]).take (kk * 3 + 3) ++ X.drop (kk * 3)).length = (j + 1) * 3 := own4.1
                have hx7 : W7.heap[g5]? = some (.cells #[.int .i64 t', .slice A1 n1 c1, .slice A2 n2 c2] 73 (0, 0)) := (hfar7 g5 (by omega)).trans HX6.out.box
                have b0 : W7.cell? ⟨g5, 0, none⟩ = some (.int .i64 t') := cell_of_row _ _ 0 _ _ (0, 0) hx7
                have b1 : W7.cell? ⟨g5, 1, none⟩ = some (.slice A1 n1 c1) := cell_of_row _ _ 1 _ _ (0, 0) hx7
                have b2 : W7.cell? ⟨g5, 2, none⟩ = some (.slice A2 n2 c2) := cell_of_row _ _ 2 _ _ (0, 0) hx7
                have st0 := own4.stored (kk * 3) (.int .i64 t')
                have st1 := st0.1.stored (kk * 3 + 1) (.slice A1 n1 c1)
                have st2 := st1.1.stored (kk * 3 + 2) (.slice A2 n2 c2)
                have HO5 := Lib.hid st2.1
                have HB8 := Lib.hid (Below.grown (Below.grown (Below.grown hb7 st0.2 hb7.size (fun q hq => by cases hq; exact hgB)) st1.2 (by simp; exact hb7.size) (fun q hq => by cases hq; exact hgB)) st2.2 (by simp; exact hb7.size) (fun q hq => by cases hq; exact hgB))
                have z0 := own4.cellAt (kk * 3) (by omega)
                have z1 := own4.cellAt (kk * 3 + 1) (by omega)
                have z2 := own4.cellAt (kk * 3 + 2) (by omega)
                obtain ⟨u0, hu0⟩ : ∃ u, ((X ++ [Value.int .i64 0, .slice none 0 0, .slice none 0 0]).take (kk * 3 + 3) ++ X.drop (kk * 3))[kk * 3]? = some u := ⟨_, List.getElem?_eq_getElem (by rw [hyl]; omega)⟩
                obtain ⟨u1, hu1⟩ : ∃ u, ((X ++ [Value.int .i64 0, .slice none 0 0, .slice none 0 0]).take (kk * 3 + 3) ++ X.drop (kk * 3))[kk * 3 + 1]? = some u := ⟨_, List.getElem?_eq_getElem (by rw [hyl]; omega)⟩
                obtain ⟨u2, hu2⟩ : ∃ u, ((X ++ [Value.int .i64 0, .slice none 0 0, .slice none 0 0]).take (kk * 3 + 3) ++ X.drop (kk * 3))[kk * 3 + 2]? = some u := ⟨_, List.getElem?_eq_getElem (by rw [hyl]; omega)⟩
                rw [hu0] at z0
                rw [hu1] at z1
                rw [hu2] at z2
                clear hu0 hu1 hu2
                have hf0 := own4.frozenAt (kk * 3)
                have hf1 := own4.frozenAt (kk * 3 + 1)
                have hf2 := own4.frozenAt (kk * 3 + 2)
                have hkl : (kk : Int) < (j : Int) + 1 := by omega
                have HFIN := Lib.hid (TRow.ins (W := wr) (W' := ((W7.setCell ⟨gq, kk * 3, none⟩ (.int .i64 t')).setCell ⟨gq, kk * 3 + 1, none⟩ (.slice A1 n1 c1)).setCell ⟨gq, kk * 3 + 2, none⟩ (.slice A2 n2 c2)) (v := .slice (some ⟨gq, 0, none⟩) (j + 1) cq) (k := kk) (by rw [HL0.out, HNO.out]) HL2.out (by rw [HNO.out]; exact hkj) HX4.out.bel HB8.out HX4.out.tat (by
                  rw [HNO.out, ← HXE.out]
                  have h := HO5.out
                  rw [ins3 X _ _ _ _ _ _ (kk * 3) (by rw [HXL.out]; omega)] at h
                  exact h))
                clear own4 st0 st1 st2 hyl hb7 hW7 HSRC HCG hfar7 hx7
                go_wp2_with fail
                go_roundw
                case rel => exact ⟨i + 1, _, _, hlt, rfl, by go_num, HFIN, HIN, HB8⟩
                case measure => simp [intOf]; omega
            · go_region_law (refine step_copy_spliceM rfl (.tmp 45) (.tmp 48) 71 71 rfl 73 3 (by decide) Tryz.underlying71 HSZ.out (some ⟨gq, k1 * 3, none⟩) (some ⟨gq, kk * 3, none⟩) (j + 1 - k1) (cq - k1) (j + 1 - kk) (cq - kk) (by simp [Act.eval, Act.put]) (by simp [Act.eval, Act.put]) gq (k1 * 3) cur 73 (by exact HCG.out) (X.drop (kk * 3)) (j - kk) ((show ∀ a b c : Nat, c = min a b → c = Nat.min a b from fun _ _ _ h => h) _ _ _ (by have := HKQ.out; omega)) HCL.out (fun h0 => ⟨rfl, _, rfl, HSRC.out⟩) (by rw [HCL.out, HCLL.out]; have := HKQ.out; omega) H1C.out w.heap.size w (by exact bstep HB6.out (bdrew' _)) hgB ?_; intro W7 hW7 hb7 hfar7)
              all_goals
                have own4 := own_splice3 (W := W7) (B := w.heap.size) (z0 := .int .i64 0) (z1 := .slice none 0 0) (z2 := .slice none 0 0) HXL.out hkj hgB hnc HCM.out HCLL.out HCT.out (by have h := hW7.out; rw [HK1.out] at h; exact h)
                have hyl : ((X ++ [Value.int .i64 0, .slice none 0 0, .slice none 0 0]).take (kk * 3 + 3) ++ X.drop (kk * 3)).length = (j + 1) * 3 := own4.1
                have hx7 : W7.heap[g5]? = some (.cells #[.int .i64 t', .slice A1 n1 c1, .slice A2 n2 c2] 73 (0, 0)) := (hfar7 g5 (by omega)).trans HX6.out.box
                have b0 : W7.cell? ⟨g5, 0, none⟩ = some (.int .i64 t') := cell_of_row _ _ 0 _ _ (0, 0) hx7
                have b1 : W7.cell? ⟨g5, 1, none⟩ = some (.slice A1 n1 c1) := cell_of_row _ _ 1 _ _ (0, 0) hx7
                have b2 : W7.cell? ⟨g5, 2, none⟩ = some (.slice A2 n2 c2) := cell_of_row _ _ 2 _ _ (0, 0) hx7
                have st0 := own4.stored (kk * 3) (.int .i64 t')
                have st1 := st0.1.stored (kk * 3 + 1) (.slice A1 n1 c1)
                have st2 := st1.1.stored (kk * 3 + 2) (.slice A2 n2 c2)
                have HO5 := Lib.hid st2.1
                have HB8 := Lib.hid (Below.grown (Below.grown (Below.grown hb7 st0.2 hb7.size (fun q hq => by cases hq; exact hgB)) st1.2 (by simp; exact hb7.size) (fun q hq => by cases hq; exact hgB)) st2.2 (by simp; exact hb7.size) (fun q hq => by cases hq; exact hgB))
                have z0 := own4.cellAt (kk * 3) (by omega)
                have z1 := own4.cellAt (kk * 3 + 1) (by omega)
                have z2 := own4.cellAt (kk * 3 + 2) (by omega)
                obtain ⟨u0, hu0⟩ : ∃ u, ((X ++ [Value.int .i64 0, .slice none 0 0, .slice none 0 0]).take (kk * 3 + 3) ++ X.drop (kk * 3))[kk * 3]? = some u := ⟨_, List.getElem?_eq_getElem (by rw [hyl]; omega)⟩
                obtain ⟨u1, hu1⟩ : ∃ u, ((X ++ [Value.int .i64 0, .slice none 0 0, .slice none 0 0]).take (kk * 3 + 3) ++ X.drop (kk * 3))[kk * 3 + 1]? = some u := ⟨_, List.getElem?_eq_getElem (by rw [hyl]; omega)⟩
                obtain ⟨u2, hu2⟩ : ∃ u, ((X ++ [Value.int .i64 0, .slice none 0 0, .slice none 0 0]).take (kk * 3 + 3) ++ X.drop (kk * 3))[kk * 3 + 2]? = some u := ⟨_, List.getElem?_eq_getElem (by rw [hyl]; omega)⟩
                rw [hu0] at z0
                rw [hu1] at z1
                rw [hu2] at z2
                clear hu0 hu1 hu2
                have hf0 := own4.frozenAt (kk * 3)
                have hf1 := own4.frozenAt (kk * 3 + 1)
                have hf2 := own4.frozenAt (kk * 3 + 2)
                have hkl : (kk : Int) < (j : Int) + 1 := by omega
                have HFIN := Lib.hid (TRow.ins (W := wr) (W' := ((W7.setCell ⟨gq, kk * 3, none⟩ (.int .i64 t')).setCell ⟨gq, kk * 3 + 1, none⟩ (.slice A1 n1 c1)).setCell ⟨gq, kk * 3 + 2, none⟩ (.slice A2 n2 c2)) (v := .slice (some ⟨gq, 0, none⟩) (j + 1) cq) (k := kk) (by rw [HL0.out, HNO.out]) HL2.out (by rw [HNO.out]; exact hkj) HX4.out.bel HB8.out HX4.out.tat (by
                  rw [HNO.out, ← HXE.out]
                  have h := HO5.out
                  rw [ins3 X _ _ _ _ _ _ (kk * 3) (by rw [HXL.out]; omega)] at h
                  exact h))
                clear own4 st0 st1 st2 hyl hb7 hW7 HSRC HCG hfar7 hx7
                go_wp2_with fail
                go_roundw
                case rel => exact ⟨i + 1, _, _, hlt, rfl, by go_num, HFIN, HIN, HB8⟩
                case measure => simp [intOf]; omega
    · obtain rfl : i = n := by omega
      have HF := Lib.hid (And.intro (hR.out.listP (R := fun b => P b ∨ w.heap.size ≤ b) (fun b h => .inl h.1) (fun b h => .inr h)) (And.intro hD.out hB.out))
      go_wp2_with fail
      go_ret
      exact ⟨_, ds, rfl, HF.out.1, HF.out.2.1, HF.out.2.2⟩

end Go.Proofs.YtacpfcckilnbfaaGreat

namespace Go.Proofs.YtacpfcckilnbfaaGreat
set_option linter.unusedVariables false
set_option linter.unusedSimpArgs false
open Go.RowKit

/-- A search tree. -/
inductive Tr where
  | none
  | alone
  | split (node : Nat) (a b : Tr)

def sizeTr : Tr → Nat
  | .none => 1
  | .alone => 1
  | .split _ a b => 1 + sizeTr a + sizeTr b

/-- The greatest quorum (or nothing) that avoids X. -/
def Av (d : Nat) (ms : List Mem) (X G : Nat) : Prop := IsGr d ms (outS ms.length X &&& declS ms ms.length) G ∧ G < 1024

/-- No quorum has all of R and nothing of X. -/
def NoneP (d : Nat) (ms : List Mem) (R X : Nat) : Prop := ∀ G, Av d ms X G → G = 0 ∨ ¬ Sub R G

/-- No quorum avoids R. -/
def AloneP (d : Nat) (ms : List Mem) (R : Nat) : Prop := ∀ G, Av d ms R G → G = 0

def RightT (d : Nat) (ms : List Mem) : Tr → Nat → Nat → Prop
  | .none, R, X => NoneP d ms R X
  | .alone, R, _ => AloneP d ms R
  | .split k a b, R, X => k < ms.length ∧ R.testBit k = false ∧ X.testBit k = false ∧ RightT d ms a R (X ||| 2 ^ k) ∧ RightT d ms b (R ||| 2 ^ k) X

/-- How many nodes are not decided. -/
def und (n R X : Nat) : Nat := (List.range n).countP (fun k => !R.testBit k && !X.testBit k)

/-- A search tree in memory. -/
def TrAt (P : Nat → Prop) (w : World) : Tr → Value → Value → Value → Prop
  | .none, k, n, s => k = .int .i64 1 ∧ n = .int .i64 0 ∧ s = .slice none 0 0
  | .alone, k, n, s => k = .int .i64 2 ∧ n = .int .i64 0 ∧ s = .slice none 0 0
  | .split nd a b, k, n, s => k = .int .i64 3 ∧ n = .int .i64 (nd : Int) ∧ ∃ q off x0 x1 x2 y0 y1 y2, s = .slice (some ⟨q, off, none⟩) 2 2 ∧ P q ∧
      w.cell? ⟨q, off, none⟩ = some x0 ∧ w.cell? ⟨q, off + 1, none⟩ = some x1 ∧ w.cell? ⟨q, off + 2, none⟩ = some x2 ∧ w.cell? ⟨q, off + 3, none⟩ = some y0 ∧ w.cell? ⟨q, off + 4, none⟩ = some y1 ∧ w.cell? ⟨q, off + 5, none⟩ = some y2 ∧
      TrAt P w a x0 x1 x2 ∧ TrAt P w b y0 y1 y2

theorem TrAt.below {P : Nat → Prop} {w w' : World} (hb : Below w.heap.size w w') : ∀ {T : Tr} {k n s : Value}, TrAt P w T k n s → TrAt P w' T k n s
  | .none, _, _, _, h => h
  | .alone, _, _, _, h => h
  | .split nd a b, k, n, s, h => by
    obtain ⟨h1, h2, q, off, x0, x1, x2, y0, y1, y2, h3, hP, e0, e1, e2, e3, e4, e5, ha, hb'⟩ := h
    exact ⟨h1, h2, q, off, x0, x1, x2, y0, y1, y2, h3, hP, (hb.cell (cell_lt e0)).trans e0, (hb.cell (cell_lt e1)).trans e1, (hb.cell (cell_lt e2)).trans e2, (hb.cell (cell_lt e3)).trans e3, (hb.cell (cell_lt e4)).trans e4, (hb.cell (cell_lt e5)).trans e5, TrAt.below hb ha, TrAt.below hb hb'⟩

theorem TrAt.form {P : Nat → Prop} {w : World} {T : Tr} {k n s : Value} (h : TrAt P w T k n s) : ∃ (K N : Int) (A : Option Addr) (m c : Nat), k = .int .i64 K ∧ n = .int .i64 N ∧ s = .slice A m c := by
  cases T with
  | none => exact ⟨_, _, _, _, _, h.1, h.2.1, h.2.2⟩
  | alone => exact ⟨_, _, _, _, _, h.1, h.2.1, h.2.2⟩
  | split nd a b =>
    obtain ⟨h1, h2, q, off, _, _, _, _, _, _, h3, _⟩ := h
    exact ⟨_, _, _, _, _, h1, h2, h3⟩

end Go.Proofs.YtacpfcckilnbfaaGreat

namespace Go.Proofs.YtacpfcckilnbfaaGreat
set_option linter.unusedVariables false
set_option linter.unusedSimpArgs false
open Go.RowKit

theorem TrAt.both {P Q : Nat → Prop} {w w' : World} (hk : ∀ q, q < w.heap.size → P q → w'.heap[q]? = w.heap[q]?) (hq : ∀ q, P q → Q q) : ∀ {T : Tr} {k n s : Value}, TrAt P w T k n s → TrAt Q w' T k n s
  | .none, _, _, _, h => h
  | .alone, _, _, _, h => h
  | .split nd a b, k, n, s, h => by
    obtain ⟨h1, h2, q, off, x0, x1, x2, y0, y1, y2, h3, hP, e0, e1, e2, e3, e4, e5, ha, hb'⟩ := h
    have lw := hk q (cell_lt e0) hP
    exact ⟨h1, h2, q, off, x0, x1, x2, y0, y1, y2, h3, hq q hP, (World.cell?_of_block (a := ⟨q, off, none⟩) lw).trans e0, (World.cell?_of_block (a := ⟨q, off + 1, none⟩) lw).trans e1, (World.cell?_of_block (a := ⟨q, off + 2, none⟩) lw).trans e2, (World.cell?_of_block (a := ⟨q, off + 3, none⟩) lw).trans e3, (World.cell?_of_block (a := ⟨q, off + 4, none⟩) lw).trans e4, (World.cell?_of_block (a := ⟨q, off + 5, none⟩) lw).trans e5, TrAt.both hk hq ha, TrAt.both hk hq hb'⟩

theorem bdrewT (W : World) : Below W.heap.size W W.drew := ⟨rfl, rfl, rfl, Nat.le_refl _, fun _ _ => rfl⟩

set_option maxRecDepth 100000 in
set_option maxHeartbeats 2000000 in
theorem pnodes_run (s : Nat) (w : World) (hs : s < 1024) :
    Calls Tryz.prog 74 #[.int .i64 (s : Int)] w fun e w' => ∃ v, e = .returned v ∧ NodesAt (fun b => w.heap.size ≤ b) w' v (nodL s 10) ∧ Below w.heap.size w w' := by
  obtain ⟨i0, hin, hz0, hz1, hz2⟩ := info_parts infoInt
  go_enter Tryz.func74, Tryz.ntmps74
  go_wp2_with fail
  go_loopw [3, 5] (fun v t W => ∃ (k : Nat) (vv : Value), k ≤ 10 ∧ v = vv ∧ t = .int .i64 k ∧ W.ownsRow w.heap.size 3 1 vv (nodL s k).length ((nodL s k).map (Value.int .i64)) ∧ Hid (Below w.heap.size w W)) (fun _ t _ => 10 - (intOf t).toNat)
  case atStart => exact ⟨0, .slice none 0 0, by omega, rfl, rfl, World.ownsRow_nil _ _ _ _, Lib.hid (bref _)⟩
  case round =>
    obtain ⟨k, v, hk, rfl, rfl, hown, hB⟩ := hrel
    have hlen := nodL_len s k
    by_cases hlt : k < 10
    · have hbs := hB.out.size
      have hbit := hasB_bit hs hlt
      cases hb : s.testBit k
      · rw [hb] at hbit
        have hn := Lib.hid (show nodL s (k + 1) = nodL s k by show (if s.testBit k then _ else _) = _; rw [hb]; rfl)
        have HOWN := Lib.hid hown
        go_wp2_with fail
        refine (has_run _ _ _).mono ?_
        rintro e w2 ⟨rfl, rfl⟩
        rw [hbit]
        go_wp2_with fail
        go_roundw
        case rel => exact ⟨k + 1, _, by omega, rfl, by go_num, by rw [hn.out]; exact HOWN.out, hB⟩
        case measure => simp [intOf]; omega
      · rw [hb] at hbit
        have hn := Lib.hid (show nodL s (k + 1) = nodL s k ++ [(k : Int)] by show (if s.testBit k then _ else _) = _; rw [hb]; rfl)
        go_wp2_with fail
        refine (has_run _ _ _).mono ?_
        rintro e w2 ⟨rfl, rfl⟩
        rw [hbit]
        go_wp2_with (at_builtin; refine wpList_append_own _ rfl _ _ 22 rfl w.heap.size 3 i0 (.int .i64 0) 1 8 Tryz.underlying22 hin hz0 hz1 hz2 rfl (by decide) _ _ _ rfl (hown.alloc _) ⟨wr.heap.size, 0, none⟩ 1 1 [.int .i64 (k : Int)] rfl rfl (cell_one_new _ _ _) (fun u hu => by simp at hu; subst hu; rfl) (by unfold maxLen; omega) (by omega) (by simp; omega) ?_; intro v' w1 hown' hgrow hnil)
        have HO := Lib.hid (own_snoc hown')
        have HB4 := Lib.hid (Below.grown (balloc hB.out (.cells #[.int .i64 (k : Int)] 3)) hgrow (by simp; omega) (fun j hj => (hown.lt j hj).1))
        clear hown' hgrow hnil hown
        go_roundw
        case rel => exact ⟨k + 1, _, by omega, rfl, by go_num, by rw [hn.out]; simpa using HO.out, HB4⟩
        case measure => simp [intOf]; omega
    · obtain rfl : k = 10 := by omega
      have HN := Lib.hid (NodesAt.of_own hown)
      obtain ⟨Av, cv, hv⟩ := own_slice hown
      subst hv
      clear hown
      go_wp2_with fail
      go_ret
      exact ⟨_, rfl, HN.out, hB.out⟩

end Go.Proofs.YtacpfcckilnbfaaGreat

namespace Go.Proofs.YtacpfcckilnbfaaGreat
set_option linter.unusedVariables false
set_option linter.unusedSimpArgs false
open Go.RowKit

end Go.Proofs.YtacpfcckilnbfaaGreat

namespace Go.Proofs.YtacpfcckilnbfaaGreat
set_option linter.unusedVariables false
set_option linter.unusedSimpArgs false
open Go.RowKit

/-- What Holds returns. -/
def HoldsOk (d : Nat) (ms : List Mem) (e : Ending) : Prop := (e = .returned (.tuple #[.bool true, .int .i64 0]) ∧ ∀ t, t < 2 ^ ms.length → ¬ Apart d ms t) ∨ (e = .returned (.tuple #[.bool false, .int .i64 0]) ∧ ∃ t, t < 2 ^ ms.length ∧ Apart d ms t)

/-- What Disjoint returns. -/
def DisjOk (d : Nat) (ms : List Mem) (e : Ending) : Prop := (∃ i a b : Nat, e = .returned (.tuple #[.int .i64 (a : Int), .int .i64 (b : Int), .int .i64 0]) ∧ (ordN ms.length)[i]? = some a ∧ Apart d ms a ∧ IsGr d ms (outS ms.length a &&& declS ms ms.length) b ∧ b < 1024 ∧ (∀ j t : Nat, j < i → (ordN ms.length)[j]? = some t → ¬ Apart d ms t)) ∨
  (e = .returned (.tuple #[.int .i64 0, .int .i64 0, .int .i64 11]) ∧ ∀ t, t < 2 ^ ms.length → ¬ Apart d ms t)

set_option maxHeartbeats 2000000 in
theorem holds12_run (P : Nat → Prop) (ms : List Mem) (v : Value) (w : World) (hl : ms.length ≤ 10) (h : MemsAt P 2 w v ms) (hok : MemsOk ms.length ms) :
    Calls Tryz.prog 52 #[.agg #[v]] w fun e w' => HoldsOk 2 ms e ∧ Below w.heap.size w w' := by
  obtain ⟨A, c, rfl⟩ := h.slice
  have hb1 : Below w.heap.size w (w.alloc (.cells #[.slice A ms.length c] 27)) := balloc (bref w) _
  have k0 : (w.alloc (.cells #[.slice A ms.length c] 27)).heap[w.heap.size]? = some (.cells #[.slice A ms.length c] 27 (0, 0)) := alloc_at rfl
  have H := Lib.hid (h.below hb1)
  have HB := Lib.hid hb1
  have K0 := Lib.hid k0
  clear h hb1 k0
  go_enter Tryz.func52, Tryz.ntmps52
  go_upto_region 1 with fail
  generalize w.alloc (.cells #[.slice A ms.length c] 27) = W1 at *
  generalize hg : w.heap.size = g at *
  have HG := Lib.hid hg
  clear hg
  have c0 : W1.cell? ⟨g, 0, none⟩ = some (.slice A ms.length c) := cell_of_row _ _ 0 _ _ (0, 0) K0.out
  have HBw := Lib.hid (show Below w.heap.size w W1 by rw [HG.out]; exact HB.out)
  go_wp2_with fail
  refine (cvalid_run P ms _ _ hl H.out hok).mono ?_
  rintro e W2 ⟨rfl, hb2⟩
  have c2 := (hb2.cell (cell_lt c0)).trans c0
  have HB2 := Lib.hid (bstep HBw.out hb2)
  have H2 := Lib.hid (H.out.below hb2)
  clear hb2 c0
  go_wp2_with fail
  refine (pair_run P 2 ms _ _ hl H2.out).mono ?_
  rintro e W3 ⟨hp, hb3⟩
  have HB3 := Lib.hid (bstep HB2.out hb3)
  clear hb3 c2
  rcases hp with ⟨i, a, b, rfl, hi, hA, _, _, _⟩ | ⟨rfl, hno⟩
  · have HA := Lib.hid (show ∃ t, t < 2 ^ ms.length ∧ Apart 2 ms t from ⟨a, ord_lt _ hl _ (List.mem_of_getElem? hi), hA⟩)
    clear hi hA
    go_wp2_with fail
    go_ret2
    exact ⟨Or.inr ⟨rfl, HA.out⟩, HB3.out⟩
  · have HN := Lib.hid hno
    clear hno
    go_wp2_with fail
    go_ret2
    exact ⟨Or.inl ⟨rfl, HN.out⟩, HB3.out⟩

set_option maxHeartbeats 2000000 in
theorem disjoint12_run (P : Nat → Prop) (ms : List Mem) (v : Value) (w : World) (hl : ms.length ≤ 10) (h : MemsAt P 2 w v ms) (hok : MemsOk ms.length ms) :
    Calls Tryz.prog 59 #[.agg #[v]] w fun e w' => DisjOk 2 ms e ∧ Below w.heap.size w w' := by
  obtain ⟨A, c, rfl⟩ := h.slice
  have hb1 : Below w.heap.size w (w.alloc (.cells #[.slice A ms.length c] 27)) := balloc (bref w) _
  have k0 : (w.alloc (.cells #[.slice A ms.length c] 27)).heap[w.heap.size]? = some (.cells #[.slice A ms.length c] 27 (0, 0)) := alloc_at rfl
  have H := Lib.hid (h.below hb1)
  have HB := Lib.hid hb1
  have K0 := Lib.hid k0
  clear h hb1 k0
  go_enter Tryz.func59, Tryz.ntmps59
  go_upto_region 1 with fail
  generalize w.alloc (.cells #[.slice A ms.length c] 27) = W1 at *
  generalize hg : w.heap.size = g at *
  have HG := Lib.hid hg
  clear hg
  have c0 : W1.cell? ⟨g, 0, none⟩ = some (.slice A ms.length c) := cell_of_row _ _ 0 _ _ (0, 0) K0.out
  have HBw := Lib.hid (show Below w.heap.size w W1 by rw [HG.out]; exact HB.out)
  go_wp2_with fail
  refine (cvalid_run P ms _ _ hl H.out hok).mono ?_
  rintro e W2 ⟨rfl, hb2⟩
  have c2 := (hb2.cell (cell_lt c0)).trans c0
  have HB2 := Lib.hid (bstep HBw.out hb2)
  have H2 := Lib.hid (H.out.below hb2)
  clear hb2 c0
  go_wp2_with fail
  refine (pair_run P 2 ms _ _ hl H2.out).mono ?_
  rintro e W3 ⟨hp, hb3⟩
  have HB3 := Lib.hid (bstep HB2.out hb3)
  clear hb3 c2
  rcases hp with ⟨i, a, b, rfl, hi, hA, hgr, hbl, hno⟩ | ⟨rfl, hno⟩
  · have HA := Lib.hid (And.intro hi (And.intro hA (And.intro hgr (And.intro hbl hno))))
    clear hi hA hgr hno
    go_wp2_with fail
    go_ret3
    exact ⟨Or.inl ⟨i, a, b, rfl, HA.out⟩, HB3.out⟩
  · have HN := Lib.hid hno
    clear hno
    go_wp2_with fail
    go_ret3
    exact ⟨Or.inr ⟨rfl, HN.out⟩, HB3.out⟩

end Go.Proofs.YtacpfcckilnbfaaGreat

namespace Go.Proofs.YtacpfcckilnbfaaGreat.D3
set_option linter.unusedVariables false
set_option linter.unusedSimpArgs false
open Go.RowKit

/-- Members whose trusts have at most three levels. -/
def MemsOk (m : Nat) (ms : List Mem) : Prop := ∀ x ∈ ms, (x.1 = true → WF m 3 x.2) ∧ (x.1 = false → x.2 = .mk 0 [] [])

theorem sizeT2_43 {n : Int} {T : Tree} (h : WF n 2 T) : sizeT 2 T ≤ 43 := by
  obtain ⟨thr, ns, is⟩ := T
  obtain ⟨_, _, h1, h2, _, _, hi⟩ := h
  have h3 : (is.map (sizeT 1)).sum ≤ (is.map (sizeT 1)).length * 10 := sum_le_mul2 (fun x hx => by
    obtain ⟨T, hT, rfl⟩ := List.mem_map.1 hx
    exact sizeT1_le (hi T hT))
  rw [List.length_map] at h3
  show ns.length + is.length + (is.map (sizeT 1)).sum ≤ 43
  omega

theorem sizeT3_le {n : Int} {T : Tree} (h : WF n 3 T) : sizeT 3 T ≤ 200 := by
  obtain ⟨thr, ns, is⟩ := T
  obtain ⟨_, _, h1, h2, _, _, hi⟩ := h
  have h3 : (is.map (sizeT 2)).sum ≤ (is.map (sizeT 2)).length * 43 := sum_le_mul2 (fun x hx => by
    obtain ⟨T, hT, rfl⟩ := List.mem_map.1 hx
    exact sizeT2_43 (hi T hT))
  rw [List.length_map] at h3
  show ns.length + is.length + (is.map (sizeT 2)).sum ≤ 200
  omega

theorem WF.up {n : Int} : ∀ {d : Nat} {T : Tree}, WF n d T → WF n (d + 1) T
  | 0, _, h => h.elim
  | d + 1, .mk thr ns is, h => by
    obtain ⟨h1, h2, h3, h4, h5, h6, h7⟩ := h
    exact ⟨h1, h2, h3, h4, h5, h6, fun T hT => WF.up (h7 T hT)⟩

theorem ok_up {m : Nat} {ms : List Mem} (h : Go.Proofs.YtacpfcckilnbfaaGreat.MemsOk m ms) : MemsOk m ms := fun x hx => ⟨fun h1 => WF.up ((h x hx).1 h1), (h x hx).2⟩

set_option maxRecDepth 100000 in
set_option maxHeartbeats 2000000 in
theorem vmember_run (P : Nat → Prop) (dec : Bool) (T : Tree) (v0 v1 v2 : Value) (n : Nat) (hn : n ≤ 10) (w : World) (h : TAt P 3 w v0 v1 v2 T) (h1 : dec = true → WF n 3 T) (h2 : dec = false → T = .mk 0 [] []) :
    Calls Tryz.prog 118 #[.agg #[.bool dec, v0, v1, v2], .int .i64 (n : Int)] w fun e w' => e = .returned (.int .i64 0) ∧ Below w.heap.size w w' := by
  obtain ⟨t', A', n', ca, B', m', cb, rfl, rfl, rfl⟩ := h.form
  have hb := balloc (bref w) (.cells #[.bool dec, .int .i64 t', .slice A' n' ca, .slice B' m' cb] 75)
  have k0 : (w.alloc (.cells #[.bool dec, .int .i64 t', .slice A' n' ca, .slice B' m' cb] 75)).heap[w.heap.size]? = some (.cells #[.bool dec, .int .i64 t', .slice A' n' ca, .slice B' m' cb] 75 (0, 0)) := alloc_at rfl
  have hT := Lib.hid (h.below hb)
  have HB := Lib.hid hb
  have K0 := Lib.hid k0
  clear h hb k0
  cases dec
  · obtain rfl := h2 rfl
    clear h1 h2
    go_enter Tryz.func118, Tryz.ntmps118
    go_wp2_with fail
    refine (psame_run 3 P (fun _ => True) (.mk 0 [] []) _ _ _ _ _ _ _ hT.out ⟨rfl, by simp, by simp, ⟨none, 0, rfl, fun k hk => by simp at hk⟩, ⟨none, 0, rfl, fun k T hT => by simp at hT⟩⟩).mono ?_
    rintro e w2 ⟨rfl, hb2⟩
    have HB2 := Lib.hid (bstep HB.out hb2)
    clear hb2
    go_wp2_with fail
    go_ret
    exact ⟨rfl, HB2.out⟩
  · have HW := Lib.hid (h1 rfl)
    clear h1 h2
    go_enter Tryz.func118, Tryz.ntmps118
    go_upto_region 1 with fail
    generalize w.alloc (.cells #[.bool true, .int .i64 t', .slice A' n' ca, .slice B' m' cb] 75) = W1 at *
    generalize hg : w.heap.size = g at *
    have HG := Lib.hid hg
    clear hg
    have c0 : W1.cell? ⟨g, 0, none⟩ = some (.bool true) := cell_of_row _ _ 0 _ _ (0, 0) K0.out
    have c1 : W1.cell? ⟨g, 1, none⟩ = some (.int .i64 t') := cell_of_row _ _ 1 _ _ (0, 0) K0.out
    have c2 : W1.cell? ⟨g, 2, none⟩ = some (.slice A' n' ca) := cell_of_row _ _ 2 _ _ (0, 0) K0.out
    have c3 : W1.cell? ⟨g, 3, none⟩ = some (.slice B' m' cb) := cell_of_row _ _ 3 _ _ (0, 0) K0.out
    go_wp2_with fail
    refine (pvalid_run n (by omega) 3 (by omega) P T _ _ _ _ hT.out HW.out (sizeT3_le HW.out)).mono ?_
    rintro e w2 ⟨rfl, hb2⟩
    have d1 := (hb2.cell (cell_lt c1)).trans c1
    have d2 := (hb2.cell (cell_lt c2)).trans c2
    have d3 := (hb2.cell (cell_lt c3)).trans c3
    have HB2 := Lib.hid hb2
    clear hb2 c0 c1 c2 c3
    go_wp2_with fail
    refine (uothers_run P 3 T _ _ _ n hn _ (hT.out.below HB2.out) HW.out).mono ?_
    rintro e w3 ⟨rfl, hb3⟩
    have HB3 := Lib.hid (bstep HB2.out hb3)
    clear hb3 d1 d2 d3
    go_wp2_with fail
    go_ret
    exact ⟨rfl, by
      have h1 := HB.out
      rw [← HG.out] at h1
      exact bstep h1 HB3.out⟩

set_option maxRecDepth 100000 in
set_option maxHeartbeats 2000000 in
theorem cvalid_run (P : Nat → Prop) (ms : List Mem) (v : Value) (w : World) (hl : ms.length ≤ 10) (h : MemsAt P 3 w v ms) (hok : MemsOk ms.length ms) :
    Calls Tryz.prog 93 #[.agg #[v]] w fun e w' => e = .returned (.int .i64 0) ∧ Below w.heap.size w w' := by
  obtain ⟨A, c, rfl⟩ := h.slice
  have hb1 : Below w.heap.size w (w.alloc (.cells #[.slice A ms.length c] 27)) := balloc (bref w) _
  have k0 : (w.alloc (.cells #[.slice A ms.length c] 27)).heap[w.heap.size]? = some (.cells #[.slice A ms.length c] 27 (0, 0)) := alloc_at rfl
  have H := Lib.hid (h.below hb1)
  have HB := Lib.hid hb1
  have K0 := Lib.hid k0
  have HOK := Lib.hid hok
  clear h hb1 k0 hok
  go_enter Tryz.func93, Tryz.ntmps93
  go_upto_region 1 with fail
  generalize w.alloc (.cells #[.slice A ms.length c] 27) = W1 at *
  generalize hg : w.heap.size = g at *
  have HG := Lib.hid hg
  clear hg
  have c0 : W1.cell? ⟨g, 0, none⟩ = some (.slice A ms.length c) := cell_of_row _ _ 0 _ _ (0, 0) K0.out
  have hgl := cell_lt c0
  have hl10 : ¬ (10 : Int) < (ms.length : Int) := by omega
  go_wp2_with fail
  go_loopw [13] (fun t W => ∃ k : Nat, k ≤ ms.length ∧ t = .int .i64 k ∧ Hid (Below W1.heap.size W1 W)) (fun t _ => ms.length - (intOf t).toNat)
  case atStart => exact ⟨0, by omega, rfl, Lib.hid (bref _)⟩
  case round =>
    obtain ⟨k, hk, rfl, hB⟩ := hrel
    by_cases hlt : k < ms.length
    · obtain ⟨m, hm⟩ : ∃ m, ms[k]? = some m := ⟨_, List.getElem?_eq_getElem hlt⟩
      obtain ⟨b, off, t, A1, n1, c1, A2, n2, c2, rfl, hP, hbl, e0, e1, e2, e3, hT⟩ := memBox (H.out.below hB.out) hm
      have hmo := HOK.out m (List.mem_of_getElem? hm)
      have HM1 := Lib.hid hmo.1
      have HM2 := Lib.hid hmo.2
      obtain ⟨dec, T⟩ := m
      have hba := balloc (bref wr) (.cells #[.bool dec, .int .i64 t, .slice A1 n1 c1, .slice A2 n2 c2] 75)
      have c4 : (wr.alloc (.cells #[.bool dec, .int .i64 t, .slice A1 n1 c1, .slice A2 n2 c2] 75)).cell? ⟨g, 0, none⟩ = some (.slice (some ⟨b, off, none⟩) ms.length c) := ((bstep hB.out hba).cell hgl).trans c0
      have hTA := Lib.hid (hT.below hba)
      have HBA := Lib.hid (bstep hB.out hba)
      clear hm hT hmo hba
      go_wp2_with fail
      refine (vmember_run P dec T _ _ _ ms.length hl _ hTA.out HM1.out HM2.out).mono ?_
      rintro e w2 ⟨rfl, hb2⟩
      have HB2 := Lib.hid (bstep HBA.out hb2)
      clear hb2 c4
      go_wp2_with fail
      go_roundw
      case rel => exact ⟨k + 1, by omega, by go_num, HB2⟩
      case measure => simp [intOf]; omega
    · obtain rfl : k = ms.length := by omega
      go_wp2_with fail
      go_ret
      exact ⟨rfl, by
        have h1 := HB.out
        rw [← HG.out] at h1
        exact bstep h1 hB.out⟩

theorem stKeep {W1 W W' : World} {g b off m c r n1 c1 n2 c2 : Nat} {t : Int} {A1 A2 : Option Addr} {P : Nat → Prop} {T : Tree} (h : W.cell? ⟨g, 0, none⟩ = some (.slice (some ⟨b, off, none⟩) m c) ∧ W.cell? ⟨r, 1, none⟩ = some (.int .i64 t) ∧ W.cell? ⟨r, 2, none⟩ = some (.slice A1 n1 c1) ∧ W.cell? ⟨r, 3, none⟩ = some (.slice A2 n2 c2) ∧ TAt P 3 W (.int .i64 t) (.slice A1 n1 c1) (.slice A2 n2 c2) T ∧ Below W1.heap.size W1 W) (hb : Below W.heap.size W W') : W'.cell? ⟨g, 0, none⟩ = some (.slice (some ⟨b, off, none⟩) m c) ∧ W'.cell? ⟨r, 1, none⟩ = some (.int .i64 t) ∧ W'.cell? ⟨r, 2, none⟩ = some (.slice A1 n1 c1) ∧ W'.cell? ⟨r, 3, none⟩ = some (.slice A2 n2 c2) ∧ TAt P 3 W' (.int .i64 t) (.slice A1 n1 c1) (.slice A2 n2 c2) T ∧ Below W1.heap.size W1 W' :=
  ⟨(hb.cell (cell_lt h.1)).trans h.1, (hb.cell (cell_lt h.2.1)).trans h.2.1, (hb.cell (cell_lt h.2.2.1)).trans h.2.2.1, (hb.cell (cell_lt h.2.2.2.1)).trans h.2.2.2.1, h.2.2.2.2.1.below hb, bstep h.2.2.2.2.2 hb⟩

theorem stT {W1 W : World} {g b off m c r n1 c1 n2 c2 : Nat} {t : Int} {A1 A2 : Option Addr} {P : Nat → Prop} {T : Tree} (h : W.cell? ⟨g, 0, none⟩ = some (.slice (some ⟨b, off, none⟩) m c) ∧ W.cell? ⟨r, 1, none⟩ = some (.int .i64 t) ∧ W.cell? ⟨r, 2, none⟩ = some (.slice A1 n1 c1) ∧ W.cell? ⟨r, 3, none⟩ = some (.slice A2 n2 c2) ∧ TAt P 3 W (.int .i64 t) (.slice A1 n1 c1) (.slice A2 n2 c2) T ∧ Below W1.heap.size W1 W) : TAt P 3 W (.int .i64 t) (.slice A1 n1 c1) (.slice A2 n2 c2) T := h.2.2.2.2.1

set_option maxRecDepth 100000 in
set_option maxHeartbeats 2000000 in
theorem rcvalid_run (P : Nat → Prop) (ms : List Mem) (v : Value) (w : World) (hl : ms.length ≤ 10) (h : MemsAt P 3 w v ms) (hok : MemsOk ms.length ms) :
    Calls Tryz.prog 64 #[.agg #[v]] w fun e w' => e = .returned (.int .i64 0) ∧ Below w.heap.size w w' := by
  obtain ⟨A, c, rfl⟩ := h.slice
  have hb1 : Below w.heap.size w (w.alloc (.cells #[.slice A ms.length c] 27)) := balloc (bref w) _
  have k0 : (w.alloc (.cells #[.slice A ms.length c] 27)).heap[w.heap.size]? = some (.cells #[.slice A ms.length c] 27 (0, 0)) := alloc_at rfl
  have H := Lib.hid (h.below hb1)
  have HB := Lib.hid hb1
  have K0 := Lib.hid k0
  have HOK := Lib.hid hok
  clear h hb1 k0 hok
  go_enter Tryz.func64, Tryz.ntmps64
  go_upto_region 1 with fail
  generalize w.alloc (.cells #[.slice A ms.length c] 27) = W1 at *
  generalize hg : w.heap.size = g at *
  have HG := Lib.hid hg
  clear hg
  have c0 : W1.cell? ⟨g, 0, none⟩ = some (.slice A ms.length c) := cell_of_row _ _ 0 _ _ (0, 0) K0.out
  have hgl := cell_lt c0
  have hl10 : ¬ (10 : Int) < (ms.length : Int) := by omega
  go_wp2_with fail
  go_loopw [13] (fun t W => ∃ k : Nat, k ≤ ms.length ∧ t = .int .i64 k ∧ Hid (Below W1.heap.size W1 W)) (fun t _ => ms.length - (intOf t).toNat)
  case atStart => exact ⟨0, by omega, rfl, Lib.hid (bref _)⟩
  case round =>
    obtain ⟨k, hk, rfl, hB⟩ := hrel
    by_cases hlt : k < ms.length
    · obtain ⟨m, hm⟩ : ∃ m, ms[k]? = some m := ⟨_, List.getElem?_eq_getElem hlt⟩
      obtain ⟨b, off, t, A1, n1, c1, A2, n2, c2, rfl, hP, hbl, e0, e1, e2, e3, hT⟩ := memBox (H.out.below hB.out) hm
      have hmo := HOK.out m (List.mem_of_getElem? hm)
      have HM1 := Lib.hid hmo.1
      have HM2 := Lib.hid hmo.2
      obtain ⟨dec, T⟩ := m
      have hba := balloc (bref wr) (.cells #[.bool dec, .int .i64 t, .slice A1 n1 c1, .slice A2 n2 c2] 75)
      have k1 : (wr.alloc (.cells #[.bool dec, .int .i64 t, .slice A1 n1 c1, .slice A2 n2 c2] 75)).heap[wr.heap.size]? = some (.cells #[.bool dec, .int .i64 t, .slice A1 n1 c1, .slice A2 n2 c2] 75 (0, 0)) := alloc_at rfl
      have K1 := Lib.hid k1
      have hTA := hT.below hba
      have HBA := Lib.hid (bstep hB.out hba)
      clear hm hT hmo hba k1
      go_upto_region 6 with fail
      generalize wr.alloc (.cells #[.bool dec, .int .i64 t, .slice A1 n1 c1, .slice A2 n2 c2] 75) = W3 at *
      generalize wr.heap.size = r at *
      have c4 : W3.cell? ⟨g, 0, none⟩ = some (.slice (some ⟨b, off, none⟩) ms.length c) := (HBA.out.cell hgl).trans (cell_of_row _ _ 0 _ _ (0, 0) K0.out)
      have r0 : W3.cell? ⟨r, 0, none⟩ = some (.bool dec) := cell_of_row _ _ 0 _ _ (0, 0) K1.out
      have r1 : W3.cell? ⟨r, 1, none⟩ = some (.int .i64 t) := cell_of_row _ _ 1 _ _ (0, 0) K1.out
      have r2 : W3.cell? ⟨r, 2, none⟩ = some (.slice A1 n1 c1) := cell_of_row _ _ 2 _ _ (0, 0) K1.out
      have r3 : W3.cell? ⟨r, 3, none⟩ = some (.slice A2 n2 c2) := cell_of_row _ _ 3 _ _ (0, 0) K1.out
      clear e0 e1 e2 e3 c0
      cases dec
      · obtain rfl := HM2.out rfl
        obtain ⟨ht, _, _, hN, hL⟩ := hTA.parts
        obtain ⟨A3, c3, hv1⟩ := hN.slice
        obtain ⟨A4, c5, hv2⟩ := hL.slice
        cases ht
        cases hv1
        cases hv2
        clear hTA hN hL
        go_wp2_with fail
        refine (rsame0_run _ _ _ _ _ _ _ _ _).mono ?_
        rintro e w4 ⟨rfl, hb4⟩
        have HB4 := Lib.hid (bstep HBA.out hb4)
        clear hb4 c4 r0 r1 r2 r3
        go_wp2_with fail
        go_roundw
        case rel => exact ⟨k + 1, by omega, by go_num, HB4⟩
        case measure => simp [intOf]; omega
      · have HW := Lib.hid (HM1.out rfl)
        have HT := Lib.hid hTA
        have HU := Lib.hid (ltpow_of_bits _ ms.length (usesT_sub hl 3 T HW.out))
        have hul := usesT_lt 3 T
        have hpw : IntKind.i64.wrap (2 ^ ms.length) = ((2 ^ ms.length : Nat) : Int) := pow11' ms.length (by omega)
        have HPW := Lib.hid hpw
        clear hTA hpw
        go_wp2_with fail
        refine (rtvalid_run P ms.length (by omega) 3 (by omega) T _ _ _ _ HT.out HW.out (sizeT3_le HW.out)).mono ?_
        rintro e w4 ⟨rfl, hb4⟩
        have HS4 := Lib.hid (stKeep (⟨c4, r1, r2, r3, HT.out, HBA.out⟩) hb4)
        clear hb4 c4 r0 r1 r2 r3
        go_upto_region 12 with fail
        have hS := Lib.hid (stKeep HS4.out (bdrew' w4))
        have hpw := HPW.out
        obtain ⟨N, hN⟩ : ∃ N, 2 ^ ms.length = N := ⟨_, rfl⟩
        have HN := Lib.hid hN
        have huN := HU.out
        rw [hN] at hpw huN
        obtain ⟨U, hUq⟩ : ∃ U, usesT 3 T = U := ⟨_, rfl⟩
        have HUU := Lib.hid hUq
        rw [hUq] at huN hul
        have hge : ((N : Int) ≤ (U : Int)) = False := by simp; omega
        clear hN hUq huN
        refine wp_region_noPanic ?_
        refine wp_region_held_drew (S := fun W => W.cell? ⟨g, 0, none⟩ = some (.slice (some ⟨b, off, none⟩) ms.length c) ∧ W.cell? ⟨r, 1, none⟩ = some (.int .i64 t) ∧ W.cell? ⟨r, 2, none⟩ = some (.slice A1 n1 c1) ∧ W.cell? ⟨r, 3, none⟩ = some (.slice A2 n2 c2) ∧ TAt P 3 W (.int .i64 t) (.slice A1 n1 c1) (.slice A2 n2 c2) T ∧ Below W1.heap.size W1 W) (by kernel_rfl) hS.out (fun hHeld => ?_)
        refine take_d (some 31) (i := 0) (v := ?_) rfl rfl (by kernel_rfl) (by kernel_rfl) (by kernel_rfl) (fun _ _ _ h => h) (Or.inl ⟨by rfl, ?_⟩) (by assumption) ?_
        rotate_left
        · intro w hSw; (try dsimp only at hSw); go_simp; (try with_reducible rfl)
        try simp only [Act.put, List.setIfInBounds_toArray, List.set_cons_zero, List.set_cons_succ]
        refine take_d (some 32) (i := 1) (v := ?_) rfl rfl (by kernel_rfl) (by kernel_rfl) (by kernel_rfl) (fun _ _ _ h => h) (Or.inl ⟨by rfl, ?_⟩) (by assumption) ?_
        rotate_left
        · intro w hSw; (try dsimp only at hSw); go_simp; (try with_reducible rfl)
        try simp only [Act.put, List.setIfInBounds_toArray, List.set_cons_zero, List.set_cons_succ]
        refine take_d (some 34) (i := 3) (v := ?_) rfl rfl (by kernel_rfl) (by kernel_rfl) (by kernel_rfl) (fun _ _ _ h => h) (Or.inl ⟨by rfl, ?_⟩) (by assumption) ?_
        rotate_left
        · intro w hSw; (try dsimp only at hSw); go_simp; (try with_reducible rfl)
        try simp only [Act.put, List.setIfInBounds_toArray, List.set_cons_zero, List.set_cons_succ]
        refine take_d (some 35) (i := 4) (v := ?_) rfl rfl (by kernel_rfl) (by kernel_rfl) (by kernel_rfl) (fun _ _ _ h => h) (Or.inl ⟨by rfl, ?_⟩) (by assumption) ?_
        rotate_left
        · intro w hSw; (try dsimp only at hSw); go_simp; (try with_reducible rfl)
        try simp only [Act.put, List.setIfInBounds_toArray, List.set_cons_zero, List.set_cons_succ]
        refine take_d (some 36) (i := 5) (v := ?_) rfl rfl (by kernel_rfl) (by kernel_rfl) (by kernel_rfl) (fun _ _ _ h => h) (Or.inl ⟨by rfl, ?_⟩) (by assumption) ?_
        rotate_left
        · intro w hSw; (try dsimp only at hSw); go_simp; (try with_reducible rfl)
        try simp only [Act.put, List.setIfInBounds_toArray, List.set_cons_zero, List.set_cons_succ]
        refine take_d (some 37) (i := 6) (v := ?_) rfl rfl (by kernel_rfl) (by kernel_rfl) (by kernel_rfl) (fun _ _ _ h => h) (Or.inl ⟨by rfl, ?_⟩) (by assumption) ?_
        rotate_left
        · intro w hSw; (try dsimp only at hSw); go_simp; (try with_reducible rfl)
        try simp only [Act.put, List.setIfInBounds_toArray, List.set_cons_zero, List.set_cons_succ]
        refine wpAnyH_ready (rs := [2]) (by kernel_rfl) (by simp) ?_
        refine AllReadyH.cons rfl (fun K hK => ?_) AllReadyH.nil
        go_simp
        refine (ruses_run P 3 T _ _ _ _ (stT (by assumption))).mono ?_; rintro e WK ⟨rfl, hbK⟩; have hSK := stKeep (by assumption) hbK; rw [HUU.out]
        go_wp2_with fail
        refine hK.out _ _ ?_ (fun hHeld => ?_)
        · exact hSK
        clear hK K
        try simp only [Act.put, List.setIfInBounds_toArray, List.set_cons_zero, List.set_cons_succ]
        refine take_d (some 38) (i := 7) (v := ?_) rfl rfl (by kernel_rfl) (by kernel_rfl) (by kernel_rfl) (fun _ _ _ h => h) (Or.inl ⟨by rfl, ?_⟩) (by assumption) ?_
        rotate_left
        · intro w hSw; (try dsimp only at hSw); go_simp; (try with_reducible rfl)
        try simp only [Act.put, List.setIfInBounds_toArray, List.set_cons_zero, List.set_cons_succ]
        refine wpAnyH_done (by kernel_rfl) ?_ _
        refine NoPanic.normal ?_
        have HB6 := Lib.hid (hSK.2.2.2.2.2)
        clear hSK hHeld hS
        go_wp2_with fail
        go_roundw
        case rel => exact ⟨k + 1, by omega, by go_num, HB6⟩
        case measure => simp [intOf]; omega
    · obtain rfl : k = ms.length := by omega
      go_wp2_with fail
      go_ret
      exact ⟨rfl, by
        have h1 := HB.out
        rw [← HG.out] at h1
        exact bstep h1 hB.out⟩

/-- What the reference's Holds returns. -/
def RHolds (ms : List Mem) (e : Ending) : Prop := ∃ b : Bool, e = .returned (.tuple #[.bool b, .int .i64 0]) ∧ (b = true ↔ ∀ t, ¬ Apart 3 ms t)

set_option maxRecDepth 100000 in
set_option maxHeartbeats 1000000 in
theorem rholds_run (P : Nat → Prop) (ms : List Mem) (v : Value) (w : World) (hl : ms.length ≤ 10) (h : MemsAt P 3 w v ms) (hok : MemsOk ms.length ms) :
    Calls Tryz.prog 27 #[.agg #[v]] w fun e w' => RHolds ms e ∧ Below w.heap.size w w' := by
  obtain ⟨A, c, rfl⟩ := h.slice
  have hb1 : Below w.heap.size w (w.alloc (.cells #[.slice A ms.length c] 27)) := balloc (bref w) _
  have k0 : (w.alloc (.cells #[.slice A ms.length c] 27)).heap[w.heap.size]? = some (.cells #[.slice A ms.length c] 27 (0, 0)) := alloc_at rfl
  have H := Lib.hid (h.below hb1)
  have HB := Lib.hid hb1
  have K0 := Lib.hid k0
  have HOK := Lib.hid hok
  clear h hb1 k0 hok
  go_enter Tryz.func27, Tryz.ntmps27
  go_upto_region 1 with fail
  generalize w.alloc (.cells #[.slice A ms.length c] 27) = W1 at *
  generalize hg : w.heap.size = g at *
  have HG := Lib.hid hg
  clear hg
  have c0 : W1.cell? ⟨g, 0, none⟩ = some (.slice A ms.length c) := cell_of_row _ _ 0 _ _ (0, 0) K0.out
  have hgl := cell_lt c0
  have HBw := Lib.hid (show Below w.heap.size w W1 by rw [HG.out]; exact HB.out)
  go_wp2_with fail
  refine (rcvalid_run _ ms _ _ hl H.out HOK.out).mono ?_
  rintro e W2 ⟨rfl, hb2⟩
  have c2 := (hb2.cell hgl).trans c0
  have HB2 := Lib.hid hb2
  clear hb2 c0
  go_wp2_with fail
  refine (rapart_run _ 3 ms _ _ hl (H.out.below HB2.out)).mono ?_
  rintro e W3 ⟨hA, hb3⟩
  have HZ := Lib.hid (bstep HBw.out (bstep HB2.out hb3))
  clear hb3 c2
  rcases hA with ⟨a, b, rfl, hap⟩ | ⟨rfl, hno⟩
  · have ha0 : ((a : Int) == 0) = false := by rw [beq_eq_false_iff_ne]; have := hap.1.1; omega
    have HR := Lib.hid (show RHolds ms (.returned (.tuple #[.bool false, .int .i64 0])) from ⟨false, rfl, fun h => (by cases h), fun h => (h a hap).elim⟩)
    clear hap
    go_wp2_with fail
    go_ret2
    exact ⟨HR.out, HZ.out⟩
  · have HR := Lib.hid (show RHolds ms (.returned (.tuple #[.bool true, .int .i64 0])) from ⟨true, rfl, fun _ => hno, fun _ => rfl⟩)
    clear hno
    go_wp2_with fail
    go_ret2
    exact ⟨HR.out, HZ.out⟩

set_option maxHeartbeats 2000000 in
theorem holds12_run (P : Nat → Prop) (ms : List Mem) (v : Value) (w : World) (hl : ms.length ≤ 10) (h : MemsAt P 3 w v ms) (hok : MemsOk ms.length ms) :
    Calls Tryz.prog 52 #[.agg #[v]] w fun e w' => HoldsOk 3 ms e ∧ Below w.heap.size w w' := by
  obtain ⟨A, c, rfl⟩ := h.slice
  have hb1 : Below w.heap.size w (w.alloc (.cells #[.slice A ms.length c] 27)) := balloc (bref w) _
  have k0 : (w.alloc (.cells #[.slice A ms.length c] 27)).heap[w.heap.size]? = some (.cells #[.slice A ms.length c] 27 (0, 0)) := alloc_at rfl
  have H := Lib.hid (h.below hb1)
  have HB := Lib.hid hb1
  have K0 := Lib.hid k0
  clear h hb1 k0
  go_enter Tryz.func52, Tryz.ntmps52
  go_upto_region 1 with fail
  generalize w.alloc (.cells #[.slice A ms.length c] 27) = W1 at *
  generalize hg : w.heap.size = g at *
  have HG := Lib.hid hg
  clear hg
  have c0 : W1.cell? ⟨g, 0, none⟩ = some (.slice A ms.length c) := cell_of_row _ _ 0 _ _ (0, 0) K0.out
  have HBw := Lib.hid (show Below w.heap.size w W1 by rw [HG.out]; exact HB.out)
  go_wp2_with fail
  refine (cvalid_run P ms _ _ hl H.out hok).mono ?_
  rintro e W2 ⟨rfl, hb2⟩
  have c2 := (hb2.cell (cell_lt c0)).trans c0
  have HB2 := Lib.hid (bstep HBw.out hb2)
  have H2 := Lib.hid (H.out.below hb2)
  clear hb2 c0
  go_wp2_with fail
  refine (pair_run P 3 ms _ _ hl H2.out).mono ?_
  rintro e W3 ⟨hp, hb3⟩
  have HB3 := Lib.hid (bstep HB2.out hb3)
  clear hb3 c2
  rcases hp with ⟨i, a, b, rfl, hi, hA, _, _, _⟩ | ⟨rfl, hno⟩
  · have HA := Lib.hid (show ∃ t, t < 2 ^ ms.length ∧ Apart 3 ms t from ⟨a, ord_lt _ hl _ (List.mem_of_getElem? hi), hA⟩)
    clear hi hA
    go_wp2_with fail
    go_ret2
    exact ⟨Or.inr ⟨rfl, HA.out⟩, HB3.out⟩
  · have HN := Lib.hid hno
    clear hno
    go_wp2_with fail
    go_ret2
    exact ⟨Or.inl ⟨rfl, HN.out⟩, HB3.out⟩

set_option maxHeartbeats 2000000 in
theorem disjoint12_run (P : Nat → Prop) (ms : List Mem) (v : Value) (w : World) (hl : ms.length ≤ 10) (h : MemsAt P 3 w v ms) (hok : MemsOk ms.length ms) :
    Calls Tryz.prog 59 #[.agg #[v]] w fun e w' => DisjOk 3 ms e ∧ Below w.heap.size w w' := by
  obtain ⟨A, c, rfl⟩ := h.slice
  have hb1 : Below w.heap.size w (w.alloc (.cells #[.slice A ms.length c] 27)) := balloc (bref w) _
  have k0 : (w.alloc (.cells #[.slice A ms.length c] 27)).heap[w.heap.size]? = some (.cells #[.slice A ms.length c] 27 (0, 0)) := alloc_at rfl
  have H := Lib.hid (h.below hb1)
  have HB := Lib.hid hb1
  have K0 := Lib.hid k0
  clear h hb1 k0
  go_enter Tryz.func59, Tryz.ntmps59
  go_upto_region 1 with fail
  generalize w.alloc (.cells #[.slice A ms.length c] 27) = W1 at *
  generalize hg : w.heap.size = g at *
  have HG := Lib.hid hg
  clear hg
  have c0 : W1.cell? ⟨g, 0, none⟩ = some (.slice A ms.length c) := cell_of_row _ _ 0 _ _ (0, 0) K0.out
  have HBw := Lib.hid (show Below w.heap.size w W1 by rw [HG.out]; exact HB.out)
  go_wp2_with fail
  refine (cvalid_run P ms _ _ hl H.out hok).mono ?_
  rintro e W2 ⟨rfl, hb2⟩
  have c2 := (hb2.cell (cell_lt c0)).trans c0
  have HB2 := Lib.hid (bstep HBw.out hb2)
  have H2 := Lib.hid (H.out.below hb2)
  clear hb2 c0
  go_wp2_with fail
  refine (pair_run P 3 ms _ _ hl H2.out).mono ?_
  rintro e W3 ⟨hp, hb3⟩
  have HB3 := Lib.hid (bstep HB2.out hb3)
  clear hb3 c2
  rcases hp with ⟨i, a, b, rfl, hi, hA, hgr, hbl, hno⟩ | ⟨rfl, hno⟩
  · have HA := Lib.hid (And.intro hi (And.intro hA (And.intro hgr (And.intro hbl hno))))
    clear hi hA hgr hno
    go_wp2_with fail
    go_ret3
    exact ⟨Or.inl ⟨i, a, b, rfl, HA.out⟩, HB3.out⟩
  · have HN := Lib.hid hno
    clear hno
    go_wp2_with fail
    go_ret3
    exact ⟨Or.inr ⟨rfl, HN.out⟩, HB3.out⟩

end Go.Proofs.YtacpfcckilnbfaaGreat.D3
namespace Go.Proofs.YtacpfcckilnbfaaGreat

end Go.Proofs.YtacpfcckilnbfaaGreat
