/- The contracts of the reference's Size and Subsets. -/
import Derived.Test.YtfghnkgllmofgaaNext
import Derived.Test.YtfghnkgllmofgaaRefQuor
namespace Go.Proofs.Ytfghnkgllmofgaa
set_option linter.unusedVariables false
set_option linter.unusedSimpArgs false
open Go.RowKit

def popk (s k : Nat) : Nat := (List.range k).countP (fun i => s.testBit i)

theorem popk_succ (s k : Nat) : popk s (k + 1) = popk s k + (s / 2 ^ k) % 2 := by
  unfold popk
  rw [List.range_succ, List.countP_append, List.countP_singleton, Nat.testBit_eq_decide_div_mod_eq]
  congr 1
  rcases Nat.mod_two_eq_zero_or_one (s / 2 ^ k) with h | h <;> simp [h]

theorem popk_le (s k : Nat) : popk s k ≤ k := by unfold popk; exact Nat.le_trans List.countP_le_length (by simp)

theorem popc_mono {a b : Nat} (h : Sub a b) : popc a ≤ popc b := by
  unfold popc
  exact List.countP_mono_left (fun i _ hi => h i hi)

theorem add_bit (s r k : Nat) (hs : s < 1024) (hr : r ≤ 10) : wrap64 ((r : Int) + bits .and .i64 ((s : Int) / 2 ^ k) 1) = ((r + (s / 2 ^ k) % 2 : Nat) : Int) := by
  have e : ((s : Int) / 2 ^ k) = ((s / 2 ^ k : Nat) : Int) := by
    rw [Int.natCast_ediv, Int.natCast_pow]; rfl
  have hq := Nat.div_le_self s (2 ^ k)
  have h1 := i64_and_nat (s / 2 ^ k) 1 (by omega) (by omega)
  rw [e, show (1 : Int) = ((1 : Nat) : Int) from rfl, h1, Nat.and_one_is_mod]
  unfold wrap64
  omega

set_option maxHeartbeats 2000000 in
theorem rsetSize_run (s : Nat) (hs : s < 1024) (w : World) : Calls Try.prog 57 #[.int .i64 (s : Int)] w fun e w' => e = .returned (.int .i64 (popc s : Nat)) ∧ w = w' := by
  have hsv := Lib.hid (show setB (s : Int) = true from setB_iff.2 ⟨by omega, by omega⟩)
  go_enter Try.func57, Try.ntmps57
  go_wp2_with fail
  go_loop [3, 4] (fun v t => ∃ k : Nat, k ≤ 10 ∧ v = .int .i64 (popk s k : Nat) ∧ t = .int .i64 k) (fun _ t => 10 - (intOf t).toNat)
  case atStart => exact ⟨0, by omega, rfl, rfl⟩
  case round =>
    obtain ⟨k, hk, rfl, rfl⟩ := hrel
    by_cases hlt : k < 10
    · have HA := Lib.hid (add_bit s (popk s k) k hs (Nat.le_trans (popk_le s k) hk))
      rw [← popk_succ] at HA
      go_wp2_with fail
      refine (rsetValid_run _ _).mono ?_
      rintro e w2 ⟨rfl, rfl⟩
      rw [hsv.out]
      go_wp2_with fail
      rw [HA.out]
      go_round
      case rel => exact ⟨k + 1, by omega, rfl, by go_num⟩
      case measure => simp [intOf]; omega
    · obtain rfl : k = 10 := by omega
      go_wp2_with fail
      go_ret
      exact ⟨rfl, rfl⟩

/-- The subsets of s among the sets before x of size n. -/
def SubL (s n x : Nat) (l : List Int) : Prop := l.length ≤ 1024 * n + x ∧ ∀ t : Int, t ∈ l ↔ ∃ q : Nat, t = (q : Int) ∧ Sub q s ∧ q ≤ s ∧ (popc q < n ∨ (popc q = n ∧ q < x))

theorem SubL.nil (s : Nat) : SubL s 0 0 [] := ⟨by simp, fun t => by
  constructor
  · intro h; cases h
  · rintro ⟨q, _, _, _, h | ⟨_, h⟩⟩ <;> omega⟩

theorem SubL.turn {s n : Nat} {l : List Int} (hs : s < 1024) (h : SubL s n (s + 1) l) : SubL s (n + 1) 0 l := ⟨by have := h.1; omega, fun t => by
  rw [h.2 t]
  constructor
  · rintro ⟨q, e, hq, hle, h⟩; exact ⟨q, e, hq, hle, by omega⟩
  · rintro ⟨q, e, hq, hle, h⟩; exact ⟨q, e, hq, hle, by omega⟩⟩

theorem SubL.skip {s n x : Nat} {l : List Int} (h : SubL s n x l) (hn : ¬ (Sub x s ∧ popc x = n)) : SubL s n (x + 1) l := ⟨by have := h.1; omega, fun t => by
  rw [h.2 t]
  constructor
  · rintro ⟨q, e, hq, hle, h⟩; exact ⟨q, e, hq, hle, by omega⟩
  · rintro ⟨q, e, hq, hle, h⟩
    refine ⟨q, e, hq, hle, ?_⟩
    rcases h with h | ⟨h1, h2⟩
    · exact .inl h
    · by_cases hx : q = x
      · subst hx; exact (hn ⟨hq, h1⟩).elim
      · exact .inr ⟨h1, by omega⟩⟩

theorem SubL.take {s n x : Nat} {l : List Int} (h : SubL s n x l) (hx : x ≤ s) (h1 : Sub x s) (h2 : popc x = n) : SubL s n (x + 1) (l ++ [(x : Int)]) := ⟨by have := h.1; simp; omega, fun t => by
  rw [List.mem_append, h.2 t, List.mem_singleton]
  constructor
  · rintro (⟨q, e, hq, hle, h⟩ | rfl)
    · exact ⟨q, e, hq, hle, by omega⟩
    · exact ⟨x, rfl, h1, hx, .inr ⟨h2, by omega⟩⟩
  · rintro ⟨q, e, hq, hle, h⟩
    by_cases hqx : q = x ∧ popc q = n
    · right; rw [e, hqx.1]
    · left; exact ⟨q, e, hq, hle, by omega⟩⟩

theorem SubL.full {s : Nat} {l : List Int} (h : SubL s (popc s + 1) 0 l) : ∀ t : Int, t ∈ l ↔ ∃ q : Nat, t = (q : Int) ∧ Sub q s := fun t => by
  rw [h.2 t]
  constructor
  · rintro ⟨q, e, hq, _, _⟩; exact ⟨q, e, hq⟩
  · rintro ⟨q, e, hq⟩
    refine ⟨q, e, hq, ?_, .inl ?_⟩
    · rw [← and_self_sub.2 hq]; exact Nat.and_le_right
    · have := popc_mono hq; omega

set_option maxRecDepth 100000 in
set_option maxHeartbeats 2000000 in
theorem rsubsets_run (s : Nat) (w : World) (hs : s < 1024) :
    Calls Try.prog 43 #[.int .i64 (s : Int)] w fun e w' => ∃ v l, e = .returned v ∧ NodesAt (fun b => w.heap.size ≤ b) w' v l ∧ l.length ≤ 20000 ∧ (∀ t : Int, t ∈ l ↔ ∃ q : Nat, t = (q : Int) ∧ Sub q s) ∧ Below w.heap.size w w' := by
  obtain ⟨i0, hin, hz0, hz1, hz2⟩ := info_parts infoInt
  have hsv := Lib.hid (show setB (s : Int) = true from setB_iff.2 ⟨by omega, by omega⟩)
  have hpc := popc_le s
  obtain ⟨N, hN⟩ : ∃ N, popc s = N := ⟨_, rfl⟩
  have HPN := Lib.hid hN
  rw [hN] at hpc
  clear hN
  go_enter Try.func43, Try.ntmps43
  go_wp2_with fail
  go_loopw [3, 4, 5] (fun v t _ W => ∃ (n : Nat) (l : List Int) (vv : Value), n ≤ N + 1 ∧ v = vv ∧ t = .int .i64 n ∧ W.ownsRow w.heap.size 3 1 vv l.length (l.map (Value.int .i64)) ∧ Hid (SubL s n 0 l) ∧ Hid (Below w.heap.size w W)) (fun _ t _ _ => N + 1 - (intOf t).toNat)
  case atStart => exact ⟨0, [], .slice none 0 0, by omega, rfl, rfl, World.ownsRow_nil _ _ _ _, Lib.hid (SubL.nil s), Lib.hid (bref _)⟩
  case round =>
    obtain ⟨n, l, v, hn, hv, rfl, hown, hL, hB⟩ := hrel
    replace hv := hv.symm
    subst hv
    have HOWN := Lib.hid hown
    by_cases hlt : n ≤ N
    · clear hown
      go_wp2_with fail
      refine (rsetSize_run s hs _).mono ?_
      rintro e w2 ⟨rfl, rfl⟩
      rw [HPN.out]
      go_wp2_with fail
      refine (rsetValid_run _ _).mono ?_
      rintro e w2 ⟨rfl, rfl⟩
      rw [hsv.out]
      go_wp2_with fail
      go_loopw [3, 5] (fun v t W => ∃ (x : Nat) (l : List Int) (vv : Value), x ≤ s + 1 ∧ v = vv ∧ t = .int .i64 x ∧ W.ownsRow w.heap.size 3 1 vv l.length (l.map (Value.int .i64)) ∧ Hid (SubL s n x l) ∧ Hid (Below w.heap.size w W)) (fun _ t _ => s + 1 - (intOf t).toNat)
      case atStart => exact ⟨0, l, _, by omega, rfl, rfl, HOWN.out, hL, hB⟩
      case round =>
        clear HOWN hL hB
        obtain ⟨x, l, v, hx, hv, rfl, hown, hL, hB⟩ := hrel
        replace hv := hv.symm
        subst hv
        have HOWN := Lib.hid hown
        have hlen := hL.out.1
        by_cases hxl : x ≤ s
        · have han := i64_and_nat x s (by omega) (by omega)
          by_cases hsub : Sub x s
          · rw [and_self_sub.2 hsub] at han
            obtain ⟨p, hp⟩ : ∃ p, popc x = p := ⟨_, rfl⟩
            have HP := Lib.hid hp
            by_cases hpn : p = n
            · have HT := Lib.hid (hL.out.take hxl hsub (hp.trans hpn))
              have hbs := hB.out.size
              clear hsub hp
              go_wp2_with fail
              refine (rsetSize_run x (by omega) _).mono ?_
              rintro e w2 ⟨rfl, rfl⟩
              rw [HP.out]
              subst hpn
              go_wp2_with (at_builtin; refine wpList_append_own _ rfl _ _ 22 rfl w.heap.size 3 i0 (.int .i64 0) 1 8 Try.underlying22 hin hz0 hz1 hz2 rfl (by decide) _ _ _ rfl (hown.alloc _) ⟨wr.heap.size, 0, none⟩ 1 1 [.int .i64 (x : Int)] rfl rfl (cell_one_new _ _ _) (fun u hu => by simp at hu; subst hu; rfl) (by unfold maxLen; omega) (by omega) (by simp; omega) ?_; intro v' w1 hown' hgrow hnil)
              have HO := Lib.hid (own_snoc hown')
              have HB4 := Lib.hid (Below.grown (balloc hB.out (.cells #[.int .i64 (x : Int)] 3)) hgrow (by simp; omega) (fun j hj => (hown.lt j hj).1))
              clear hown' hgrow hnil hown
              go_roundw
              case rel => exact ⟨x + 1, l ++ [(x : Int)], _, by omega, rfl, by go_num, by simpa using HO.out, HT, HB4⟩
              case measure => simp [intOf]; omega
            · have HT := Lib.hid (hL.out.skip (fun h => hpn (by rw [← hp]; exact h.2)))
              clear hsub hp hown
              go_wp2_with fail
              refine (rsetSize_run x (by omega) _).mono ?_
              rintro e w2 ⟨rfl, rfl⟩
              rw [HP.out]
              go_wp2_with fail
              go_roundw
              case rel => exact ⟨x + 1, l, _, by omega, rfl, by go_num, HOWN.out, HT, hB⟩
              case measure => simp [intOf]; omega
          · have hne : x &&& s ≠ x := fun h => hsub (and_self_sub.1 h)
            have HT := Lib.hid (hL.out.skip (fun h => hsub h.1))
            generalize x &&& s = Y at *
            clear hsub hown
            go_wp2_with fail
            go_roundw
            case rel => exact ⟨x + 1, l, _, by omega, rfl, by go_num, HOWN.out, HT, hB⟩
            case measure => simp [intOf]; omega
        · obtain rfl : x = s + 1 := by omega
          have HT := Lib.hid (hL.out.turn hs)
          clear hown
          go_wp2_with fail
          go_roundw
          case rel => exact ⟨n + 1, l, _, by omega, rfl, by go_num, HOWN.out, HT, hB⟩
          case measure => simp [intOf]; omega
    · have hnN : n = N + 1 := by omega
      subst hnN
      have hlen := hL.out.1
      have HF := Lib.hid (And.intro (NodesAt.of_own hown) (And.intro (show l.length ≤ 20000 by omega) (And.intro (SubL.full (by rw [HPN.out]; exact hL.out)) hB.out)))
      obtain ⟨Av, cv, hv⟩ := own_slice hown
      subst hv
      clear hown HOWN
      go_wp2_with fail
      refine (rsetSize_run s hs _).mono ?_
      rintro e w2 ⟨rfl, rfl⟩
      rw [HPN.out]
      go_wp2_with fail
      go_ret
      exact ⟨_, rfl, l, HF.out⟩

end Go.Proofs.Ytfghnkgllmofgaa
