/- ref01.Subsets, with its order. -/
import Derived.Test.YtacpfcckilnbfaaGreatB7
namespace Go.Proofs.YtacpfcckilnbfaaGreat
set_option linter.unusedVariables false
set_option linter.unusedSimpArgs false
open Go.RowKit

/-- As SubL, in the order of sets. -/
def SubO (s n x : Nat) (l : List Int) : Prop := SubL s n x l ∧ l.Pairwise (fun a b => keyC a.toNat < keyC b.toNat)
theorem SubO.nil (s : Nat) : SubO s 0 0 [] := ⟨SubL.nil s, List.Pairwise.nil⟩
theorem SubO.turn {s n : Nat} {l : List Int} (hs : s < 1024) (h : SubO s n (s + 1) l) : SubO s (n + 1) 0 l := ⟨h.1.turn hs, h.2⟩
theorem SubO.skip {s n x : Nat} {l : List Int} (h : SubO s n x l) (hn : ¬ (Sub x s ∧ popc x = n)) : SubO s n (x + 1) l := ⟨h.1.skip hn, h.2⟩
theorem SubO.take {s n x : Nat} {l : List Int} (hs : s < 1024) (h : SubO s n x l) (hx : x ≤ s) (h1 : Sub x s) (h2 : popc x = n) : SubO s n (x + 1) (l ++ [(x : Int)]) := by
  refine ⟨h.1.take hx h1 h2, ?_⟩
  rw [List.pairwise_append]
  refine ⟨h.2, by simp, fun a ha b hb => ?_⟩
  rw [List.mem_singleton] at hb
  subst hb
  obtain ⟨q, rfl, _, hq, h3⟩ := (h.1.2 a).1 ha
  show keyC q < keyC x
  exact (keyC_lt q x (by omega) (by omega)).2 (by omega)

set_option maxRecDepth 100000 in
set_option maxHeartbeats 2000000 in
theorem rsubsetsP_run (s : Nat) (w : World) (hs : s < 1024) :
    Calls Tryz.prog 69 #[.int .i64 (s : Int)] w fun e w' => ∃ v l, e = .returned v ∧ NodesAt (fun b => w.heap.size ≤ b) w' v l ∧ l.length ≤ 20000 ∧ (∀ t : Int, t ∈ l ↔ ∃ q : Nat, t = (q : Int) ∧ Sub q s) ∧ l.Pairwise (fun a b => keyC a.toNat < keyC b.toNat) ∧ Below w.heap.size w w' := by
  obtain ⟨i0, hin, hz0, hz1, hz2⟩ := info_parts infoInt
  have hsv := Lib.hid (show setB (s : Int) = true from setB_iff.2 ⟨by omega, by omega⟩)
  have hpc := popc_le s
  obtain ⟨N, hN⟩ : ∃ N, popc s = N := ⟨_, rfl⟩
  have HPN := Lib.hid hN
  rw [hN] at hpc
  clear hN
  go_enter Tryz.func69, Tryz.ntmps69
  go_wp2_with fail
  go_loopw [3, 4, 5] (fun v t _ W => ∃ (n : Nat) (l : List Int) (vv : Value), n ≤ N + 1 ∧ v = vv ∧ t = .int .i64 n ∧ W.ownsRow w.heap.size 3 1 vv l.length (l.map (Value.int .i64)) ∧ Hid (SubO s n 0 l) ∧ Hid (Below w.heap.size w W)) (fun _ t _ _ => N + 1 - (intOf t).toNat)
  case atStart => exact ⟨0, [], .slice none 0 0, by omega, rfl, rfl, World.ownsRow_nil _ _ _ _, Lib.hid (SubO.nil s), Lib.hid (bref _)⟩
  case round =>
    obtain ⟨n, l, v, hn, hv, rfl, hown, hL, hB⟩ := hrel
    replace hv := hv.symm
    subst hv
    have HOWN := Lib.hid hown
    by_cases hlt : n ≤ N
    · clear hown
      go_wp2_with fail
      refine (rsetSize_run s hs _).mono ?_
      rintro e w2 ⟨rfl, rfl⟩
      rw [HPN.out]
      go_wp2_with fail
      refine (rsetValid_run _ _).mono ?_
      rintro e w2 ⟨rfl, rfl⟩
      rw [hsv.out]
      go_wp2_with fail
      go_loopw [3, 5] (fun v t W => ∃ (x : Nat) (l : List Int) (vv : Value), x ≤ s + 1 ∧ v = vv ∧ t = .int .i64 x ∧ W.ownsRow w.heap.size 3 1 vv l.length (l.map (Value.int .i64)) ∧ Hid (SubO s n x l) ∧ Hid (Below w.heap.size w W)) (fun _ t _ => s + 1 - (intOf t).toNat)
      case atStart => exact ⟨0, l, _, by omega, rfl, rfl, HOWN.out, hL, hB⟩
      case round =>
        clear HOWN hL hB
        obtain ⟨x, l, v, hx, hv, rfl, hown, hL, hB⟩ := hrel
        replace hv := hv.symm
        subst hv
        have HOWN := Lib.hid hown
        have hlen := hL.out.1.1
        by_cases hxl : x ≤ s
        · have han := i64_and_nat x s (by omega) (by omega)
          by_cases hsub : Sub x s
          · rw [and_self_sub.2 hsub] at han
            obtain ⟨p, hp⟩ : ∃ p, popc x = p := ⟨_, rfl⟩
            have HP := Lib.hid hp
            by_cases hpn : p = n
            · have HT := Lib.hid (SubO.take hs hL.out hxl hsub (hp.trans hpn))
              have hbs := hB.out.size
              clear hsub hp
              go_wp2_with fail
              refine (rsetSize_run x (by omega) _).mono ?_
              rintro e w2 ⟨rfl, rfl⟩
              rw [HP.out]
              subst hpn
              go_wp2_with (at_builtin; refine wpList_append_own _ rfl _ _ 22 rfl w.heap.size 3 i0 (.int .i64 0) 1 8 Tryz.underlying22 hin hz0 hz1 hz2 rfl (by decide) _ _ _ rfl (hown.alloc _) ⟨wr.heap.size, 0, none⟩ 1 1 [.int .i64 (x : Int)] rfl rfl (cell_one_new _ _ _) (fun u hu => by simp at hu; subst hu; rfl) (by unfold maxLen; omega) (by omega) (by simp; omega) ?_; intro v' w1 hown' hgrow hnil)
              have HO := Lib.hid (own_snoc hown')
              have HB4 := Lib.hid (Below.grown (balloc hB.out (.cells #[.int .i64 (x : Int)] 3)) hgrow (by simp; omega) (fun j hj => (hown.lt j hj).1))
              clear hown' hgrow hnil hown
              go_roundw
              case rel => exact ⟨x + 1, l ++ [(x : Int)], _, by omega, rfl, by go_num, by simpa using HO.out, HT, HB4⟩
              case measure => simp [intOf]; omega
            · have HT := Lib.hid (hL.out.skip (fun h => hpn (by rw [← hp]; exact h.2)))
              clear hsub hp hown
              go_wp2_with fail
              refine (rsetSize_run x (by omega) _).mono ?_
              rintro e w2 ⟨rfl, rfl⟩
              rw [HP.out]
              go_wp2_with fail
              go_roundw
              case rel => exact ⟨x + 1, l, _, by omega, rfl, by go_num, HOWN.out, HT, hB⟩
              case measure => simp [intOf]; omega
          · have hne : x &&& s ≠ x := fun h => hsub (and_self_sub.1 h)
            have HT := Lib.hid (hL.out.skip (fun h => hsub h.1))
            generalize x &&& s = Y at *
            clear hsub hown
            go_wp2_with fail
            go_roundw
            case rel => exact ⟨x + 1, l, _, by omega, rfl, by go_num, HOWN.out, HT, hB⟩
            case measure => simp [intOf]; omega
        · obtain rfl : x = s + 1 := by omega
          have HT := Lib.hid (hL.out.turn hs)
          clear hown
          go_wp2_with fail
          go_roundw
          case rel => exact ⟨n + 1, l, _, by omega, rfl, by go_num, HOWN.out, HT, hB⟩
          case measure => simp [intOf]; omega
    · have hnN : n = N + 1 := by omega
      subst hnN
      have hlen := hL.out.1.1
      have HF := Lib.hid (And.intro (NodesAt.of_own hown) (And.intro (show l.length ≤ 20000 by omega) (And.intro (SubL.full (by rw [HPN.out]; exact hL.out.1)) (And.intro hL.out.2 hB.out))))
      obtain ⟨Av, cv, hv⟩ := own_slice hown
      subst hv
      clear hown HOWN
      go_wp2_with fail
      refine (rsetSize_run s hs _).mono ?_
      rintro e w2 ⟨rfl, rfl⟩
      rw [HPN.out]
      go_wp2_with fail
      go_ret
      exact ⟨_, rfl, l, HF.out⟩

/-- The reference's list of subsets, as sets in their order. -/
theorem rsubsetsO_run (s : Nat) (w : World) (hs : s < 1024) :
    Calls Tryz.prog 69 #[.int .i64 (s : Int)] w fun e w' => ∃ v L, e = .returned v ∧ NodesAt (fun b => w.heap.size ≤ b) w' v (zs L) ∧ L.length ≤ 20000 ∧ Asc L ∧ (∀ t : Nat, t ∈ L ↔ Sub t s) ∧ Below w.heap.size w w' := by
  refine (rsubsetsP_run s w hs).mono ?_
  rintro e w' ⟨v, l, rfl, h1, h2, h3, h4, h5⟩
  have hz : zs (l.map Int.toNat) = l := by
    unfold zs
    rw [List.map_map]
    conv => rhs; rw [← List.map_id l]
    refine List.map_congr_left (fun t ht => ?_)
    obtain ⟨q, rfl, _⟩ := (h3 t).1 ht
    rfl
  refine ⟨v, l.map Int.toNat, rfl, by rw [hz]; exact h1, by rw [List.length_map]; exact h2, ?_, fun t => ?_, h5⟩
  · unfold Asc
    rw [List.pairwise_map]
    exact h4
  · rw [List.mem_map]
    constructor
    · rintro ⟨a, ha, rfl⟩
      obtain ⟨q, rfl, hq⟩ := (h3 a).1 ha
      exact hq
    · intro ht
      exact ⟨(t : Int), (h3 _).2 ⟨t, rfl, ht⟩, rfl⟩
end Go.Proofs.YtacpfcckilnbfaaGreat
