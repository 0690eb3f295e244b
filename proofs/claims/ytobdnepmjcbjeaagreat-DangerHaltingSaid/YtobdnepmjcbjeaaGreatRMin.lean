/- The contracts of the reference's all, Minimal (quorums), Meeting (nodeset), and of danger.Halts. -/
import Derived.Test.YtobdnepmjcbjeaaGreatRLeast2
import Derived.Test.YtobdnepmjcbjeaaGreatB4
import Derived.Deep.Onto
import Derived.Deep.RegionHeld3
namespace Go.Proofs.YtobdnepmjcbjeaaGreat
set_option linter.unusedVariables false
set_option linter.unusedSimpArgs false
open Go.RowKit

set_option maxRecDepth 100000 in
set_option maxHeartbeats 4000000 in
theorem rall_run (P : Nat → Prop) (ms : List Mem) (v : Value) (w : World) (hl10 : ms.length ≤ 10) (h : MemsAt P 2 w v ms) (hok : MemsOk ms.length ms) :
    Calls Tryz.prog 31 #[.agg #[v]] w fun e w' => ∃ v', e = .returned v' ∧ w'.ownsRow w.heap.size 3 1 v' (allQ 2 ms).length ((zs (allQ 2 ms)).map (Value.int .i64)) ∧ Below w.heap.size w w' := by
  obtain ⟨i0, hin, hz0, hz1, hz2⟩ := info_parts infoInt
  obtain ⟨A, c, rfl⟩ := h.slice
  have hb1 : Below w.heap.size w (w.alloc (.cells #[.slice A ms.length c] 27)) := balloc (bref w) _
  have k0 : (w.alloc (.cells #[.slice A ms.length c] 27)).heap[w.heap.size]? = some (.cells #[.slice A ms.length c] 27 (0, 0)) := alloc_at rfl
  have hp := pow11 ms.length (by omega)
  have h10 : 2 ^ ms.length ≤ 2 ^ 10 := Nat.pow_le_pow_right (by omega) hl10
  have HQA := Lib.hid (show allQ 2 ms = (List.range (2 ^ ms.length)).filter (qB 2 ms) from rfl)
  have HQI := Lib.hid (qB_iff 2 ms)
  generalize qB 2 ms = q at *
  generalize allQ 2 ms = aq at *
  obtain ⟨N, hN⟩ : ∃ N, 2 ^ ms.length = N := ⟨_, rfl⟩
  rw [hN] at hp h10 HQA
  have HNN := Lib.hid hN
  clear hN
  have hn0 : (0 : Int) ≤ (ms.length : Int) := by omega
  have hn64 : ¬ (64 : Int) ≤ (ms.length : Int) := by omega
  have H := Lib.hid (h.below hb1)
  have HB := Lib.hid hb1
  have K0 := Lib.hid k0
  have HOK := Lib.hid hok
  clear h hb1 k0 hok
  go_enter Tryz.func31, Tryz.ntmps31
  go_upto_region 1 with fail
  generalize w.alloc (.cells #[.slice A ms.length c] 27) = W1 at *
  generalize hg : w.heap.size = g at *
  have HG := Lib.hid hg
  clear hg
  have c0 : W1.cell? ⟨g, 0, none⟩ = some (.slice A ms.length c) := cell_of_row _ _ 0 _ _ (0, 0) K0.out
  have hgl := cell_lt c0
  go_wp2_with fail
  have d0 := c0
  clear c0
  go_loopw [3, 4] (fun v t W => ∃ (k : Nat) (l : List Nat) (vv : Value), k ≤ N ∧ v = vv ∧ t = .int .i64 k ∧ W.ownsRow W1.heap.size 3 1 vv l.length ((zs l).map (Value.int .i64)) ∧ Hid (l = (List.range k).filter q) ∧ Hid (Below W1.heap.size W1 W)) (fun _ t _ => N - (intOf t).toNat)
  case atStart => exact ⟨0, [], .slice none 0 0, by omega, rfl, rfl, World.ownsRow_nil _ _ _ _, Lib.hid rfl, Lib.hid (bref _)⟩
  case round =>
    obtain ⟨k, l, v, hk, hv, rfl, hown, hL, hB⟩ := hrel
    replace hv := hv.symm
    subst hv
    have hlen : l.length ≤ k := by rw [hL.out]; exact Nat.le_trans (List.length_filter_le _ _) (by simp)
    have HOWN := Lib.hid hown
    have hbs := hB.out.size
    by_cases hlt : k < N
    · have e0 := (hB.out.cell hgl).trans d0
      have HMk := Lib.hid (H.out.below hB.out)
      clear hown
      go_wp2_with fail
      refine (rquorum_run P 2 ms _ k _ hl10 (by omega) HMk.out).mono ?_
      rintro e W5 ⟨b, rfl, hb, hb5⟩
      have HB5 := Lib.hid (bstep hB.out hb5)
      have HO5 := Lib.hid (own_keepG HOWN.out (fun j _ _ hl => hb5.block j hl))
      rcases (show b = false ∨ b = true by cases b <;> simp) with rfl | rfl
      · have hqk : q k = false := by
          cases hq : q k
          · rfl
          · exact absurd (hb.2 ((HQI.out k).1 hq)) (by simp)
        have HL2 := Lib.hid (show l = (List.range (k + 1)).filter q by rw [List.range_succ, List.filter_append, ← hL.out]; simp [hqk])
        clear hb hqk hb5
        go_wp2_with fail
        go_roundw
        case rel => exact ⟨k + 1, l, _, by omega, rfl, by go_num, HO5.out, HL2, HB5⟩
        case measure => simp [intOf]; omega
      · have hqk : q k = true := (HQI.out k).2 (hb.1 rfl)
        have HL2 := Lib.hid (show l ++ [k] = (List.range (k + 1)).filter q by rw [List.range_succ, List.filter_append, ← hL.out]; simp [hqk])
        have hown := HO5.out
        have hsz5 := hb5.size
        have hzl := zs_len l
        clear hb hqk hb5
        go_wp2_with (at_builtin; refine wpList_append_own _ rfl _ _ 22 rfl W1.heap.size 3 i0 (.int .i64 0) 1 8 Tryz.underlying22 hin hz0 hz1 hz2 rfl (by decide) _ _ _ rfl (hown.alloc _) ⟨W5.heap.size, 0, none⟩ 1 1 [.int .i64 (k : Int)] rfl rfl (cell_one_new _ _ _) (fun u hu => by simp at hu; subst hu; rfl) (by unfold maxLen; omega) (by omega) (by simp; omega) ?_; intro v' w1 hown' hgrow hnil)
        have HO := Lib.hid (own_snocZ hown')
        have HB6 := Lib.hid (Below.grown (balloc HB5.out (.cells #[.int .i64 (k : Int)] 3)) hgrow (by simp; omega) (fun j hj => (hown.lt j hj).1))
        clear hown' hgrow hnil hown
        go_roundw
        case rel => exact ⟨k + 1, l ++ [k], _, by omega, rfl, by go_num, HO.out, HL2, HB6⟩
        case measure => simp [intOf]; omega
    · obtain rfl : k = N := by omega
      have hla : l = aq := by rw [hL.out, HQA.out]
      subst hla
      obtain ⟨Av, cv, hvv⟩ := own_slice hown
      subst hvv
      have HF := Lib.hid (show wr.ownsRow w.heap.size 3 1 (.slice Av l.length cv) l.length ((zs l).map (Value.int .i64)) ∧ Below w.heap.size w wr from
        ⟨hown.mono HB.out.size, by
          have h0 := HB.out
          rw [← HG.out] at h0
          exact bstep h0 hB.out⟩)
      have e0 := (hB.out.cell hgl).trans d0
      clear hown HOWN
      go_wp2_with fail
      go_ret
      exact ⟨_, rfl, HF.out⟩

set_option maxRecDepth 100000 in
set_option maxHeartbeats 4000000 in
theorem rmin_run (P : Nat → Prop) (ms : List Mem) (v : Value) (w : World) (hl10 : ms.length ≤ 10) (h : MemsAt P 2 w v ms) (hok : MemsOk ms.length ms) :
    Calls Tryz.prog 9 #[.agg #[v]] w fun e w' => ∃ v' l, e = .returned (.tuple #[v', .int .i64 0]) ∧ w'.ownsRow w.heap.size 3 1 v' l.length ((zs l).map (Value.int .i64)) ∧ IsLeast (pz (zs (allQ 2 ms))) l ∧ Below w.heap.size w w' := by
  obtain ⟨A, c, rfl⟩ := h.slice
  have hb1 : Below w.heap.size w (w.alloc (.cells #[.slice A ms.length c] 27)) := balloc (bref w) _
  have k0 : (w.alloc (.cells #[.slice A ms.length c] 27)).heap[w.heap.size]? = some (.cells #[.slice A ms.length c] 27 (0, 0)) := alloc_at rfl
  have H := Lib.hid (h.below hb1)
  have HB := Lib.hid hb1
  have K0 := Lib.hid k0
  have HV := Lib.hid (fun W (hm : MemsAt P 2 W (.slice A ms.length c) ms) => rcvalid_run P ms _ W hl10 hm hok)
  have HQ := Lib.hid (fun W (hm : MemsAt P 2 W (.slice A ms.length c) ms) => rall_run P ms _ W hl10 hm hok)
  have HAT := Lib.hid (show ∀ t ∈ allQ 2 ms, t < 1024 from fun t ht => by
    have h10 : 2 ^ ms.length ≤ 2 ^ 10 := Nat.pow_le_pow_right (by omega) hl10
    have := ((allQ_mem 2 ms t).1 ht).1
    omega)
  have HAL := Lib.hid (show (allQ 2 ms).length ≤ 1024 from allQ_len 2 ms hl10)
  generalize allQ 2 ms = aq at *
  obtain ⟨nm, hnm⟩ : ∃ nm, ms.length = nm := ⟨_, rfl⟩
  rw [hnm] at H K0 HB HV HQ ⊢
  clear h hb1 k0 hok hnm
  go_enter Tryz.func9, Tryz.ntmps9
  go_upto_region 1 with fail
  generalize w.alloc (.cells #[.slice A nm c] 27) = W1 at *
  generalize hg : w.heap.size = g at *
  have HG := Lib.hid hg
  clear hg
  have c0 : W1.cell? ⟨g, 0, none⟩ = some (.slice A nm c) := cell_of_row _ _ 0 _ _ (0, 0) K0.out
  have HBw := Lib.hid (show Below w.heap.size w W1 by rw [HG.out]; exact HB.out)
  go_wp2_with fail
  refine (HV.out _ H.out).mono ?_
  rintro e W2 ⟨rfl, hb2⟩
  have c2 := (hb2.cell (cell_lt c0)).trans c0
  have HB2 := Lib.hid (bstep HBw.out hb2)
  have H2 := Lib.hid (H.out.below hb2)
  clear hb2 c0
  go_wp2_with fail
  refine (HQ.out _ H2.out).mono ?_
  rintro e W3 ⟨v3, rfl, ho3, hb3⟩
  have HB3 := Lib.hid (bstep HB2.out hb3)
  have HN3 := Lib.hid (NodesAt.of_ownZ ho3)
  obtain ⟨A3, c3, hv3⟩ := own_slice ho3
  subst hv3
  clear ho3 hb3 c2
  go_wp2_with fail
  refine (rleast_run _ _ aq _ HAL.out HAT.out HN3.out).mono ?_
  rintro e W4 ⟨v4, l, rfl, ho4, hl4, hb4⟩
  have HF := Lib.hid (show W4.ownsRow w.heap.size 3 1 v4 l.length ((zs l).map (Value.int .i64)) ∧ IsLeast (pz (zs aq)) l ∧ Below w.heap.size w W4 from
    ⟨ho4.mono HB3.out.size, hl4, bstep HB3.out hb4⟩)
  obtain ⟨A4, c4, hv4⟩ := own_slice ho4
  subst hv4
  clear ho4 hl4 hb4
  go_wp2_with fail
  go_ret2
  exact ⟨_, l, rfl, HF.out⟩
end Go.Proofs.YtobdnepmjcbjeaaGreat
