/- The contracts of quorums.all, Minimal, Count. -/
import Derived.Test.YtoaekbhbbejgmaaNLeast
import Derived.Test.YtoaekbhbbejgmaaCValid
import Derived.Test.YtoaekbhbbejgmaaClos2
namespace Go.Proofs.Ytoaekbhbbejgmaa
set_option linter.unusedVariables false
set_option linter.unusedSimpArgs false
open Go.RowKit

/-- Is s a quorum? -/
noncomputable def qB (d : Nat) (ms : List Mem) (s : Nat) : Bool := @decide (s ≠ 0 ∧ Sub s (declS ms ms.length) ∧ Closed d ms s) (Classical.propDecidable _)
theorem qB_iff (d : Nat) (ms : List Mem) (s : Nat) : qB d ms s = true ↔ (s ≠ 0 ∧ Sub s (declS ms ms.length) ∧ Closed d ms s) := by unfold qB; exact @decide_eq_true_iff _ (Classical.propDecidable _)
/-- All quorums, ascending. -/
noncomputable def allQ (d : Nat) (ms : List Mem) : List Nat := (List.range (2 ^ ms.length)).filter (qB d ms)
theorem allQ_len (d : Nat) (ms : List Mem) (h : ms.length ≤ 10) : (allQ d ms).length ≤ 1024 := by
  have h10 : 2 ^ ms.length ≤ 2 ^ 10 := Nat.pow_le_pow_right (by omega) h
  unfold allQ
  exact Nat.le_trans (List.length_filter_le _ _) (by simp; omega)
theorem allQ_mem (d : Nat) (ms : List Mem) (t : Nat) : t ∈ allQ d ms ↔ (t < 2 ^ ms.length ∧ qB d ms t = true) := by unfold allQ; rw [List.mem_filter, List.mem_range]

set_option maxRecDepth 100000 in
set_option maxHeartbeats 4000000 in
theorem qall_run (P : Nat → Prop) (ms : List Mem) (v : Value) (w : World) (hl : ms.length ≤ 10) (h : MemsAt P 2 w v ms) (hok : MemsOk ms.length ms) :
    Calls Try.prog 41 #[.agg #[v]] w fun e w' => ∃ v', e = .returned (.tuple #[v', .int .i64 0]) ∧ w'.ownsRow w.heap.size 3 1 v' (allQ 2 ms).length ((zs (allQ 2 ms)).map (Value.int .i64)) ∧ Below w.heap.size w w' := by
  obtain ⟨i0, hin, hz0, hz1, hz2⟩ := info_parts infoInt
  obtain ⟨A, c, rfl⟩ := h.slice
  have hb1 : Below w.heap.size w (w.alloc (.cells #[.slice A ms.length c] 27)) := balloc (bref w) _
  have k0 : (w.alloc (.cells #[.slice A ms.length c] 27)).heap[w.heap.size]? = some (.cells #[.slice A ms.length c] 27 (0, 0)) := alloc_at rfl
  have hp := pow11 ms.length (by omega)
  have h10 : 2 ^ ms.length ≤ 2 ^ 10 := Nat.pow_le_pow_right (by omega) hl
  have HQA := Lib.hid (show allQ 2 ms = (List.range (2 ^ ms.length)).filter (qB 2 ms) from rfl)
  have HQI := Lib.hid (qB_iff 2 ms)
  generalize qB 2 ms = q at *
  generalize allQ 2 ms = aq at *
  obtain ⟨N, hN⟩ : ∃ N, 2 ^ ms.length = N := ⟨_, rfl⟩
  rw [hN] at hp h10 HQA
  clear hN
  have hn0 : (0 : Int) ≤ (ms.length : Int) := by omega
  have hn64 : ¬ (64 : Int) ≤ (ms.length : Int) := by omega
  have H := Lib.hid (h.below hb1)
  have HB := Lib.hid hb1
  have K0 := Lib.hid k0
  have HOK := Lib.hid hok
  clear h hb1 k0 hok
  go_enter Try.func41, Try.ntmps41
  go_upto_region 1 with fail
  generalize w.alloc (.cells #[.slice A ms.length c] 27) = W1 at *
  generalize hg : w.heap.size = g at *
  have HG := Lib.hid hg
  clear hg
  have c0 : W1.cell? ⟨g, 0, none⟩ = some (.slice A ms.length c) := cell_of_row _ _ 0 _ _ (0, 0) K0.out
  have hgl := cell_lt c0
  go_wp2_with fail
  refine (cvalid_run P ms _ _ hl H.out HOK.out).mono ?_
  rintro e W2 ⟨rfl, hb2⟩
  have HB2 := Lib.hid hb2
  have d0 := (hb2.cell hgl).trans c0
  have HM2 := Lib.hid (H.out.below hb2)
  have hgl2 := cell_lt d0
  clear hb2 c0
  go_wp2_with fail
  rw [hp]
  go_loopw [5, 16] (fun v t W => ∃ (k : Nat) (l : List Nat) (vv : Value), k ≤ N ∧ v = vv ∧ t = .int .i64 k ∧ W.ownsRow W2.heap.size 3 1 vv l.length ((zs l).map (Value.int .i64)) ∧ Hid (l = (List.range k).filter q) ∧ Hid (Below W2.heap.size W2 W)) (fun _ t _ => N - (intOf t).toNat)
  case atStart => exact ⟨0, [], .slice none 0 0, by omega, rfl, rfl, World.ownsRow_nil _ _ _ _, Lib.hid rfl, Lib.hid (bref _)⟩
  case round =>
    obtain ⟨k, l, v, hk, hv, rfl, hown, hL, hB⟩ := hrel
    replace hv := hv.symm
    subst hv
    have hlen : l.length ≤ k := by rw [hL.out]; exact Nat.le_trans (List.length_filter_le _ _) (by simp)
    have HOWN := Lib.hid hown
    have hbs := hB.out.size
    by_cases hlt : k < N
    · have e0 := (hB.out.cell hgl2).trans d0
      have HMk := Lib.hid (HM2.out.below hB.out)
      clear hown
      go_wp2_with fail
      refine (quorum_run P 2 ms _ k _ hl (by omega) HMk.out).mono ?_
      rintro e W5 ⟨b, rfl, hb, hb5⟩
      have HB5 := Lib.hid (bstep hB.out hb5)
      have HO5 := Lib.hid (own_keepG HOWN.out (fun j _ _ hl => hb5.block j hl))
      rcases (show b = false ∨ b = true by cases b <;> simp) with rfl | rfl
      · have hqk : q k = false := by
          cases hq : q k
          · rfl
          · exact absurd (hb.2 ((HQI.out k).1 hq)) (by simp)
        have HL2 := Lib.hid (show l = (List.range (k + 1)).filter q by rw [List.range_succ, List.filter_append, ← hL.out]; simp [hqk])
        clear hb hqk hb5
        go_wp2_with fail
        go_roundw
        case rel => exact ⟨k + 1, l, _, by omega, rfl, by go_num, HO5.out, HL2, HB5⟩
        case measure => simp [intOf]; omega
      · have hqk : q k = true := (HQI.out k).2 (hb.1 rfl)
        have HL2 := Lib.hid (show l ++ [k] = (List.range (k + 1)).filter q by rw [List.range_succ, List.filter_append, ← hL.out]; simp [hqk])
        have hown := HO5.out
        have hsz5 := hb5.size
        have hzl := zs_len l
        clear hb hqk hb5
        go_wp2_with (at_builtin; refine wpList_append_own _ rfl _ _ 22 rfl W2.heap.size 3 i0 (.int .i64 0) 1 8 Try.underlying22 hin hz0 hz1 hz2 rfl (by decide) _ _ _ rfl (hown.alloc _) ⟨W5.heap.size, 0, none⟩ 1 1 [.int .i64 (k : Int)] rfl rfl (cell_one_new _ _ _) (fun u hu => by simp at hu; subst hu; rfl) (by unfold maxLen; omega) (by omega) (by simp; omega) ?_; intro v' w1 hown' hgrow hnil)
        have HO := Lib.hid (own_snocZ hown')
        have HB6 := Lib.hid (Below.grown (balloc HB5.out (.cells #[.int .i64 (k : Int)] 3)) hgrow (by simp; omega) (fun j hj => (hown.lt j hj).1))
        clear hown' hgrow hnil hown
        go_roundw
        case rel => exact ⟨k + 1, l ++ [k], _, by omega, rfl, by go_num, HO.out, HL2, HB6⟩
        case measure => simp [intOf]; omega
    · obtain rfl : k = N := by omega
      have hla : l = aq := by rw [hL.out, HQA.out]
      subst hla
      have hg2 : g ≤ W2.heap.size := by omega
      have HR := Lib.hid (show wr.ownsRow g 3 1 v l.length ((zs l).map (Value.int .i64)) ∧ Below g w wr from by
        refine ⟨?_, ?_⟩
        · obtain ⟨h1, h2⟩ := hown
          refine ⟨h1, ?_⟩
          rcases h2 with h2 | ⟨gg, cap, cur, e1, e2, e3⟩
          · exact .inl h2
          · exact .inr ⟨gg, cap, cur, e1, Nat.le_trans hg2 e2, e3⟩
        · have h0 := HB.out
          rw [← HG.out] at h0
          have h1 := bstep (bstep h0 HB2.out) hB.out
          rwa [HG.out] at h1)
      obtain ⟨Ar, cr, hvr⟩ := own_slice hown
      subst hvr
      clear hown HOWN
      go_wp2_with fail
      go_ret2
      exact ⟨_, rfl, by rw [HG.out]; exact HR.out⟩

set_option maxHeartbeats 2000000 in
theorem qmin_run (P : Nat → Prop) (ms : List Mem) (v : Value) (w : World) (hl : ms.length ≤ 10) (h : MemsAt P 2 w v ms) (hok : MemsOk ms.length ms) :
    Calls Try.prog 11 #[.agg #[v]] w fun e w' => ∃ v' l, e = .returned (.tuple #[v', .int .i64 0]) ∧ w'.ownsRow w.heap.size 3 1 v' l.length ((zs l).map (Value.int .i64)) ∧ IsLeast (pz (zs (allQ 2 ms))) l ∧ Below w.heap.size w w' := by
  obtain ⟨A, c, rfl⟩ := h.slice
  have hb1 : Below w.heap.size w (w.alloc (.cells #[.slice A ms.length c] 27)) := balloc (bref w) _
  have k0 : (w.alloc (.cells #[.slice A ms.length c] 27)).heap[w.heap.size]? = some (.cells #[.slice A ms.length c] 27 (0, 0)) := alloc_at rfl
  have H := Lib.hid (h.below hb1)
  have HB := Lib.hid hb1
  have K0 := Lib.hid k0
  have HAL := Lib.hid (allQ_len 2 ms hl)
  have HQR := Lib.hid (fun W (hm : MemsAt P 2 W (.slice A ms.length c) ms) => qall_run P ms _ W hl hm hok)
  clear h hb1 k0 hok
  generalize allQ 2 ms = aq at *
  go_enter Try.func11, Try.ntmps11
  go_upto_region 1 with fail
  generalize w.alloc (.cells #[.slice A ms.length c] 27) = W1 at *
  have c0 : W1.cell? ⟨w.heap.size, 0, none⟩ = some (.slice A ms.length c) := cell_of_row _ _ 0 _ _ (0, 0) K0.out
  go_wp2_with fail
  refine (HQR.out _ H.out).mono ?_
  rintro e W2 ⟨v2, rfl, ho2, hb2⟩
  have HN := Lib.hid (NodesAt.of_ownZ ho2)
  have HB2 := Lib.hid (bstep HB.out hb2)
  obtain ⟨A2, c2, hv2⟩ := own_slice ho2
  subst hv2
  clear ho2 hb2 c0
  go_wp2_with fail
  refine (pleast_run _ _ (zs aq) _ (by rw [zs_len]; have := HAL.out; omega) HN.out).mono ?_
  rintro e W3 ⟨v3, l, rfl, ho3, hl3, hb3⟩
  have HF := Lib.hid (show W3.ownsRow w.heap.size 3 1 v3 l.length ((zs l).map (Value.int .i64)) ∧ IsLeast (pz (zs aq)) l ∧ Below w.heap.size w W3 from
    ⟨⟨ho3.1, by
      rcases ho3.2 with h2 | ⟨gg, cap, cur, e1, e2, e3⟩
      · exact .inl h2
      · exact .inr ⟨gg, cap, cur, e1, Nat.le_trans HB2.out.size e2, e3⟩⟩, hl3, bstep HB2.out hb3⟩)
  obtain ⟨A3, c3, hv3⟩ := own_slice ho3
  subst hv3
  clear ho3 hl3 hb3
  go_wp2_with fail
  go_ret2
  exact ⟨_, l, rfl, HF.out⟩

set_option maxHeartbeats 2000000 in
theorem qcount_run (P : Nat → Prop) (ms : List Mem) (v : Value) (w : World) (hl : ms.length ≤ 10) (h : MemsAt P 2 w v ms) (hok : MemsOk ms.length ms) :
    Calls Try.prog 21 #[.agg #[v]] w fun e w' => e = .returned (.tuple #[.int .i64 ((allQ 2 ms).length : Nat), .int .i64 0]) ∧ Below w.heap.size w w' := by
  obtain ⟨A, c, rfl⟩ := h.slice
  have hb1 : Below w.heap.size w (w.alloc (.cells #[.slice A ms.length c] 27)) := balloc (bref w) _
  have k0 : (w.alloc (.cells #[.slice A ms.length c] 27)).heap[w.heap.size]? = some (.cells #[.slice A ms.length c] 27 (0, 0)) := alloc_at rfl
  have H := Lib.hid (h.below hb1)
  have HB := Lib.hid hb1
  have K0 := Lib.hid k0
  have HQR := Lib.hid (fun W (hm : MemsAt P 2 W (.slice A ms.length c) ms) => qall_run P ms _ W hl hm hok)
  clear h hb1 k0 hok
  generalize allQ 2 ms = aq at *
  go_enter Try.func21, Try.ntmps21
  go_upto_region 1 with fail
  generalize w.alloc (.cells #[.slice A ms.length c] 27) = W1 at *
  have c0 : W1.cell? ⟨w.heap.size, 0, none⟩ = some (.slice A ms.length c) := cell_of_row _ _ 0 _ _ (0, 0) K0.out
  go_wp2_with fail
  refine (HQR.out _ H.out).mono ?_
  rintro e W2 ⟨v2, rfl, ho2, hb2⟩
  have HB2 := Lib.hid (bstep HB.out hb2)
  obtain ⟨A2, c2, hv2⟩ := own_slice ho2
  subst hv2
  clear ho2 hb2 c0
  go_wp2_with fail
  go_ret2
  exact ⟨rfl, HB2.out⟩
end Go.Proofs.Ytoaekbhbbejgmaa
