/- The walk of DangerUniform: n nodes which all trust in k of them. -/
import Derived.Test.YtobdnepmjcbjeaaB3
import Derived.OpenShut
namespace Go.Proofs.Ytobdnepmjcbjeaa
set_option linter.unusedVariables false
set_option linter.unusedSimpArgs false
open Go.RowKit

theorem measS (i N : Nat) (h : i < N) : N - (intOf (Value.int .i64 ((i : Int) + 1))).toNat < N - (intOf (Value.int .i64 (i : Int))).toNat := by simp [intOf]; omega
theorem numS (i : Nat) : Value.int .i64 ((i : Int) + 1) = Value.int .i64 ((i + 1 : Nat) : Int) := rfl
theorem eqB (p k : Nat) : ((p : Int) == (k : Int)) = decide (p = k) := by
  rw [Bool.eq_iff_iff, beq_iff_eq, decide_eq_true_iff]; omega
theorem listCell {P : Nat → Prop} {w : World} {A : Option Addr} {n c j : Nat} {l : List Nat} (h : NodesAt P w (.slice A n c) (zs l)) (hj : j < l.length) : ∃ b off, A = some ⟨b, off, none⟩ ∧ w.cell? ⟨b, off + j, none⟩ = some (.int .i64 (l.getD j 0 : Nat)) ∧ l.getD j 0 ∈ l := by
  obtain ⟨A', c', e1, e2⟩ := h
  cases e1
  obtain ⟨b, off, e3, _, e5⟩ := e2 j (by rw [zs_len]; exact hj)
  rw [zs_get] at e5
  exact ⟨b, off, e3, e5, by rw [List.getD_eq_getElem?_getD, List.getElem?_eq_getElem hj]; exact List.getElem_mem hj⟩

set_option maxRecDepth 100000 in
set_option maxHeartbeats 8000000 in
theorem walkDangerUniform (a0 : Int) (a1 : Int) (w0 : (Lit.int .u8 a0).wf = true) (w1 : (Lit.int .u8 a1).wf = true) (w : World) :
    Calls Try.prog 3 #[.int .u8 a0, .int .u8 a1] w fun e w' => e = .returned (.bool true) ∧ Below w.heap.size w w' := by
  obtain ⟨x0, x1⟩ := bounds_u8 w0
  obtain ⟨y0, y1⟩ := bounds_u8 w1
  clear w0 w1
  obtain ⟨n, hn⟩ : ∃ n : Nat, 1 + a0 % 7 = (n : Int) := ⟨(1 + a0 % 7).toNat, by omega⟩
  have hn1 : 1 ≤ n ∧ n ≤ 7 := by omega
  have m1 := Int.emod_nonneg a1 (show (n : Int) ≠ 0 by omega)
  have m2 := Int.emod_lt_of_pos a1 (show (0 : Int) < (n : Int) by omega)
  obtain ⟨k, hk⟩ : ∃ k : Nat, 1 + a1 % (n : Int) = (k : Int) := ⟨(1 + a1 % (n : Int)).toNat, by omega⟩
  have hk1 : 1 ≤ k ∧ k ≤ n := by omega
  have hkw : wrap64 (1 + a1 % (n : Int)) = (k : Int) := by rw [hk]; unfold wrap64; omega
  clear m1 m2
  have hn0 : ((n : Int) == 0) = false := by rw [beq_eq_false_iff_ne]; omega
  have c1 : IntKind.i64.wrap a0 = a0 := IntWalk.i64_in _ (by omega)
  have c2 : IntKind.i64.wrap a1 = a1 := IntWalk.i64_in _ (by omega)
  have HOK := Lib.hid (uni_ok (n := n) (k := k) (by omega) hk1.1 hk1.2)
  have HLE := Lib.hid (show (uniM n k n).length ≤ 7 by rw [uniM_len]; omega)
  have HSP := Lib.hid (fun P v w h => splitting_run P (uniM n k n) v w HLE.out h HOK.out)
  have HHA := Lib.hid (fun P v w h => halting_run P (uniM n k n) v w (by have := HLE.out; omega) h HOK.out)
  have HTO := Lib.hid (fun P v w h => tolerates_run P (uniM n k n) v w HLE.out h HOK.out)
  have HTU := Lib.hid (fun e h => tol_uni (n := n) (k := k) (e := e) (by omega) hk1.1 hk1.2 h)
  have HLL := Lib.hid (fun l h => split_len (n := n) (k := k) (by omega) hk1.1 hk1.2 (l := l) h)
  have HHL := Lib.hid (fun q l hq h => halt_len (n := n) (k := k) (by omega) hk1.1 hk1.2 (q := q) (l := l) hq h)
  have HLM := Lib.hid (fun l h t => split_mem (n := n) (k := k) (by omega) hk1.1 hk1.2 (l := l) h t)
  have HHM := Lib.hid (fun q l hq h t => halt_mem (n := n) (k := k) (by omega) hk1.1 hk1.2 (q := q) (l := l) hq h t)
  have HSS := Lib.hid (fS_succ n k)
  have HSE := Lib.hid (fS_le n k)
  have HES := Lib.hid (cntE_succ (n - k + 1))
  have HEL := Lib.hid (cntE_le (n - k + 1))
  have HS0 := Lib.hid (show fS n k 0 = 0 by have := fS_le n k 0; omega)
  have HE0 := Lib.hid (show cntE (n - k + 1) 0 = 0 from rfl)
  have HSN := Lib.hid (show ∀ i, ¬ k < n → fS n k i = 0 from fun i h => by unfold fS; rw [if_neg h])
  obtain ⟨m, hm⟩ : ∃ m, 2 * k - n = m := ⟨_, rfl⟩
  obtain ⟨r, hr⟩ : ∃ r, n - k + 1 = r := ⟨_, rfl⟩
  have hri : (n : Int) - (k : Int) + 1 = (r : Int) := by omega
  have hmx : max 0 (2 * (k : Int) - (n : Int)) = (m : Int) := by omega
  have hm7 : m ≤ 7 := by omega
  have hr7 : r ≤ 7 := by omega
  have HMM := Lib.hid hm
  rw [hm] at HTU HLM HSS
  obtain ⟨X, hX⟩ : ∃ X : Int, (if k < n then ((m : Nat) : Int) - 1 else (n : Int)) = X := ⟨_, rfl⟩
  rw [hX] at HTU
  have HX := Lib.hid hX
  clear hX
  rw [hr] at HHL HHM HES HEL HE0
  have hp := pow11 n (by omega)
  have h10 : 2 ^ n ≤ 2 ^ 7 := Nat.pow_le_pow_right (by omega) hn1.2
  have h1p : 1 ≤ 2 ^ n := Nat.one_le_two_pow
  obtain ⟨N, hN⟩ : ∃ N, 2 ^ n = N := ⟨_, rfl⟩
  rw [hN] at hp h10 HLL HHL HLM HHM h1p
  have hnn0 : (0 : Int) ≤ (n : Int) := by omega
  have hnn64 : ¬ (64 : Int) ≤ (n : Int) := by omega
  clear HOK HLE hN hm hr
  generalize cntE r = fE at *
  generalize fS n k = fT at *
  go_enter Try.func3, Try.ntmps3
  go_wp2_with fail
  refine (same16_run n k (by omega) (by omega) _).mono ?_
  rintro e w1 ⟨v1, rfl, hm1, hb1⟩
  obtain ⟨A1, c1', hv1⟩ := hm1.slice
  rw [uniM_len] at hv1
  subst hv1
  have hba := balloc (bref w1) (.cells #[.slice A1 n c1'] 24)
  have HM1 := Lib.hid (hm1.up.below hba)
  have HB1 := Lib.hid (bstep hb1 hba)
  have K0 := Lib.hid (show (w1.alloc (.cells #[.slice A1 n c1'] 24)).cell? ⟨w1.heap.size, 0, none⟩ = some (.slice A1 n c1') from cell_of_row _ _ 0 _ _ (0, 0) (heap_alloc_new _ _))
  clear hm1 hb1 hba
  go_upto_region 4 with fail
  generalize w1.alloc (.cells #[.slice A1 n c1'] 24) = W1 at *
  generalize w1.heap.size = g at *
  have c0 := K0.out
  go_wp2_with fail
  refine (HSP.out _ _ _ HM1.out).mono ?_
  rintro e w2 ⟨v2, l, rfl, ho2, hl2, hb2⟩
  have hll := HLL.out l hl2
  have HLM2 := Lib.hid (HLM.out l hl2)
  have HB2 := Lib.hid (bstep HB1.out hb2)
  have HN2 := Lib.hid (NodesAt.of_ownZ ho2)
  have HM2 := Lib.hid (HM1.out.below hb2)
  have K2 := Lib.hid ((hb2.cell (cell_lt c0)).trans c0)
  obtain ⟨A2, c2', hv2⟩ := own_slice ho2
  subst hv2
  have hlc := HSE.out N
  rw [hll] at ho2 HN2 ⊢
  have HLLL := Lib.hid hll
  clear ho2 hl2 hb2 c0 HB1 HLL HLM HSP K0 HM1 hll
  have c0 := K2.out
  go_wp2_with fail
  refine (HHA.out _ _ _ HM2.out).mono ?_
  rintro e w3 ⟨v3, hs, q, rfl, ho3, hq3, hl3, hb3⟩
  have hhl := HHL.out q hs hq3 hl3
  have HHM2 := Lib.hid (HHM.out q hs hq3 hl3)
  have HB3 := Lib.hid (bstep HB2.out hb3)
  have HN3 := Lib.hid (HN2.out.below hb3)
  have HH3 := Lib.hid (NodesAt.of_ownZ ho3)
  have HM3 := Lib.hid (HM2.out.below hb3)
  have K3 := Lib.hid ((hb3.cell (cell_lt c0)).trans c0)
  obtain ⟨A3, c3', hv3⟩ := own_slice ho3
  subst hv3
  have hhc := HEL.out N
  rw [hhl] at ho3 HH3 ⊢
  have HHLL := Lib.hid hhl
  clear ho3 hl3 hq3 hb3 c0 HB2 HHL HHM HHA K2 HM2 HN2 hhl
  have c0 := K3.out
  go_wp2_with fail
  refine (HTO.out _ _ _ HM3.out).mono ?_
  rintro e w4 ⟨he, hb4⟩
  obtain rfl := HTU.out e he
  have HB4 := Lib.hid (bstep HB3.out hb4)
  have HN4 := Lib.hid (HN3.out.below hb4)
  have HH4 := Lib.hid (HH3.out.below hb4)
  clear hb4 c0 HB3 HN3 HH3 K3 HM3 HTO HTU he
  go_wp2_with fail
  clear hkw c1 c2 hn hk x0 x1 y0 y1 hn0
  go_loop [15, 16, 18] (fun a b t => ∃ i : Nat, i ≤ N ∧ a = .int .i64 (fT i : Nat) ∧ b = .int .i64 (fE i : Nat) ∧ t = .int .i64 i) (fun _ _ t => N - (intOf t).toNat)
  case atStart => exact ⟨0, Nat.zero_le _, by rw [HS0.out]; rfl, by rw [HE0.out]; rfl, rfl⟩
  case round =>
    obtain ⟨i, hi, rfl, rfl, rfl⟩ := hrel
    have hN0 : N ≤ 128 := Nat.le_trans h10 (by decide)
    by_cases hlt : i < N
    · have hi10 : i < 1024 := Nat.lt_of_lt_of_le hlt (Nat.le_trans h10 (by decide))
      have hS := Lib.hid (HSS.out i)
      have hE := Lib.hid (HES.out i)
      have hSl := HSE.out i
      have hEl := HEL.out i
      have HRS := Lib.hid (fun W => rsetSize_run i hi10 W)
      have q1 := eqB (popc i) m
      have q2 := eqB (popc i) r
      have hi1 : i ≤ 100000 := by omega
      generalize decide (popc i = m) = b1 at *
      generalize decide (popc i = r) = b2 at *
      generalize popc i = p at *
      generalize fT i = ce at *
      generalize fE i = cg at *
      by_cases hkn : k < n
      · rw [decide_eq_true hkn] at hS
        have hkni : (k : Int) < (n : Int) := by omega
        rcases (show b1 = false ∨ b1 = true by cases b1 <;> simp) with rfl | rfl <;> rcases (show b2 = false ∨ b2 = true by cases b2 <;> simp) with rfl | rfl
        all_goals
          have HS2 := Lib.hid hS.out
          have HE2 := Lib.hid hE.out
          clear hS hE
          go_wp2_with fail
          refine (HRS.out _).mono ?_
          rintro e w2 ⟨rfl, rfl⟩
          go_wp2_with fail
          refine (HRS.out _).mono ?_
          rintro e w2 ⟨rfl, rfl⟩
          go_wp2_with fail
          go_round
          case rel => exact ⟨i + 1, hlt, by rw [HS2.out]; rfl, by rw [HE2.out]; rfl, numS i⟩
          case measure => exact measS i N hlt
      · rw [decide_eq_false hkn, Bool.and_false] at hS
        have hkni : ¬ (k : Int) < (n : Int) := by omega
        rcases (show b1 = false ∨ b1 = true by cases b1 <;> simp) with rfl | rfl <;> rcases (show b2 = false ∨ b2 = true by cases b2 <;> simp) with rfl | rfl
        all_goals
          have HS2 := Lib.hid hS.out
          have HE2 := Lib.hid hE.out
          clear hS hE
          go_wp2_with fail
          refine (HRS.out _).mono ?_
          rintro e w2 ⟨rfl, rfl⟩
          go_wp2_with fail
          refine (HRS.out _).mono ?_
          rintro e w2 ⟨rfl, rfl⟩
          go_wp2_with fail
          go_round
          case rel => exact ⟨i + 1, hlt, by rw [HS2.out]; rfl, by rw [HE2.out]; rfl, numS i⟩
          case measure => exact measS i N hlt
    · obtain rfl : i = N := Nat.le_antisymm hi (Nat.not_lt.1 hlt)
      have HSNi := Lib.hid (HSN.out i)
      clear HSS HES HSE HEL HS0 HE0 HSN
      generalize fT i = ce at *
      generalize fE i = cg at *
      go_wp2_with fail
      go_loop [101] (fun t => ∃ j : Nat, j ≤ ce ∧ t = .int .i64 j) (fun t => ce - (intOf t).toNat)
      case atStart => exact ⟨0, Nat.zero_le _, rfl⟩
      case round =>
        obtain ⟨j, hj, rfl⟩ := hrel
        by_cases hlt2 : j < ce
        · obtain ⟨b, off, rfl, hcc, hmem⟩ := listCell HN4.out (show j < l.length by rw [HLLL.out]; exact hlt2)
          obtain ⟨hxN, _, hxk⟩ := (HLM2.out _).1 hmem
          generalize l.getD j 0 = x at *
          have hx10 : x < 1024 := Nat.lt_of_lt_of_le hxN (Nat.le_trans hN0 (by decide))
          have HRS := Lib.hid (fun W => rsetSize_run x hx10 W)
          rw [hxk] at HRS
          clear hxk hmem
          go_wp2_with fail
          refine (HRS.out _).mono ?_
          rintro e w2 ⟨rfl, rfl⟩
          go_wp2_with fail
          go_round
          case rel => exact ⟨j + 1, hlt2, numS j⟩
          case measure => exact measS j ce hlt2
        · obtain rfl : j = ce := Nat.le_antisymm hj (Nat.not_lt.1 hlt2)
          go_wp2_with fail
          go_loop [112] (fun t => ∃ y : Nat, y ≤ cg ∧ t = .int .i64 y) (fun t => cg - (intOf t).toNat)
          case atStart => exact ⟨0, Nat.zero_le _, rfl⟩
          case round =>
            obtain ⟨y, hy, rfl⟩ := hrel
            by_cases hlt3 : y < cg
            · obtain ⟨b, off, rfl, hcc, hmem⟩ := listCell HH4.out (show y < hs.length by rw [HHLL.out]; exact hlt3)
              obtain ⟨hxN, hxk⟩ := (HHM2.out _).1 hmem
              generalize hs.getD y 0 = x at *
              have hx10 : x < 1024 := Nat.lt_of_lt_of_le hxN (Nat.le_trans hN0 (by decide))
              have HRS := Lib.hid (fun W => rsetSize_run x hx10 W)
              rw [hxk] at HRS
              clear hxk hmem
              go_wp2_with fail
              refine (HRS.out _).mono ?_
              rintro e w2 ⟨rfl, rfl⟩
              go_wp2_with fail
              go_round
              case rel => exact ⟨y + 1, hlt3, numS y⟩
              case measure => exact measS y cg hlt3
            · obtain rfl : y = cg := Nat.le_antisymm hy (Nat.not_lt.1 hlt3)
              by_cases hkn : k < n
              · have q1 : ((k : Int) == (n : Int)) = false := by rw [beq_eq_false_iff_ne]; omega
                have HXX := HX.out
                rw [if_pos hkn] at HXX
                subst HXX
                go_wp2_with fail
                refine (awake16 _).mono ?_
                rintro e wz ⟨rfl, hbz⟩
                have HZ := Lib.hid (bstep HB4.out hbz)
                clear hbz
                go_wp2_with fail
                go_ret
                exact ⟨rfl, HZ.out⟩
              · have q1 : ((k : Int) == (n : Int)) = true := by rw [beq_iff_eq]; omega
                have HXX := HX.out
                rw [if_neg hkn] at HXX
                subst HXX
                obtain rfl : j = 0 := HSNi.out hkn
                go_wp2_with fail
                refine (awake16 _).mono ?_
                rintro e wz ⟨rfl, hbz⟩
                have HZ := Lib.hid (bstep HB4.out hbz)
                clear hbz
                go_wp2_with fail
                go_ret
                exact ⟨rfl, HZ.out⟩
end Go.Proofs.Ytobdnepmjcbjeaa
