/- The walk of QuorumsUniform: n nodes which all trust in k of them have as their minimal quorums the sets of k nodes. -/
import Derived.Test.YtbbdmaakphoofaaAwake10
import Derived.Test.YtbbdmaakphoofaaRSize
import Derived.OpenShut
namespace Go.Proofs.Ytbbdmaakphoofaa
set_option linter.unusedVariables false
set_option linter.unusedSimpArgs false
open Go.RowKit

def cntE (k i : Nat) : Nat := (List.range i).countP (fun s => decide (popc s = k))
def cntG (k i : Nat) : Nat := (List.range i).countP (fun s => decide (k ≤ popc s))
theorem cntE_succ (k i : Nat) : cntE k (i + 1) = if popc i = k then cntE k i + 1 else cntE k i := by
  unfold cntE
  rw [List.range_succ, List.countP_append, List.countP_singleton]
  by_cases h : popc i = k <;> simp [h]
theorem cntG_succ (k i : Nat) : cntG k (i + 1) = if k ≤ popc i then cntG k i + 1 else cntG k i := by
  unfold cntG
  rw [List.range_succ, List.countP_append, List.countP_singleton]
  by_cases h : k ≤ popc i <;> simp [h]
theorem cntE_le (k i : Nat) : cntE k i ≤ i := by unfold cntE; exact Nat.le_trans List.countP_le_length (by simp)
theorem cntG_le (k i : Nat) : cntG k i ≤ i := by unfold cntG; exact Nat.le_trans List.countP_le_length (by simp)

theorem wrapS (c : Nat) (h : c ≤ 100000) : wrap64 ((c : Int) + 1) = ((c + 1 : Nat) : Int) := by unfold wrap64; omega
theorem measS (i N : Nat) (h : i < N) : N - (intOf (Value.int .i64 ((i : Int) + 1))).toNat < N - (intOf (Value.int .i64 (i : Int))).toNat := by simp [intOf]; omega
theorem numS (i : Nat) : Value.int .i64 ((i : Int) + 1) = Value.int .i64 ((i + 1 : Nat) : Int) := rfl
theorem beqN (p k : Nat) (h : p ≠ k) : ((p : Int) == (k : Int)) = false := by rw [beq_eq_false_iff_ne]; omega
theorem leN (p k : Nat) (h : p < k) : ¬ (k : Int) ≤ (p : Int) := by omega
theorem leP (p k : Nat) (h : k ≤ p) : (k : Int) ≤ (p : Int) := by omega

set_option maxRecDepth 100000 in
set_option maxHeartbeats 4000000 in
theorem walkQuorumsUniform (a0 : Int) (a1 : Int) (w0 : (Lit.int .u8 a0).wf = true) (w1 : (Lit.int .u8 a1).wf = true) (w : World) :
    Calls Try.prog 9 #[.int .u8 a0, .int .u8 a1] w fun e w' => e = .returned (.bool true) ∧ Below w.heap.size w w' := by
  obtain ⟨x0, x1⟩ := bounds_u8 w0
  obtain ⟨y0, y1⟩ := bounds_u8 w1
  clear w0 w1
  obtain ⟨n, hn⟩ : ∃ n : Nat, 1 + a0 % 8 = (n : Int) := ⟨(1 + a0 % 8).toNat, by omega⟩
  have hn1 : 1 ≤ n ∧ n ≤ 8 := by omega
  have m1 := Int.emod_nonneg a1 (show (n : Int) ≠ 0 by omega)
  have m2 := Int.emod_lt_of_pos a1 (show (0 : Int) < (n : Int) by omega)
  obtain ⟨k, hk⟩ : ∃ k : Nat, 1 + a1 % (n : Int) = (k : Int) := ⟨(1 + a1 % (n : Int)).toNat, by omega⟩
  have hk1 : 1 ≤ k ∧ k ≤ n := by omega
  have hkw : wrap64 (1 + a1 % (n : Int)) = (k : Int) := by rw [hk]; unfold wrap64; omega
  clear m1 m2
  have hn0 : ((n : Int) == 0) = false := by rw [beq_eq_false_iff_ne]; omega
  have c1 : IntKind.i64.wrap a0 = a0 := IntWalk.i64_in _ (by omega)
  have c2 : IntKind.i64.wrap a1 = a1 := IntWalk.i64_in _ (by omega)
  have HOK := Lib.hid (uni_ok (n := n) (k := k) (by omega) hk1.1 hk1.2)
  have HLE := Lib.hid (show (uniM n k n).length ≤ 10 by rw [uniM_len]; omega)
  have HMI := Lib.hid (fun P v w h => qmin_run P (uniM n k n) v w HLE.out h HOK.out)
  have HCO := Lib.hid (fun P v w h => qcount_run P (uniM n k n) v w HLE.out h HOK.out)
  have HPA := Lib.hid (fun P v w h => parts_run P (uniM n k n) v w HLE.out h HOK.out)
  have HSY := Lib.hid (fun P v w h => symm_run P (uniM n k n) (uniT n k) v w HLE.out h HOK.out (fun m hm => by
    unfold uniM at hm
    rw [List.eq_of_mem_replicate hm]))
  rw [allQ_uni n k (by omega) hk1.1] at HMI HCO
  rw [parts_uni n k (by omega) hn1.1] at HPA
  have hql : (uniQ n k).length = cntG k (2 ^ n) := uniQ_len n k
  rw [hql] at HCO
  have HLL := Lib.hid (fun l h => show l.length = cntE k (2 ^ n) from least_uni_len (n := n) (k := k) (by omega) (l := l) h)
  have HLM := Lib.hid (fun l h t => least_uni (n := n) (k := k) (by omega) (l := l) h t)
  have hp := pow11 n (by omega)
  have h10 : 2 ^ n ≤ 2 ^ 8 := Nat.pow_le_pow_right (by omega) hn1.2
  have h1p : 1 ≤ 2 ^ n := Nat.one_le_two_pow
  have hm1 : wrap64 ((2 ^ n : Nat) - 1 : Int) = ((2 ^ n - 1 : Nat) : Int) := by unfold wrap64; omega
  obtain ⟨N, hN⟩ : ∃ N, 2 ^ n = N := ⟨_, rfl⟩
  rw [hN] at hp h10 HPA HCO HLL HLM h1p hm1
  have hnn0 : (0 : Int) ≤ (n : Int) := by omega
  have hnn64 : ¬ (64 : Int) ≤ (n : Int) := by omega
  have HES := Lib.hid (cntE_succ k)
  have HGS := Lib.hid (cntG_succ k)
  have HEL := Lib.hid (cntE_le k)
  have HGL := Lib.hid (cntG_le k)
  have HE0 := Lib.hid (show cntE k 0 = 0 from rfl)
  have HG0 := Lib.hid (show cntG k 0 = 0 from rfl)
  clear HOK HLE hql hN
  generalize cntE k = fE at *
  generalize cntG k = fG at *
  go_enter Try.func9, Try.ntmps9
  go_wp2_with fail
  refine (same10_run n k (by omega) (by omega) _).mono ?_
  rintro e w1 ⟨v1, rfl, hm1, hb1⟩
  have HB1 := Lib.hid hb1
  clear hb1
  go_wp2_with fail
  refine (HMI.out _ _ _ hm1.up).mono ?_
  rintro e w2 ⟨v2, l, rfl, ho2, hl2, hb2⟩
  have hll := HLL.out l hl2
  have HLM2 := Lib.hid (HLM.out l hl2)
  have HB2 := Lib.hid (bstep HB1.out hb2)
  have HN2 := Lib.hid (NodesAt.of_ownZ ho2)
  obtain ⟨A2, c2', hv2⟩ := own_slice ho2
  subst hv2
  have hlc := HEL.out N
  rw [hll] at ho2 ⊢
  clear ho2 hl2 hb2 hm1 HB1 HLL HLM HMI
  go_wp2_with fail
  refine (same10_run n k (by omega) (by omega) _).mono ?_
  rintro e w3 ⟨v3, rfl, hm3, hb3⟩
  have HB3 := Lib.hid (bstep HB2.out hb3)
  have HN3 := Lib.hid (HN2.out.below hb3)
  clear hb3 HB2 HN2
  go_wp2_with fail
  refine (HCO.out _ _ _ hm3.up).mono ?_
  rintro e w4 ⟨rfl, hb4⟩
  have HB4 := Lib.hid (bstep HB3.out hb4)
  have HN4 := Lib.hid (HN3.out.below hb4)
  clear hb4 hm3 HB3 HN3 HCO
  go_wp2_with fail
  refine (same10_run n k (by omega) (by omega) _).mono ?_
  rintro e w5 ⟨v5, rfl, hm5, hb5⟩
  have HB5 := Lib.hid (bstep HB4.out hb5)
  have HN5 := Lib.hid (HN4.out.below hb5)
  clear hb5 HB4 HN4
  go_wp2_with fail
  refine (HPA.out _ _ _ hm5.up).mono ?_
  rintro e w6 ⟨v6, rfl, ho6, hb6⟩
  have HB6 := Lib.hid (bstep HB5.out hb6)
  have HN6 := Lib.hid (HN5.out.below hb6)
  have HP6 := Lib.hid (NodesAt.of_ownZ ho6)
  obtain ⟨A6, c6, hv6⟩ := own_slice ho6
  subst hv6
  clear ho6 hb6 hm5 HB5 HN5 HPA
  go_wp2_with fail
  refine (same10_run n k (by omega) (by omega) _).mono ?_
  rintro e w7 ⟨v7, rfl, hm7, hb7⟩
  have HB7 := Lib.hid (bstep HB6.out hb7)
  have HN7 := Lib.hid (HN6.out.below hb7)
  have HP7 := Lib.hid (HP6.out.below hb7)
  clear hb7 HB6 HN6 HP6
  go_wp2_with fail
  refine (HSY.out _ _ _ hm7.up).mono ?_
  rintro e w8 ⟨rfl, hb8⟩
  have HB8 := Lib.hid (bstep HB7.out hb8)
  have HN8 := Lib.hid (HN7.out.below hb8)
  have HP8 := Lib.hid (HP7.out.below hb8)
  clear hb8 hm7 HB7 HN7 HP7 HSY
  go_wp2_with fail
  clear hkw c1 c2 hn hk x0 x1 y0 y1 hn0
  go_loop [15, 16, 17] (fun a b t => ∃ i : Nat, i ≤ N ∧ a = .int .i64 (fE i : Nat) ∧ b = .int .i64 (fG i : Nat) ∧ t = .int .i64 i) (fun _ _ t => N - (intOf t).toNat)
  case atStart => exact ⟨0, Nat.zero_le _, by rw [HE0.out]; rfl, by rw [HG0.out]; rfl, rfl⟩
  case round =>
    obtain ⟨i, hi, rfl, rfl, rfl⟩ := hrel
    by_cases hlt : i < N
    · have hi10 : i < 1024 := Nat.lt_of_lt_of_le hlt (Nat.le_trans h10 (by decide))
      have hE := Lib.hid (HES.out i)
      have hG := Lib.hid (HGS.out i)
      have hEl := HEL.out i
      have hGl := HGL.out i
      have HRS := Lib.hid (fun W => rsetSize_run i hi10 W)
      have hpl := popc_le i
      generalize popc i = p at *
      generalize fE i = ce at *
      generalize fG i = cg at *
      have hN0 : N ≤ 256 := Nat.le_trans h10 (by decide)
      have hN1 : i ≤ 100000 := Nat.le_trans hi (Nat.le_trans hN0 (by decide))
      rcases Nat.lt_trichotomy p k with hpk | hpk | hpk
      · have HE2 := Lib.hid (show fE (i + 1) = ce by rw [hE.out, if_neg (Nat.ne_of_lt hpk)])
        have HG2 := Lib.hid (show fG (i + 1) = cg by rw [hG.out, if_neg (Nat.not_le.2 hpk)])
        have q1 := beqN p k (Nat.ne_of_lt hpk)
        have q2 := leN p k hpk
        clear hE hG
        go_wp2_with fail
        refine (HRS.out _).mono ?_
        rintro e w2 ⟨rfl, rfl⟩
        go_wp2_with fail
        refine (HRS.out _).mono ?_
        rintro e w2 ⟨rfl, rfl⟩
        go_wp2_with fail
        go_round
        case rel => exact ⟨i + 1, hlt, by rw [HE2.out], by rw [HG2.out], numS i⟩
        case measure => exact measS i N hlt
      · subst hpk
        have HE2 := Lib.hid (show fE (i + 1) = ce + 1 by rw [hE.out, if_pos rfl])
        have HG2 := Lib.hid (show fG (i + 1) = cg + 1 by rw [hG.out, if_pos (Nat.le_refl _)])
        clear hE hG
        go_wp2_with fail
        refine (HRS.out _).mono ?_
        rintro e w2 ⟨rfl, rfl⟩
        go_wp2_with fail
        refine (HRS.out _).mono ?_
        rintro e w2 ⟨rfl, rfl⟩
        go_wp2_with fail
        go_round
        case rel => exact ⟨i + 1, hlt, by rw [HE2.out]; rfl, by rw [HG2.out]; rfl, numS i⟩
        case measure => exact measS i N hlt
      · have HE2 := Lib.hid (show fE (i + 1) = ce by rw [hE.out, if_neg (Nat.ne_of_gt hpk)])
        have HG2 := Lib.hid (show fG (i + 1) = cg + 1 by rw [hG.out, if_pos (Nat.le_of_lt hpk)])
        have q1 := beqN p k (Nat.ne_of_gt hpk)
        have q2 := leP p k (Nat.le_of_lt hpk)
        clear hE hG
        go_wp2_with fail
        refine (HRS.out _).mono ?_
        rintro e w2 ⟨rfl, rfl⟩
        go_wp2_with fail
        refine (HRS.out _).mono ?_
        rintro e w2 ⟨rfl, rfl⟩
        go_wp2_with fail
        go_round
        case rel => exact ⟨i + 1, hlt, by rw [HE2.out], by rw [HG2.out]; rfl, numS i⟩
        case measure => exact measS i N hlt
    · obtain rfl : i = N := Nat.le_antisymm hi (Nat.not_lt.1 hlt)
      have hN0 : i ≤ 256 := Nat.le_trans h10 (by decide)
      clear HES HGS HEL HGL HE0 HG0
      generalize fE i = ce at *
      generalize fG i = cg at *
      go_wp2_with fail
      go_loop [77] (fun t => ∃ j : Nat, j ≤ ce ∧ t = .int .i64 j) (fun t => ce - (intOf t).toNat)
      case atStart => exact ⟨0, Nat.zero_le _, rfl⟩
      case round =>
        obtain ⟨j, hj, rfl⟩ := hrel
        by_cases hlt2 : j < ce
        · obtain ⟨A', c', hv', hN3⟩ := HN8.out
          rw [zs_len] at hv' hN3
          rw [hll] at hv'
          cases hv'
          have hjl : j < l.length := by rw [hll]; exact hlt2
          obtain ⟨b, off, rfl, hPb, hcc⟩ := hN3 j hjl
          have hx0 : l[j]? = some (l.getD j 0) := by rw [List.getD_eq_getElem?_getD, List.getElem?_eq_getElem hjl]; rfl
          obtain ⟨hxN, hxk⟩ := (HLM2.out _).1 (List.mem_of_getElem? hx0)
          rw [zs_get] at hcc
          clear hx0 hN3 hPb
          generalize l.getD j 0 = x at *
          have hx10 : x < 1024 := Nat.lt_of_lt_of_le hxN (Nat.le_trans hN0 (by decide))
          have HRS := Lib.hid (fun W => rsetSize_run x hx10 W)
          rw [hxk] at HRS
          have q2 := leN x i hxN
          clear hxk
          go_wp2_with fail
          refine (HRS.out _).mono ?_
          rintro e w2 ⟨rfl, rfl⟩
          go_wp2_with fail
          go_round
          case rel => exact ⟨j + 1, hlt2, numS j⟩
          case measure => exact measS j ce hlt2
        · obtain rfl : j = ce := Nat.le_antisymm hj (Nat.not_lt.1 hlt2)
          go_wp2_with fail
          rw [show ((i : Int) - 1) = ((i - 1 : Nat) : Int) from (Int.natCast_sub h1p).symm]
          have hb9 := balloc (bref w8) (.cells #[.int .i64 ((i - 1 : Nat) : Int)] 3)
          have HB9 := Lib.hid (bstep HB8.out hb9)
          refine (ints_run _ _ _ _ (zs [i - 1]) _ (by simp [zs]) (HP8.out.below hb9) (nodes_new w8 (zs [i - 1]))).mono ?_
          rintro e w9 ⟨rfl, hb10⟩
          have HB10 := Lib.hid (bstep HB9.out hb10)
          clear hb9 hb10 HB9 HB8 HP8 HN8
          go_wp2_with fail
          refine (awake10 _).mono ?_
          rintro e wz ⟨rfl, hbz⟩
          have HZ := Lib.hid (bstep HB10.out hbz)
          clear hbz HB10
          go_wp2_with fail
          go_ret
          exact ⟨rfl, HZ.out⟩
end Go.Proofs.Ytbbdmaakphoofaa
