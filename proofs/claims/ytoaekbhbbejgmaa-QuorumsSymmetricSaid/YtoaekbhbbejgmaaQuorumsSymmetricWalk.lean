/- The walk of QuorumsSymmetric: in a symmetric configuration the quorums are the sets that satisfy the trust of all. -/
import Derived.Test.YtoaekbhbbejgmaaRepM
import Derived.Test.YtoaekbhbbejgmaaAwake10
import Derived.Test.YtoaekbhbbejgmaaRefSat
namespace Go.Proofs.Ytoaekbhbbejgmaa
set_option linter.unusedVariables false
set_option linter.unusedSimpArgs false
open Go.RowKit

def cntS (d : Nat) (T : Tree) (i : Nat) : Nat := (List.range i).countP (fun s : Nat => satB d T (s : Int))
theorem cntS_succ (d : Nat) (T : Tree) (i : Nat) : cntS d T (i + 1) = if satB d T (i : Int) then cntS d T i + 1 else cntS d T i := by
  unfold cntS
  rw [List.range_succ, List.countP_append, List.countP_singleton]
  by_cases h : satB d T (i : Int) = true <;> simp [h]
theorem cntS_le (d : Nat) (T : Tree) (i : Nat) : cntS d T i ≤ i := by unfold cntS; exact Nat.le_trans List.countP_le_length (by simp)
theorem measY (i N : Nat) (h : i < N) : N - (intOf (Value.int .i64 ((i : Int) + 1))).toNat < N - (intOf (Value.int .i64 (i : Int))).toNat := by simp [intOf]; omega
theorem numY (i : Nat) : Value.int .i64 ((i : Int) + 1) = Value.int .i64 ((i + 1 : Nat) : Int) := rfl

set_option maxRecDepth 100000 in
set_option maxHeartbeats 4000000 in
theorem walkQuorumsSymmetric (a0 : Option Addr) (len0 cap0 : Nat) (z0 : List Int) (w : World) (w0 : IsRow .i64 w a0 len0 cap0 z0) :
    Calls Try.prog 5 #[.slice a0 len0 cap0] w fun e w' => e = .returned (.bool true) ∧ Below w.heap.size w w' := by
  obtain ⟨i4, hi4, hy0, hy1, hy2⟩ := info_parts infoMember
  have HR := Lib.hid w0
  clear w0
  go_enter Try.func5, Try.ntmps5
  go_wp2_with fail
  refine (TNew_run _ _ _ _ _ HR.out).mono ?_
  rintro e v0 ⟨rfl, hs0, hb0⟩
  have HS0 := Lib.hid hs0
  have HB0 := Lib.hid hb0
  clear hs0 hb0
  go_wp2_with fail
  refine (TRange_run _ _ _ _ (by omega) (by omega) (by omega) HS0.out).mono ?_
  rintro e v1 ⟨r, hr0, hr1, rfl, hs1, hg1⟩
  obtain ⟨n, rfl⟩ := Int.eq_ofNat_of_zero_le (show 0 ≤ r by omega)
  have HS1 := Lib.hid hs1
  have HB1 := Lib.hid (bgrownC HB0.out hg1 (Nat.le_refl _))
  clear hs1 hg1 HS0 HB0
  have hn1 : 1 ≤ n ∧ n ≤ 7 := by omega
  clear hr0 hr1
  go_wp2_with fail
  refine (mkTrust_run _ n (by omega) (by omega) 2 (by omega) _ HS1.out).mono ?_
  rintro e v2 ⟨x0, x1, x2, T, rfl, hT, hF, hs2, hg2⟩
  obtain ⟨t', A1, n1, c1, A2, n2, c2, rfl, rfl, rfl⟩ := hT.form
  have HB2 := Lib.hid (bgrownC HB1.out hg2 (Nat.le_refl _))
  have HF := Lib.hid hF
  have hTq := hT.imp (Q := fun b => b < v2.heap.size) (fun k hk _ => hk)
  have hb4 := balloc (balloc (bref v2) (.cells #[.int .i64 t', .slice A1 n1 c1, .slice A2 n2 c2] 41)) (.cells #[.slice none 0 0] 27)
  have HT4 := Lib.hid (hTq.below hb4)
  have HBC := Lib.hid hb4
  have k1 : OutAt ((v2.alloc (.cells #[.int .i64 t', .slice A1 n1 c1, .slice A2 n2 c2] 41)).alloc (.cells #[.slice none 0 0] 27)) v2.heap.size t' (.slice A1 n1 c1) (.slice A2 n2 c2) := alloc_on (alloc_at rfl)
  have k2 : ((v2.alloc (.cells #[.int .i64 t', .slice A1 n1 c1, .slice A2 n2 c2] 41)).alloc (.cells #[.slice none 0 0] 27)).heap[v2.heap.size + 1]? = some (.cells #[.slice none 0 0] 27 (0, 0)) := alloc_at (alloc_sz _ _)
  have hsz : ((v2.alloc (.cells #[.int .i64 t', .slice A1 n1 c1, .slice A2 n2 c2] 41)).alloc (.cells #[.slice none 0 0] 27)).heap.size = v2.heap.size + 2 := by rw [alloc_sz, alloc_sz]
  have K1 := Lib.hid k1
  have K2 := Lib.hid k2
  have HSZ := Lib.hid hsz
  have hp := pow11 n (by omega)
  have h10 : 2 ^ n ≤ 2 ^ 7 := Nat.pow_le_pow_right (by omega) hn1.2
  have HAQ := Lib.hid (show (allQ 3 (repM T n)).length = cntS 3 T (2 ^ n) by rw [allQ_rep hF.1 n (by omega)]; unfold cntS; rw [List.countP_eq_length_filter])
  obtain ⟨N, hN⟩ : ∃ N, 2 ^ n = N := ⟨_, rfl⟩
  rw [hN] at hp h10 HAQ
  have hn0 : (0 : Int) ≤ (n : Int) := by omega
  have hn64 : ¬ (64 : Int) ≤ (n : Int) := by omega
  clear hT hF hs2 hg2 HS1 HB1 hTq hb4 k1 k2 hsz hN HR
  go_upto_region 5 with fail
  generalize (v2.alloc (.cells #[.int .i64 t', .slice A1 n1 c1, .slice A2 n2 c2] 41)).alloc (.cells #[.slice none 0 0] 27) = Wc at *
  generalize hg : v2.heap.size = g at *
  have HG := Lib.hid hg
  clear hg
  have hsz := HSZ.out
  go_wp2_with fail
  go_loopw [7] (fun t W => ∃ (i : Nat) (v : Value), i ≤ n ∧ t = .int .i64 i ∧ Hid (RowP (fun b => b < g) (g + 2) 3 W v (repM T i)) ∧ Hid (W.heap[g + 1]? = some (.cells #[v] 27 (0, 0))) ∧ Hid (Wc.grownBy W (some (g + 1)))) (fun t _ => n - (intOf t).toNat)
  case atStart => exact ⟨0, .slice none 0 0, by omega, rfl, Lib.hid ⟨[], World.ownsRow_nil _ _ _ _, fun k T h => by simp [repM] at h⟩, K2, Lib.hid (World.grownBy.refl _ _)⟩
  case round =>
    obtain ⟨i, v, hi, rfl, hRow, hOut, hGw⟩ := hrel
    have hwr2 := hGw.out.size
    by_cases hlt2 : i < n
    · have HRS := Lib.hid (repM_succ T i)
      have HRL := Lib.hid (repM_len T i)
      obtain ⟨cs, hcs, hcl⟩ := hRow.out
      have hcn := hcs.1
      have HCL := Lib.hid hcl
      have HCS := Lib.hid hcs
      have HRO := Lib.hid hcs.lt
      obtain ⟨wo, hwo⟩ : ∃ x, x = wr := ⟨_, rfl⟩
      subst hwo
      have hOx := K1.out.keep (hGw.out.block g K1.out.lt (by simp))
      obtain ⟨x0, x1, x2⟩ := hOx.cs
      have HTo := Lib.hid (TAt.keep (w' := wo) (fun q hq hP => hGw.out.block q hq (by simp; omega)) HT4.out)
      have HCSA := Lib.hid (HCS.out.alloc (.cells #[.bool true, .int .i64 t', .slice A1 n1 c1, .slice A2 n2 c2] 44))
      have hba2 := balloc (bref wo) (.cells #[.bool true, .int .i64 t', .slice A1 n1 c1, .slice A2 n2 c2] 44)
      have HBA2 := Lib.hid hba2
      have HSZA := Lib.hid (alloc_sz wo (.cells #[.bool true, .int .i64 t', .slice A1 n1 c1, .slice A2 n2 c2] 44))
      have hcl3 : g + 1 < wo.heap.size := by omega
      have q2 : wo.cell? ⟨g + 1, 0, none⟩ = some v := cell_of_row _ _ 0 _ _ (0, 0) hOut.out
      clear hba2 hcl hcs hOx
      go_wp2_with (at_builtin; refine wpList_append_lies _ rfl _ _ 25 rfl (g + 2) 44 i4 (.agg #[.bool false, .int .i64 0, .slice none 0 0, .slice none 0 0]) 4 64 Try.underlying25 hi4 hy0 hy1 hy2 rfl (by decide) _ (repM T i).length cs rfl (by exact HCSA.out) ⟨_, 0, none⟩ 1 1 [.bool true, .int .i64 t', .slice A1 n1 c1, .slice A2 n2 c2] rfl rfl (cell_four_new _ _ _ _ _ _) (by intro u hu; simp at hu; rcases hu with rfl | rfl | rfl | rfl <;> rfl) (by omega) (by have := HRL.out; unfold maxLen; omega) (by have := HRL.out; omega) (by have := HSZA.out; omega) _ rfl ?_; intro g4 cap4 W5 hown4 hgrow4 hat4 hlt4; have hcb5 : W5.heap[g + 1]? = some (.cells #[v] 27 (0, 0)) := (hgrow4.block (g + 1) (by have := HSZA.out; omega) (fun e => by have := (HRO.out _ e.symm).1; omega)).trans ((HBA2.out.block (g + 1) hcl3).trans hOut.out); have s0 : W5.cell? ⟨g + 1, 0, none⟩ = some v := cell_of_row _ _ 0 _ _ (0, 0) hcb5; have sf : W5.frozen? ⟨g + 1, 0, none⟩ = false := by simp [World.frozen?, hcb5])
      have hlow5 : ∀ q, q < g + 2 → q ≠ g + 1 → (W5.setCell ⟨g + 1, 0, none⟩ (.slice (some ⟨g4, 0, none⟩) ((repM T i).length + 1) cap4)).heap[q]? = wo.heap[q]? := fun q hq hn =>
        (Below.heap_setCell _ _ _ _ (by simpa using hn)).trans ((hgrow4.block q (by have := HSZA.out; omega) (fun e => by have := (HRO.out _ e.symm).1; omega)).trans (HBA2.out.block q (by omega)))
      have hown5 := hown4.kept (gset1 W5 ⟨g + 1, 0, none⟩ (.slice (some ⟨g4, 0, none⟩) ((repM T i).length + 1) cap4)) (.inr (by have h1 := (hown4.lt g4 rfl).1; simp [Value.ownBlock]; omega))
      have hrow5 := RowP.app (m := (true, T)) HCL.out hcn (fun q hq _ => hlow5 q (by omega) (by omega)) HTo.out hown5
      have hset5 : (W5.setCell ⟨g + 1, 0, none⟩ (.slice (some ⟨g4, 0, none⟩) ((repM T i).length + 1) cap4)).heap[g + 1]? = some (.cells #[.slice (some ⟨g4, 0, none⟩) ((repM T i).length + 1) cap4] 27 (0, 0)) := by
        simp [World.setCell, Array.getElem?_modify, hcb5]
      have hgr5 : Wc.grownBy (W5.setCell ⟨g + 1, 0, none⟩ (.slice (some ⟨g4, 0, none⟩) ((repM T i).length + 1) cap4)) (some (g + 1)) :=
        grown_at (gown (grown_trans hGw.out (grown_below HBA2.out)) ⟨hgrow4.os, hgrow4.tape, hgrow4.output, hgrow4.size, hgrow4.block⟩ (fun q hq => by have := (HRO.out q hq).1; omega)) 0 _
      rw [← HRS.out] at hrow5
      have HROW := Lib.hid hrow5
      have HSET := Lib.hid hset5
      have HGR := Lib.hid hgr5
      clear hlow5 hown5 hrow5 hset5 hgr5 hown4 hgrow4 hat4 hlt4 hcb5 s0 sf x0 x1 x2
      go_roundw
      case rel => exact ⟨i + 1, _, hlt2, numY i, HROW, HSET, HGR⟩
      case measure => exact measY i n hlt2
    · obtain rfl : i = n := by omega
      obtain ⟨Aw, cw, hv⟩ : ∃ A c, v = .slice A (repM T i).length c := by
        obtain ⟨A, c, h1⟩ := hRow.out.mems.slice
        exact ⟨A, c, h1⟩
      have hm := hRow.out.mems
      have HM := Lib.hid hm
      have q2 : wr.cell? ⟨g + 1, 0, none⟩ = some v := cell_of_row _ _ 0 _ _ (0, 0) hOut.out
      have HO := Lib.hid (K1.out.keep (hGw.out.block g K1.out.lt (by simp)))
      have HTo := Lib.hid (TAt.keep (w' := wr) (fun q hq hP => hGw.out.block q hq (by simp; omega)) HT4.out)
      have HOK := Lib.hid (show MemsOkD 3 (repM T i).length (repM T i) from fun x hx => by
        unfold repM at hx
        rw [List.eq_of_mem_replicate hx, repM_len]
        exact ⟨fun _ => ⟨HF.out.1, HF.out.2⟩, fun h => by cases h⟩)
      have HLE := Lib.hid (show (repM T i).length ≤ 10 by rw [repM_len]; omega)
      have HTM := Lib.hid (show ∀ m ∈ repM T i, m.2 = T from fun m hm => by
        unfold repM at hm
        rw [List.eq_of_mem_replicate hm])
      have HBw := Lib.hid (show Below w.heap.size w wr from by
        have h1 := HBC.out
        rw [← HG.out] at h1
        have h2 := bstep HB2.out h1
        exact h2.grown hGw.out h2.size (fun q hq => by obtain rfl := Option.some.inj hq; have := HB2.out.size; have := HG.out; omega))
      subst hv
      clear hm hRow hOut hGw K1 K2 HT4 HSZ HB2 HBC hwr2 hsz
      go_wp2_with fail
      refine (symm_runD 2 (by omega) _ (repM T i) T _ _ HLE.out HM.out HOK.out HTM.out).mono ?_
      rintro e W6 ⟨rfl, hb6⟩
      have q6 := (hb6.cell (cell_lt q2)).trans q2
      have HM6 := Lib.hid (HM.out.below hb6)
      have HO6 := Lib.hid (HO.out.keep (hb6.block _ HO.out.lt))
      have HT6 := Lib.hid (HTo.out.below hb6)
      have HB6 := Lib.hid (bstep HBw.out hb6)
      clear hb6 q2 HM HO HTo HBw
      go_wp2_with fail
      refine (qcount_runD 2 (by omega) _ (repM T i) _ _ HLE.out HM6.out HOK.out).mono ?_
      rintro e W7 ⟨rfl, hb7⟩
      have HO7 := Lib.hid (HO6.out.keep (hb7.block _ HO6.out.lt))
      have HT7 := Lib.hid (HT6.out.below hb7)
      have HB7 := Lib.hid (bstep HB6.out hb7)
      rw [HAQ.out]
      clear hb7 q6 HM6 HO6 HT6 HB6 HOK HTM HLE HF HAQ
      have HSS := Lib.hid (cntS_succ 3 T)
      have HSL := Lib.hid (cntS_le 3 T)
      have HS0 := Lib.hid (show cntS 3 T 0 = 0 from rfl)
      generalize cntS 3 T = fS at *
      have hN0 : N ≤ 128 := Nat.le_trans h10 (by decide)
      go_wp2_with fail
      go_loopw [12, 13] (fun a t W => ∃ j : Nat, j ≤ N ∧ a = .int .i64 (fS j : Nat) ∧ t = .int .i64 j ∧ Hid (Below W7.heap.size W7 W)) (fun _ t _ => N - (intOf t).toNat)
      case atStart => exact ⟨0, Nat.zero_le _, by rw [HS0.out]; rfl, rfl, Lib.hid (bref _)⟩
      case round =>
        obtain ⟨j, hj, rfl, rfl, hB⟩ := hrel
        by_cases hltj : j < N
        · have hE := HSS.out j
          have hEl := HSL.out j
          have hO8 := HO7.out.keep (hB.out.block _ HO7.out.lt)
          obtain ⟨x0, x1, x2⟩ := hO8.cs
          have HT8 := Lib.hid (HT7.out.below hB.out)
          generalize fS j = ce at *
          obtain ⟨b, hb⟩ : ∃ b, satB 3 T (j : Int) = b := ⟨_, rfl⟩
          have HBB := Lib.hid hb
          rw [hb] at hE
          clear hb hO8
          go_wp2_with fail
          refine (rsat_run _ 3 T _ _ _ j _ (by omega) HT8.out).mono ?_
          rintro e W9 ⟨rfl, hb9⟩
          rw [HBB.out]
          have HB9 := Lib.hid (bstep hB.out hb9)
          clear hb9 x0 x1 x2
          rcases (show b = false ∨ b = true by cases b <;> simp) with rfl | rfl
          · have HE := Lib.hid (show fS (j + 1) = ce by rw [hE]; rfl)
            clear hE
            go_wp2_with fail
            go_roundw
            case rel => exact ⟨j + 1, hltj, by rw [HE.out], numY j, HB9⟩
            case measure => exact measY j N hltj
          · have HE := Lib.hid (show fS (j + 1) = ce + 1 by rw [hE]; rfl)
            clear hE
            go_wp2_with fail
            go_roundw
            case rel => exact ⟨j + 1, hltj, by rw [HE.out]; rfl, numY j, HB9⟩
            case measure => exact measY j N hltj
        · obtain rfl : j = N := Nat.le_antisymm hj (Nat.not_lt.1 hltj)
          have HBF := Lib.hid (bstep HB7.out hB.out)
          go_wp2_with fail
          refine (awake10 _).mono ?_
          rintro e wz ⟨rfl, hbz⟩
          have HZ := Lib.hid (bstep HBF.out hbz)
          clear hbz
          go_wp2_with fail
          go_ret
          exact ⟨rfl, HZ.out⟩
end Go.Proofs.Ytoaekbhbbejgmaa
