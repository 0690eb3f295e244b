/- The walk of LeadersGrow: the leaders of some rounds are those that Choose names for one of them. -/
import Derived.Test.YtmgiojdipheokaaLead3
namespace Go.Proofs.Ytmgiojdipheokaa
set_option linter.unusedVariables false
open Go.RowKit

theorem pleaders_at (n : Int) (hn10 : n ≤ 10) (d : Nat) (hd : d ≤ 4) (P : Nat → Prop) (T : Tree) (v s r : Int) (m : Nat) (hr : r = (m : Int)) (v0 v1 v2 : Value) (w : World) (h : TAt P d w v0 v1 v2 T) (hW : WF n d T) (hs : sizeT d T ≤ 200)
    (a0 : 0 ≤ v) (a1 : v < 10) (s0 : 0 ≤ s) (s1 : s ≤ 1000000) (r0 : 1 ≤ m) (r1 : m ≤ 1000) :
    Calls Try.prog 61 #[.agg #[v0, v1, v2], .int .i64 v, .int .i64 s, .int .i64 r] w fun e w' => e = .returned (.tuple #[.int .i64 (leadV d T v s m : Nat), .int .i64 0]) ∧ Below w.heap.size w w' := by
  subst hr
  exact pleaders_run n hn10 d hd P T v s m v0 v1 v2 w h hW hs a0 a1 s0 s1 r0 r1

set_option maxRecDepth 100000 in
set_option maxHeartbeats 4000000 in
theorem walkLeadersGrow (a0 : Option Addr) (len0 cap0 : Nat) (z0 : List Int) (w : World) (w0 : IsRow .i64 w a0 len0 cap0 z0) :
    Calls Try.prog 13 #[.slice a0 len0 cap0] w fun e w' => e = .returned (.bool true) ∧ Below w.heap.size w w' := by
  have HR := Lib.hid w0
  clear w0
  go_enter Try.func13, Try.ntmps13
  go_wp2_with fail
  refine (TNew_run _ _ _ _ _ HR.out).mono ?_
  rintro e v0 ⟨rfl, hs0, hb0⟩
  have HS0 := Lib.hid hs0
  have HB0 := Lib.hid hb0
  clear hs0 hb0
  go_wp2_with fail
  refine (TRange_run _ _ _ _ (by omega) (by omega) (by omega) HS0.out).mono ?_
  rintro e v1 ⟨r, hr0, hr1, rfl, hs1, hg1⟩
  obtain ⟨n, rfl⟩ := Int.eq_ofNat_of_zero_le (show 0 ≤ r by omega)
  have HS1 := Lib.hid hs1
  have HB1 := Lib.hid (bgrownT HB0.out hg1 (Nat.le_refl _))
  have hsl := hs1.lt
  clear hs1 hg1
  go_wp2_with fail
  refine (mkTrust_run _ n (by omega) (by omega) 2 (by omega) _ HS1.out).mono ?_
  rintro e v2 ⟨x0, x1, x2, T, rfl, hT, hF, hs2, hg2⟩
  obtain ⟨t', A', n', ca, B', m', cb, rfl, rfl, rfl⟩ := hT.form
  have hMA : MadeAt w v2.heap.size 3 t' (.slice A' n' ca) (.slice B' m' cb) T (v2.alloc (.cells #[.int .i64 t', .slice A' n' ca, .slice B' m' cb] 41)) :=
    ⟨hs2.alloc _, heap_alloc_new _ _, (hT.imp (fun k _ hk => by omega)).below (balloc (bref _) _), hs2.lt, balloc (bgrownT HB1.out hg2 (Nat.le_refl _)) _⟩
  have HM := Lib.hid hMA
  have HW := Lib.hid hF.1
  have HZ := Lib.hid hF.2
  have hn10 : (n : Int) ≤ 10 := hr1
  clear hT hF hs2 hg2 hMA HS1 HB1 HS0 HB0
  go_upto_region 3 with fail
  generalize v2.alloc (.cells #[.int .i64 t', .slice A' n' ca, .slice B' m' cb] 41) = W1 at *
  generalize v2.heap.size = g at *
  go_wp2_with fail
  refine (TN_run _ _ _ (by omega) (by omega) HM.out.tape).mono ?_
  rintro e W2 ⟨vv, hv0, hv1, rfl, hs2, hg2⟩
  have HM2 := Lib.hid (HM.out.grown hs2 hg2)
  clear hs2 hg2 HM
  go_wp2_with fail
  refine (TN_run _ _ _ (by omega) (by omega) HM2.out.tape).mono ?_
  rintro e W3 ⟨ss, hs0, hs1, rfl, hs2, hg2⟩
  have HM3 := Lib.hid (HM2.out.grown hs2 hg2)
  clear hs2 hg2 HM2
  go_wp2_with fail
  refine (TRange_run _ _ _ _ (by omega) (by omega) (by omega) HM3.out.tape).mono ?_
  rintro e W4 ⟨r, hm0, hm1, rfl, hs2, hg2⟩
  obtain ⟨m, rfl⟩ := Int.eq_ofNat_of_zero_le (show 0 ≤ r by omega)
  have HM4 := Lib.hid (HM3.out.grown hs2 hg2)
  clear hs2 hg2 HM3
  go_wp2_with fail
  go_loopw [8, 9] (fun a t W => ∃ k : Nat, k ≤ m ∧ a = .int .i64 (leadV 3 T vv ss k : Nat) ∧ t = .int .i64 ((k : Int) + 1) ∧ Hid (MadeAt w g 3 t' (.slice A' n' ca) (.slice B' m' cb) T W)) (fun _ t _ => m + 1 - (intOf t).toNat)
  case atStart => exact ⟨0, by omega, rfl, rfl, HM4⟩
  case round =>
    obtain ⟨k, hk, rfl, rfl, hM⟩ := hrel
    by_cases hlt : k < m
    · obtain ⟨c0, c1, c2⟩ := hM.out.out.cs
      have hin := chooseV_in 3 T vv ss ((k : Int) + 1) hv0 hv1
      have hll := leadV_lt 3 T vv ss hv0 hv1 k
      have HLS := Lib.hid (show leadV 3 T vv ss (k + 1) = leadV 3 T vv ss k ||| 2 ^ (chooseV 3 T vv ss ((k : Int) + 1)).toNat from rfl)
      go_wp2_with fail
      refine (pchoose_run n hn10 3 (by omega) _ T vv ss ((k : Int) + 1) _ _ _ _ hM.out.tat HW.out HZ.out hv0 hv1 hs0 (by omega) (by omega) (by omega)).mono ?_
      rintro e W5 ⟨rfl, hb5⟩
      have hM5 := Lib.hid (hM.out.bel hb5)
      clear hb5 c0 c1 c2 hM
      obtain ⟨c0, c1, c2⟩ := hM5.out.out.cs
      go_wp2_with fail
      refine (pleaders_at n hn10 3 (by omega) _ T vv ss ((k : Int) + 1) (k + 1) (by omega) _ _ _ _ hM5.out.tat HW.out HZ.out hv0 hv1 hs0 (by omega) (by omega) (by omega)).mono ?_
      rintro e W6 ⟨rfl, hb6⟩
      have hM6 := Lib.hid (hM5.out.bel hb6)
      clear hb6 c0 c1 c2 hM5
      obtain ⟨K, hK⟩ := Int.eq_ofNat_of_zero_le hin.1
      rw [hK] at hin HLS ⊢
      clear hK
      rw [Int.toNat_natCast] at HLS
      rw [HLS.out]
      obtain ⟨L, hL⟩ : ∃ L, leadV 3 T vv ss k = L := ⟨_, rfl⟩
      rw [hL] at hll HLS ⊢
      clear hL
      have hor := shl_or L K (by omega) (by omega)
      generalize L ||| 2 ^ K = L2 at *
      go_wp2_with fail
      go_roundw
      case rel => exact ⟨k + 1, by omega, by rw [HLS.out], by go_num, hM6⟩
      case measure => simp [intOf]; omega
    · obtain rfl : k = m := by omega
      go_wp2_with fail
      refine (awake21 _).mono ?_
      rintro e Z ⟨rfl, hbz⟩
      go_wp2_with fail
      go_ret
      exact ⟨rfl, bstep hM.out.below hbz⟩
end Go.Proofs.Ytmgiojdipheokaa
