/- The walk of DeletionGrows. -/
import Derived.Test.YtcngpfffhjbiaaaDoorBase3
import Derived.Deep.RegionHeld3
import Derived.Deep.DeepCutAuto
import Derived.Deep.CutRange
namespace Go.Proofs.YtcngpfffhjbiaaaDoor
set_option linter.unusedVariables false
set_option linter.unusedSimpArgs false
open Go.RowKit

theorem two_pow_le {n : Nat} (h : n ≤ 10) : 1 ≤ 2 ^ n ∧ 2 ^ n ≤ 1024 := by
  have all : ∀ n : Fin 11, 1 ≤ 2 ^ n.val ∧ 2 ^ n.val ≤ 1024 := by decide
  exact all ⟨n, by omega⟩
theorem shl_nat {n : Nat} (h : n ≤ 10) : wrap64 ((2 : Int) ^ n) = ((2 ^ n : Nat) : Int) := by
  have all : ∀ n : Fin 11, wrap64 ((2 : Int) ^ n.val) = ((2 ^ n.val : Nat) : Int) := by decide +kernel
  exact all ⟨n, by omega⟩

theorem pow_cast (k : Nat) : ((2 : Int) ^ k) = ((2 ^ k : Nat) : Int) := by simp
theorem pow_small {k : Nat} (h : k < 10) : 2 ^ k < 1024 := Nat.pow_lt_pow_right (by decide) h
theorem wrap_pow {k : Nat} (h : k ≤ 10) : IntKind.i64.wrap ((2 : Int) ^ k) = (2 : Int) ^ k := by
  have all : ∀ n : Fin 11, IntKind.i64.wrap ((2 : Int) ^ n.val) = (2 : Int) ^ n.val := by decide +kernel
  exact all ⟨k, by omega⟩
theorem not_pow {a k : Nat} (ha : a < 1024) (hk : k < 10) : bits .andNot .i64 (a : Int) ((2 : Int) ^ k) = ((minS a (2 ^ k) : Nat) : Int) := by
  rw [pow_cast, andNot_nat a _ ha (pow_small hk)]; rfl
theorem or_pow {a k : Nat} (ha : a < 1024) (hk : k < 10) : bits .or .i64 (a : Int) ((2 : Int) ^ k) = ((a ||| 2 ^ k : Nat) : Int) := by
  have := pow_small hk
  rw [pow_cast, i64_or_nat a _ (by omega) (by omega)]
theorem minS_pow (a k : Nat) : (minS a (2 ^ k)).testBit k = false := by
  rw [minS_bit, Nat.testBit_two_pow_self]; simp
theorem or_pow_bit (a k : Nat) : (a ||| 2 ^ k).testBit k = true := by
  rw [Nat.testBit_or, Nat.testBit_two_pow_self]; simp

set_option maxRecDepth 100000 in
set_option maxHeartbeats 4000000 in
theorem walkDeletionGrows (a0 : Option Addr) (len0 cap0 : Nat) (z0 : List Int) (w : World) (w0 : IsRow .i64 w a0 len0 cap0 z0) :
    Calls Tryd.prog 3 #[.slice a0 len0 cap0] w fun e w' => e = .returned (.bool true) ∧ Below w.heap.size w w' := by
  have HR := Lib.hid w0
  clear w0
  go_enter Tryd.func3, Tryd.ntmps3
  go_wp2_with fail
  refine (TNew_run _ _ _ _ _ HR.out).mono ?_
  rintro e v0 ⟨rfl, hs0, hb0⟩
  have HS0 := Lib.hid hs0
  have HB0 := Lib.hid hb0
  clear hs0 hb0
  go_wp2_with fail
  refine (TRange_run _ _ _ _ (by omega) (by omega) (by omega) HS0.out).mono ?_
  rintro e v1 ⟨r, hr0, hr1, rfl, hs1, hg1⟩
  obtain ⟨n, rfl⟩ := Int.eq_ofNat_of_zero_le (show 0 ≤ r by omega)
  have HS1 := Lib.hid hs1
  have HB1 := Lib.hid (bgrownD HB0.out hg1 (Nat.le_refl _))
  have hsl := hs1.lt
  clear hs1 hg1
  go_wp2_with fail
  refine (mkTrust_run _ n (by omega) (by omega) 3 (by omega) _ HS1.out).mono ?_
  rintro e v2 ⟨x0, x1, x2, T, rfl, hT, hF, hs2, hg2⟩
  obtain ⟨t', A', n', ca, B', m', cb, rfl, rfl, rfl⟩ := hT.form
  have hMA : MadeAt w v2.heap.size 4 t' (.slice A' n' ca) (.slice B' m' cb) T (v2.alloc (.cells #[.int .i64 t', .slice A' n' ca, .slice B' m' cb] 28)) :=
    ⟨hs2.alloc _, heap_alloc_new _ _, (hT.imp (fun k _ hk => by omega)).below (balloc (bref _) _), hs2.lt, balloc (bgrownD HB1.out hg2 (Nat.le_refl _)) _⟩
  have HM := Lib.hid hMA
  have HW := Lib.hid hF.1
  have hn10 : (n : Int) ≤ 10 := hr1
  have hnn : n ≤ 10 := by omega
  obtain ⟨hp0, hp1⟩ := two_pow_le hnn
  have hsh := shl_nat hnn
  clear hT hF hs2 hg2 hMA HS1 HB1 HS0 HB0
  go_upto_region 4 with fail
  generalize v2.alloc (.cells #[.int .i64 t', .slice A' n' ca, .slice B' m' cb] 28) = W1 at *
  generalize v2.heap.size = g at *
  go_wp2_with fail
  go_loopw [6] (fun t W => ∃ k : Nat, k ≤ 20 ∧ t = .int .i64 k ∧ Hid (MadeAt w g 4 t' (.slice A' n' ca) (.slice B' m' cb) T W)) (fun t _ => 20 - (intOf t).toNat)
  case atStart => exact ⟨0, by omega, rfl, HM⟩
  case round =>
    obtain ⟨i, hi, rfl, hM⟩ := hrel
    by_cases hlt : i < 20
    · have HPI := Lib.hid (show ((2 : Int) ^ n) = ((2 ^ n : Nat) : Int) by simp)
      go_wp2_with fail
      refine (TN_run _ _ _ (by rw [HPI.out]; omega) (by rw [HPI.out]; omega) hM.out.tape).mono ?_
      rintro e W2 ⟨r, hr0, hr1', rfl, hs2, hg2⟩
      obtain ⟨a, rfl⟩ := Int.eq_ofNat_of_zero_le hr0
      have hM2 := Lib.hid (hM.out.grown hs2 hg2)
      clear hs2 hg2
      go_wp2_with fail
      refine (TN_run _ _ _ (by omega) (by omega) hM2.out.tape).mono ?_
      rintro e W3 ⟨r, hr2, hr3, rfl, hs2, hg2⟩
      obtain ⟨k, rfl⟩ := Int.eq_ofNat_of_zero_le hr2
      have hM3 := Lib.hid (hM2.out.grown hs2 hg2)
      clear hs2 hg2 hM hM2
      have ha : a < 1024 := by rw [HPI.out] at hr1'; omega
      have hk : k < 10 := by omega
      have hshk := shl_nat (n := k) (by omega)
      obtain ⟨hq0, hq1⟩ := two_pow_le (n := k) (by omega)
      go_upto_region 9 with fail
      rw [not_pow ha hk]
      have hgn := minS_lt (s := 2 ^ k) ha
      have HGB := Lib.hid (minS_pow a k)
      generalize minS a (2 ^ k) = gn at *
      have hwn := wrap_pow hnn
      have hwk := wrap_pow (k := k) (by omega)
      go_region_with ((go_at_call 10; refine (TN_run _ _ _ (by rw [HPI.out]; omega) (by rw [HPI.out]; omega) (by exact hM3.out.drew.tape)).mono ?_; rintro e W4 ⟨r, hr4, hr5, rfl, hs4, hg4⟩; have hM4 := Lib.hid (hM3.out.drew.grown hs4 hg4)))
      obtain ⟨b, rfl⟩ := Int.eq_ofNat_of_zero_le hr4
      have hb : b < 1024 := by rw [HPI.out] at hr5; omega
      have horr := or_pow hb hk
      have HZB := Lib.hid (or_pow_bit b k)
      have hzl : b ||| 2 ^ k < 1024 := Nat.or_lt_two_pow (n := 10) hb (pow_small hk)
      obtain ⟨z, hz⟩ : ∃ z, b ||| 2 ^ k = z := ⟨_, rfl⟩
      rw [hz] at horr HZB hzl
      clear hz hs4 hg4 hM3
      have hzm := andNot_nat z gn hzl hgn
      have HDG := Lib.hid (fun h => del_grows (n := n) hn10 HW.out hgn hzl hk HZB.out HGB.out h)
      have hml := minS_lt (s := gn) hzl
      obtain ⟨c0, c1, c2⟩ := hM4.out.out.cs
      go_wp2_with fail
      refine (rsat_run _ 4 T _ _ _ z _ hzl hM4.out.tat).mono ?_
      rintro e W5 ⟨rfl, hb5⟩
      have hM5 := Lib.hid (hM4.out.bel hb5)
      clear hb5 c0 c1 c2
      obtain ⟨c0, c1, c2⟩ := hM5.out.out.cs
      rcases (show satB 4 T (z : Int) = false ∨ satB 4 T (z : Int) = true by cases satB 4 T (z : Int) <;> simp) with hsb | hsb
      · rw [hsb]
        go_wp2_with fail
        go_roundw
        case rel => exact ⟨i + 1, by omega, by go_num, hM5⟩
        case measure => simp [intOf]; omega
      · rw [hsb]
        have hd := HDG.out hsb
        go_wp2_with fail
        refine (delT_run _ n gn k 3 T _ _ _ _ hgn hM5.out.tat HW.out).mono ?_
        rintro e W6 ⟨y0, y1, y2, rfl, hT6, hb6⟩
        have hM6 := Lib.hid (hM5.out.bel hb6)
        have HT6 := Lib.hid hT6
        clear hT6 hb6 c0 c1 c2
        go_wp2_with fail
        refine (rsat_run _ 4 _ _ _ _ (minS z gn) _ hml HT6.out).mono ?_
        rintro e W7 ⟨rfl, hb7⟩
        have hM7 := Lib.hid (hM6.out.bel hb7)
        rw [hd]
        clear hb7
        go_wp2_with fail
        go_roundw
        case rel => exact ⟨i + 1, by omega, by go_num, hM7⟩
        case measure => simp [intOf]; omega
    · obtain rfl : i = 20 := by omega
      go_wp2_with fail
      refine (awake13 _).mono ?_
      rintro e W5 ⟨rfl, hb5⟩
      have HB5 := Lib.hid (bstep hM.out.below hb5)
      clear hb5
      go_wp2_with fail
      go_ret
      exact ⟨rfl, HB5.out⟩
end Go.Proofs.YtcngpfffhjbiaaaDoor
