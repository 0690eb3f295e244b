/- The walk of SlicesSatisfy: a set satisfies a trust exactly if it has one of its slices as a subset, and blocks it exactly if it meets all of them. -/
import Derived.Test.YthbiopmfbnpmfaaSlMath
import Derived.Test.YthbiopmfbnpmfaaAwake05
import Derived.Test.YthbiopmfbnpmfaaB2
namespace Go.Proofs.Ythbiopmfbnpmfaa
set_option linter.unusedVariables false
set_option linter.unusedSimpArgs false
open Go.RowKit

theorem sat_up {n : Int} {d : Nat} {T : Tree} (hn : n ≤ 10) (hW : WF n d T) {a b : Nat} (ha : a < 1024) (hb : b < 1024) (h : subB a b = true) (hs : satB d T (a : Int) = true) : satB d T (b : Int) = true := by
  rw [sat_in (by omega) (by omega)] at hs ⊢
  refine holdsT_mono (n := n) (fun x h0 h1 hx => ?_) d T hW hs
  obtain ⟨K, rfl⟩ := Int.eq_ofNat_of_zero_le h0
  rw [hasB_nat (by omega) (by omega)] at hx ⊢
  exact sub_bitsS.1 h K hx

theorem sli_any {n : Int} {d : Nat} {T : Tree} (hn : n ≤ 10) (hW : WF n d T) {k : Nat} (hk : k < 1024) : (lfold (sliP d T) (ordN 10)).any (fun z => subB z k) = satB d T (k : Int) := by
  have hL := lfold_least (p := sliP d T) (fun t h => sliP_lt h)
  rw [Bool.eq_iff_iff, List.any_eq_true]
  constructor
  · rintro ⟨z, hz, hzk⟩
    obtain ⟨h1, h2, _⟩ := (hL.2.1 z).1 hz
    unfold sliP at h2
    rw [Bool.and_eq_true] at h2
    exact sat_up hn hW h1 hk hzk h2.2
  · intro h
    have hku : k &&& usesT d T < 1024 := Nat.lt_of_le_of_lt Nat.and_le_left hk
    have h1 : sliP d T (k &&& usesT d T) = true := by
      unfold sliP
      rw [sat_uses hn hW hk, h, Bool.and_true]
      exact sub_bitsS.2 (fun j hj => by rw [Nat.testBit_and, Bool.and_eq_true] at hj; exact hj.2)
    obtain ⟨y, y1, y2, y3⟩ := least_below (p := sliP d T) _ _ (Nat.le_refl _) h1
    refine ⟨y, (hL.2.1 y).2 ⟨sliP_lt y1, y1, y3⟩, sub_bitsS.2 (fun j hj => ?_)⟩
    have := sub_bitsS.1 y2 j hj
    rw [Nat.testBit_and, Bool.and_eq_true] at this
    exact this.1

theorem sli_all {n : Int} {d : Nat} {T : Tree} (hn : n ≤ 10) (hW : WF n d T) {k : Nat} (hk : k < 1024) : (lfold (sliP d T) (ordN 10)).all (fun z => !(z &&& k == 0)) = blkB d T (k : Int) := by
  have hL := lfold_least (p := sliP d T) (fun t h => sliP_lt h)
  have h1 := sli_any hn hW (k := 1023 - k) (by omega)
  have h2 : satB d T ((1023 - k : Nat) : Int) = !blkB d T (k : Int) := by
    have h3 := sat_blk_compl (d := d) (T := T) (s := ((1023 - k : Nat) : Int)) (by omega) (by omega)
    rw [show (1023 : Int) - ((1023 - k : Nat) : Int) = (k : Int) by omega] at h3
    rw [h3, Bool.not_not]
  rw [h2] at h1
  rw [Bool.eq_iff_iff, List.all_eq_true]
  have h5 : ∀ z, z < 1024 → (subB z (1023 - k) = true ↔ z &&& k = 0) := fun z hz => by
    rw [sub_bitsS]
    constructor
    · intro h
      apply Nat.eq_of_testBit_eq
      intro j
      rw [Nat.testBit_and, Nat.zero_testBit]
      cases hb : z.testBit j
      · rfl
      · have h6 := h j hb
        have hj : j < 10 := by
          rcases Nat.lt_or_ge j 10 with h7 | h7
          · exact h7
          · rw [Nat.testBit_lt_two_pow (Nat.lt_of_lt_of_le hz (show 2 ^ 10 ≤ 2 ^ j from Nat.pow_le_pow_right (by omega) h7))] at hb
            cases hb
        rw [compl_fact hk hj, Bool.not_eq_true'] at h6
        rw [h6]; rfl
    · intro h j hb
      have hj : j < 10 := by
        rcases Nat.lt_or_ge j 10 with h7 | h7
        · exact h7
        · rw [Nat.testBit_lt_two_pow (Nat.lt_of_lt_of_le hz (show 2 ^ 10 ≤ 2 ^ j from Nat.pow_le_pow_right (by omega) h7))] at hb
          cases hb
      have h6 := congrArg (fun x => x.testBit j) h
      simp only [Nat.testBit_and, hb, Bool.true_and, Nat.zero_testBit] at h6
      rw [compl_fact hk hj, h6]; rfl
  constructor
  · intro h
    cases hb : blkB d T (k : Int)
    · rw [hb] at h1
      obtain ⟨z, hz, hzk⟩ := List.any_eq_true.1 h1
      have h6 := h z hz
      rw [(h5 z ((hL.2.1 z).1 hz).1).1 hzk] at h6
      simp at h6
    · rfl
  · intro hb z hz
    rw [hb] at h1
    rw [Bool.not_eq_true', beq_eq_false_iff_ne]
    intro h0
    have h6 : (lfold (sliP d T) (ordN 10)).any (fun z => subB z (1023 - k)) = true := List.any_eq_true.2 ⟨z, hz, (h5 z ((hL.2.1 z).1 hz).1).2 h0⟩
    rw [h6] at h1
    cases h1

theorem sli_ne {n : Int} {d : Nat} {T : Tree} (hn : n ≤ 10) (hW : WF n d T) : (lfold (sliP d T) (ordN 10)).length ≠ 0 := by
  intro h0
  have h := sli_any hn hW (k := 1023) (by omega)
  rw [List.eq_nil_of_length_eq_zero h0, show ((1023 : Nat) : Int) = 1023 from rfl, sat_full hn hW] at h
  cases h

set_option maxHeartbeats 1000000 in
theorem rblk_run (P : Nat → Prop) (d : Nat) (T : Tree) (v0 v1 v2 : Value) (s : Nat) (w : World) (hs : s < 1024) (h : TAt P d w v0 v1 v2 T) :
    Calls Try.prog 11 #[.agg #[v0, v1, v2], .int .i64 (s : Int)] w fun e w' => e = .returned (.bool (blkB d T (s : Int))) ∧ Below w.heap.size w w' := by
  obtain ⟨t', A', n', ca, B', m', cb, rfl, rfl, rfl⟩ := h.form
  have HT := Lib.hid (h.below (balloc (bref w) (.cells #[.int .i64 t', .slice A' n' ca, .slice B' m' cb] 27)))
  have hv : setB (s : Int) = true := setB_iff.2 ⟨by omega, by omega⟩
  have HV := Lib.hid hv
  have HC := Lib.hid (show blkB d T (s : Int) = !satB d T ((1023 - s : Nat) : Int) from by
    have h3 := sat_blk_compl (d := d) (T := T) (s := ((1023 - s : Nat) : Int)) (by omega) (by omega)
    rw [show (1023 : Int) - ((1023 - s : Nat) : Int) = (s : Int) by omega] at h3
    exact h3)
  rw [HC.out]
  have HK := Lib.hid (show (w.alloc (.cells #[.int .i64 t', .slice A' n' ca, .slice B' m' cb] 27)).heap[w.heap.size]? = some (.cells #[.int .i64 t', .slice A' n' ca, .slice B' m' cb] 27 (0, 0)) from alloc_at rfl)
  have HB1 := Lib.hid (balloc (bref w) (.cells #[.int .i64 t', .slice A' n' ca, .slice B' m' cb] 27))
  clear h hv HC
  obtain ⟨q, hq⟩ : ∃ q, 1023 - s = q := ⟨_, rfl⟩
  have hqs : (1023 : Int) - (s : Int) = (q : Int) := by omega
  have hq10 : q < 1024 := by omega
  have HQ := Lib.hid hqs
  rw [hq]
  clear hq hqs
  go_enter Try.func11, Try.ntmps11
  go_upto_region 1 with fail
  generalize (w.alloc (.cells #[.int .i64 t', .slice A' n' ca, .slice B' m' cb] 27)) = W1 at *
  generalize hg : w.heap.size = g at *
  have HG := Lib.hid hg
  clear hg
  have x0 : W1.cell? ⟨g, 0, none⟩ = some (.int .i64 t') := cell_of_row _ _ 0 _ _ (0, 0) HK.out
  have x1 : W1.cell? ⟨g, 1, none⟩ = some (.slice A' n' ca) := cell_of_row _ _ 1 _ _ (0, 0) HK.out
  have x2 : W1.cell? ⟨g, 2, none⟩ = some (.slice B' m' cb) := cell_of_row _ _ 2 _ _ (0, 0) HK.out
  go_wp2_with fail
  refine (rsetValid_run (s : Int) _).mono ?_
  rintro e W2 ⟨rfl, rfl⟩
  rw [HV.out]
  go_wp2_with fail
  rw [HQ.out]
  refine (rsat_run P d T _ _ _ q _ hq10 HT.out).mono ?_
  rintro e W3 ⟨rfl, hb3⟩
  have HF := Lib.hid (show Below w.heap.size w W3 from by have h := HB1.out; rw [← HG.out] at h; exact bstep h hb3)
  obtain ⟨r, hr⟩ : ∃ r, satB d T ((q : Nat) : Int) = r := ⟨_, rfl⟩
  rw [hr]
  have HR := Lib.hid hr
  clear hr hb3 x0 x1 x2
  go_wp2_with fail
  go_ret
  exact ⟨by first | rfl | (rw [HR.out]; rfl), HF.out⟩

set_option maxRecDepth 100000 in
set_option maxHeartbeats 4000000 in
theorem walkSlicesSatisfy (a0 : Option Addr) (len0 cap0 : Nat) (z0 : List Int) (w : World) (w0 : IsRow .i64 w a0 len0 cap0 z0) :
    Calls Try.prog 3 #[.slice a0 len0 cap0] w fun e w' => e = .returned (.bool true) ∧ Below w.heap.size w w' := by
  have HR := Lib.hid w0
  clear w0
  go_enter Try.func3, Try.ntmps3
  go_wp2_with fail
  refine (TNew_run _ _ _ _ _ HR.out).mono ?_
  rintro e v0 ⟨rfl, hs0, hb0⟩
  have HS0 := Lib.hid hs0
  have HB0 := Lib.hid hb0
  clear hs0 hb0
  go_wp2_with fail
  refine (TRange_run _ _ _ _ (by omega) (by omega) (by omega) HS0.out).mono ?_
  rintro e v1 ⟨r, hr0, hr1, rfl, hs1, hg1⟩
  obtain ⟨n, rfl⟩ := Int.eq_ofNat_of_zero_le (show 0 ≤ r by omega)
  have HS1 := Lib.hid hs1
  have HB1 := Lib.hid (bgrownT HB0.out hg1 (Nat.le_refl _))
  have hsl := hs1.lt
  clear hs1 hg1
  go_wp2_with fail
  refine (mkTrust_run _ n (by omega) (by omega) 3 (by omega) _ HS1.out).mono ?_
  rintro e v2 ⟨x0, x1, x2, T, rfl, hT, hF, hs2, hg2⟩
  obtain ⟨t', A', n', ca, B', m', cb, rfl, rfl, rfl⟩ := hT.form
  have hMA : MadeAt w v2.heap.size 4 t' (.slice A' n' ca) (.slice B' m' cb) T (v2.alloc (.cells #[.int .i64 t', .slice A' n' ca, .slice B' m' cb] 27)) :=
    ⟨hs2.alloc _, heap_alloc_new _ _, (hT.imp (fun k _ hk => by omega)).below (balloc (bref _) _), hs2.lt, balloc (bgrownT HB1.out hg2 (Nat.le_refl _)) _⟩
  have HM := Lib.hid hMA
  have HW := Lib.hid hF.1
  have HSZ := Lib.hid hF.2
  have hn10 : (n : Int) ≤ 10 := by omega
  clear hT hF hs2 hg2 hMA HS1 HB1 HS0 HB0
  go_upto_region 3 with fail
  generalize v2.alloc (.cells #[.int .i64 t', .slice A' n' ca, .slice B' m' cb] 27) = W1 at *
  generalize v2.heap.size = g at *
  obtain ⟨c0, c1, c2⟩ := HM.out.out.cs
  go_wp2_with fail
  refine (slices_run n hn10 4 (by omega) _ T _ _ _ _ HM.out.tat HW.out HSZ.out).mono ?_
  rintro e W2 ⟨⟨vl, rfl, hrow⟩, hb2⟩
  have HM2 := Lib.hid (HM.out.bel hb2)
  have HLT := Lib.hid (lfold_least (p := sliP 4 T) (fun t h => sliP_lt h))
  have HAY := Lib.hid (fun k (hk : k < 1024) => sli_any hn10 HW.out hk)
  have HAL := Lib.hid (fun k (hk : k < 1024) => sli_all hn10 HW.out hk)
  have hne := sli_ne hn10 HW.out
  have HN2 := Lib.hid ((NodesAt.of_ownZ hrow).both (w' := W2) (Q := fun b => w.heap.size < b) (fun _ _ _ => rfl) (fun b _ (hb : W1.heap.size ≤ b) => by have := HM.out.below.size; have h2 := HM.out.out.lt; have h3 := HM.out.low; omega))
  obtain ⟨Al, cl, rfl⟩ := own_slice hrow
  generalize lfold (sliP 4 T) (ordN 10) = L at *
  have hL := HLT.out.2.2
  obtain ⟨m, hm⟩ : ∃ m, L.length = m := ⟨_, rfl⟩
  have HMM := Lib.hid hm
  rw [hm] at HN2 hL hne ⊢
  have hmi : ((m : Int) == 0) = false := by rw [beq_eq_false_iff_ne]; omega
  clear hrow hb2 c0 c1 c2 HM hm
  go_wp2_with fail
  go_loopw [7] (fun t W => ∃ i : Nat, i ≤ 40 ∧ t = .int .i64 (i : Int) ∧ Hid (MadeAt w g 4 t' (.slice A' n' ca) (.slice B' m' cb) T W) ∧ Hid (NodesAt (fun b => w.heap.size < b) W (.slice Al m cl) (zs L))) (fun t _ => 40 - (intOf t).toNat)
  case atStart => exact ⟨0, by omega, rfl, HM2, HN2⟩
  case round =>
    obtain ⟨i, hi, rfl, hM, hN⟩ := hrel
    by_cases hlt : i < 40
    · go_wp2_with fail
      refine (TN_run _ _ _ (by omega) (by omega) hM.out.tape).mono ?_
      rintro e W3 ⟨r3, hr30, hr31, rfl, hs3, hg3⟩
      obtain ⟨k, rfl⟩ := Int.eq_ofNat_of_zero_le hr30
      have hM3 := Lib.hid (hM.out.grown hs3 hg3)
      have hN3 := Lib.hid (hN.out.both (w' := W3) (Q := fun b => w.heap.size < b) (fun p hp hP => hg3.block p hp (by simp; omega)) (fun _ _ h => h))
      have hk : k < 1024 := by omega
      clear hs3 hg3 hr30 hr31
      by_cases h20 : i < 20
      · go_wp2_with fail
        refine (TN_run _ _ _ (by omega) (by omega) hM3.out.tape).mono ?_
        rintro e W4 ⟨r4, hr40, hr41, rfl, hs4, hg4⟩
        obtain ⟨k4, rfl⟩ := Int.eq_ofNat_of_zero_le hr40
        have hM4 := Lib.hid (hM3.out.grown hs4 hg4)
        have hN4 := Lib.hid (hN3.out.both (w' := W4) (Q := fun b => w.heap.size < b) (fun p hp hP => hg4.block p hp (by simp; omega)) (fun _ _ h => h))
        have hk4 : k4 < 1024 := by omega
        clear hs4 hg4 hr40 hr41 hM3 hN3 hM hN hk
        go_wp2_with fail
        go_loopw [9, 10, 43] (fun u v t W => ∃ (j : Nat) (a b : Bool), j ≤ m ∧ u = .bool a ∧ v = .bool b ∧ t = .int .i64 (j : Int) ∧ Hid (a = (L.take j).any (fun z => subB z k4)) ∧ Hid (b = (L.take j).all (fun z => !(z &&& k4 == 0))) ∧ Hid (Below (World.heap W4).size W4 W)) (fun _ _ t _ => m - (intOf t).toNat)
        case atStart => exact ⟨0, false, true, Nat.zero_le _, rfl, rfl, rfl, Lib.hid rfl, Lib.hid rfl, Lib.hid (bref _)⟩
        case round =>
          obtain ⟨j, a, b, hj, rfl, rfl, rfl, hA, hB, hBe⟩ := hrel
          by_cases hjm : j < m
          · obtain ⟨z, hz⟩ : ∃ z, L[j]? = some z := ⟨_, List.getElem?_eq_getElem (by rw [HMM.out]; exact hjm)⟩
            obtain ⟨An, cn', hAn, hcl⟩ := (hN4.out.below hBe.out)
            injection hAn with q1 q2 q3
            subst q1
            obtain ⟨bn, on, hbn, _, hcn⟩ := hcl j (by rw [zs_len, HMM.out]; exact hjm)
            subst hbn
            rw [zs_get, show L.getD j 0 = z by rw [List.getD_eq_getElem?_getD, hz]; rfl] at hcn
            have hz10 := ((HLT.out.2.1 z).1 (List.mem_of_getElem? hz)).1
            have hand := i64_and_nat z k4 (by omega) (by omega)
            have HTK := Lib.hid (show L.take (j + 1) = L.take j ++ [z] by rw [List.take_add_one, hz]; rfl)
            obtain ⟨q, hq⟩ : ∃ q, subB z k4 = q := ⟨_, rfl⟩
            obtain ⟨y, hy⟩ : ∃ y, (!(z &&& k4 == 0)) = y := ⟨_, rfl⟩
            have hq2 : (((z &&& k4 : Nat) : Int) == (z : Int)) = q := by
              rw [← hq]; unfold subB
              rw [Bool.eq_iff_iff, beq_iff_eq, beq_iff_eq]; omega
            have hy2 : (((z &&& k4 : Nat) : Int) != 0) = y := by
              rw [← hy]
              show (!(((z &&& k4 : Nat) : Int) == 0)) = _
              congr 1
              rw [Bool.eq_iff_iff, beq_iff_eq, beq_iff_eq]; omega
            have HA2 := Lib.hid (show (a || q) = (L.take (j + 1)).any (fun z => subB z k4) by rw [HTK.out, List.any_append, ← hA.out]; simp [hq])
            have HB2 := Lib.hid (show (b && y) = (L.take (j + 1)).all (fun z => !(z &&& k4 == 0)) by rw [HTK.out, List.all_append, ← hB.out]; simp [hy])
            generalize z &&& k4 = x at hand hq2 hy2
            clear hcl q2 q3 hz hq hy HTK hA hB
            cases a <;> cases b <;> cases q <;> cases y
            all_goals
              go_wp2_with fail
              go_roundw
              case rel => exact ⟨j + 1, _, _, hjm, rfl, rfl, by go_num, HA2, HB2, hBe⟩
              case measure => simp [intOf]; omega
          · obtain rfl : j = m := by omega
            have hA2 := hA.out
            have hB2 := hB.out
            rw [List.take_of_length_le (by rw [HMM.out]; exact Nat.le_refl _)] at hA2 hB2
            rw [HAY.out k4 hk4] at hA2
            rw [HAL.out k4 hk4] at hB2
            have HA3 := Lib.hid hA2.symm
            have HB3 := Lib.hid hB2.symm
            have hM5 := Lib.hid (hM4.out.bel hBe.out)
            have hN5 := Lib.hid (hN4.out.below hBe.out)
            obtain ⟨c0, c1, c2⟩ := hM5.out.out.cs
            clear hA2 hB2 hA hB hBe hM4 hN4
            have haa : (!(a == a)) = false := by simp
            have hbb : (!(b == b)) = false := by simp
            go_wp2_with fail
            refine (rsat_run _ 4 T _ _ _ k4 _ hk4 hM5.out.tat).mono ?_
            rintro e W6 ⟨rfl, hb6⟩
            rw [HA3.out]
            have hM6 := Lib.hid (hM5.out.bel hb6)
            have hN6 := Lib.hid (hN5.out.below hb6)
            clear hb6 c0 c1 c2 hM5 hN5
            obtain ⟨c0, c1, c2⟩ := hM6.out.out.cs
            go_wp2_with fail
            refine (rblk_run _ 4 T _ _ _ k4 _ hk4 hM6.out.tat).mono ?_
            rintro e W7 ⟨rfl, hb7⟩
            rw [HB3.out]
            have hM7 := Lib.hid (hM6.out.bel hb7)
            have hN7 := Lib.hid (hN6.out.below hb7)
            clear hb7 c0 c1 c2 hM6 hN6
            go_wp2_with fail
            go_roundw
            case rel => exact ⟨i + 1, hlt, by go_num, hM7, hN7⟩
            case measure => simp [intOf]; omega
      · have hM4 := hM3
        have hN4 := hN3
        have hk4 := hk
        clear hM3 hN3 hM hN hk
        go_wp2_with fail
        go_loopw [9, 10, 43] (fun u v t W => ∃ (j : Nat) (a b : Bool), j ≤ m ∧ u = .bool a ∧ v = .bool b ∧ t = .int .i64 (j : Int) ∧ Hid (a = (L.take j).any (fun z => subB z k)) ∧ Hid (b = (L.take j).all (fun z => !(z &&& k == 0))) ∧ Hid (Below (World.heap W3).size W3 W)) (fun _ _ t _ => m - (intOf t).toNat)
        case atStart => exact ⟨0, false, true, Nat.zero_le _, rfl, rfl, rfl, Lib.hid rfl, Lib.hid rfl, Lib.hid (bref _)⟩
        case round =>
          obtain ⟨j, a, b, hj, rfl, rfl, rfl, hA, hB, hBe⟩ := hrel
          by_cases hjm : j < m
          · obtain ⟨z, hz⟩ : ∃ z, L[j]? = some z := ⟨_, List.getElem?_eq_getElem (by rw [HMM.out]; exact hjm)⟩
            obtain ⟨An, cn', hAn, hcl⟩ := (hN4.out.below hBe.out)
            injection hAn with q1 q2 q3
            subst q1
            obtain ⟨bn, on, hbn, _, hcn⟩ := hcl j (by rw [zs_len, HMM.out]; exact hjm)
            subst hbn
            rw [zs_get, show L.getD j 0 = z by rw [List.getD_eq_getElem?_getD, hz]; rfl] at hcn
            have hz10 := ((HLT.out.2.1 z).1 (List.mem_of_getElem? hz)).1
            have hand := i64_and_nat z k (by omega) (by omega)
            have HTK := Lib.hid (show L.take (j + 1) = L.take j ++ [z] by rw [List.take_add_one, hz]; rfl)
            obtain ⟨q, hq⟩ : ∃ q, subB z k = q := ⟨_, rfl⟩
            obtain ⟨y, hy⟩ : ∃ y, (!(z &&& k == 0)) = y := ⟨_, rfl⟩
            have hq2 : (((z &&& k : Nat) : Int) == (z : Int)) = q := by
              rw [← hq]; unfold subB
              rw [Bool.eq_iff_iff, beq_iff_eq, beq_iff_eq]; omega
            have hy2 : (((z &&& k : Nat) : Int) != 0) = y := by
              rw [← hy]
              show (!(((z &&& k : Nat) : Int) == 0)) = _
              congr 1
              rw [Bool.eq_iff_iff, beq_iff_eq, beq_iff_eq]; omega
            have HA2 := Lib.hid (show (a || q) = (L.take (j + 1)).any (fun z => subB z k) by rw [HTK.out, List.any_append, ← hA.out]; simp [hq])
            have HB2 := Lib.hid (show (b && y) = (L.take (j + 1)).all (fun z => !(z &&& k == 0)) by rw [HTK.out, List.all_append, ← hB.out]; simp [hy])
            generalize z &&& k = x at hand hq2 hy2
            clear hcl q2 q3 hz hq hy HTK hA hB
            cases a <;> cases b <;> cases q <;> cases y
            all_goals
              go_wp2_with fail
              go_roundw
              case rel => exact ⟨j + 1, _, _, hjm, rfl, rfl, by go_num, HA2, HB2, hBe⟩
              case measure => simp [intOf]; omega
          · obtain rfl : j = m := by omega
            have hA2 := hA.out
            have hB2 := hB.out
            rw [List.take_of_length_le (by rw [HMM.out]; exact Nat.le_refl _)] at hA2 hB2
            rw [HAY.out k hk4] at hA2
            rw [HAL.out k hk4] at hB2
            have HA3 := Lib.hid hA2.symm
            have HB3 := Lib.hid hB2.symm
            have hM5 := Lib.hid (hM4.out.bel hBe.out)
            have hN5 := Lib.hid (hN4.out.below hBe.out)
            obtain ⟨c0, c1, c2⟩ := hM5.out.out.cs
            clear hA2 hB2 hA hB hBe hM4 hN4
            have haa : (!(a == a)) = false := by simp
            have hbb : (!(b == b)) = false := by simp
            go_wp2_with fail
            refine (rsat_run _ 4 T _ _ _ k _ hk4 hM5.out.tat).mono ?_
            rintro e W6 ⟨rfl, hb6⟩
            rw [HA3.out]
            have hM6 := Lib.hid (hM5.out.bel hb6)
            have hN6 := Lib.hid (hN5.out.below hb6)
            clear hb6 c0 c1 c2 hM5 hN5
            obtain ⟨c0, c1, c2⟩ := hM6.out.out.cs
            go_wp2_with fail
            refine (rblk_run _ 4 T _ _ _ k _ hk4 hM6.out.tat).mono ?_
            rintro e W7 ⟨rfl, hb7⟩
            rw [HB3.out]
            have hM7 := Lib.hid (hM6.out.bel hb7)
            have hN7 := Lib.hid (hN6.out.below hb7)
            clear hb7 c0 c1 c2 hM6 hN6
            go_wp2_with fail
            go_roundw
            case rel => exact ⟨i + 1, hlt, by go_num, hM7, hN7⟩
            case measure => simp [intOf]; omega
    · obtain rfl : i = 40 := by omega
      go_wp2_with fail
      refine (awake05 _).mono ?_
      rintro e W9 ⟨rfl, hb9⟩
      have HF := Lib.hid (hM.out.bel hb9).below
      clear hb9
      go_wp2_with fail
      go_ret
      exact ⟨rfl, HF.out⟩

end Go.Proofs.Ythbiopmfbnpmfaa
