/- The walk of DeletionQuorums. -/
import Derived.Test.YtcngpfffhjbiaaaDoorBase3
import Derived.Test.YtcngpfffhjbiaaaDoorCTwo
import Derived.Test.YtcngpfffhjbiaaaDoorQDelMath
import Derived.Deep.RegionHeld3
import Derived.Deep.DeepCutAuto
import Derived.Deep.CutRange
namespace Go.Proofs.YtcngpfffhjbiaaaDoor
set_option linter.unusedVariables false
set_option linter.unusedSimpArgs false
open Go.RowKit

set_option maxRecDepth 100000 in
set_option maxHeartbeats 8000000 in
theorem walkDeletionQuorums (a0 : Option Addr) (len0 cap0 : Nat) (z0 : List Int) (w : World) (w0 : IsRow .i64 w a0 len0 cap0 z0) :
    Calls Tryd.prog 6 #[.slice a0 len0 cap0] w fun e w' => e = .returned (.bool true) ∧ Below w.heap.size w w' := by
  have HR := Lib.hid w0
  clear w0
  go_enter Tryd.func6, Tryd.ntmps6
  go_wp2_with fail
  refine (TNew_run _ _ _ _ _ HR.out).mono ?_
  rintro e v0 ⟨rfl, hs0, hb0⟩
  have HS0 := Lib.hid hs0
  have HB0 := Lib.hid hb0
  have hsl := hs0.lt
  clear hs0 hb0
  go_wp2_with fail
  refine (config_run _ 8 (by omega) (by omega) _ HS0.out).mono ?_
  rintro e v2 ⟨cv, ms, rfl, hl1, hl8, hM, hok, hs2, hg2⟩
  obtain ⟨A, c, hcv⟩ := hM.slice
  subst hcv
  have hl2 : ms.length ≤ 10 := by omega
  have hba := balloc (bref v2) (.cells #[.slice A ms.length c] 40)
  have HM := Lib.hid (show CMade w v2.heap.size (.slice A ms.length c) ms (v2.alloc (.cells #[.slice A ms.length c] 40)) from
    ⟨hs2.alloc _, alloc_at rfl, (hM.both (Q := fun b => w.heap.size < b) (fun _ _ _ => rfl) (fun k _ hk => by omega)).below hba, hs2.lt, bstep (bgrownC HB0.out hg2 (Nat.le_refl _)) hba⟩)
  have HOK := Lib.hid hok
  clear hM hok hs2 hg2 hba HS0 HB0
  go_upto_region 3 with fail
  generalize v2.alloc (.cells #[.slice A ms.length c] 40) = W1 at *
  generalize v2.heap.size = g at *
  have hdl := declS_lt ms ms.length hl2
  obtain ⟨L, hL⟩ : ∃ L, ms.length = L := ⟨_, rfl⟩
  have HLL := Lib.hid hL
  have c0 := HM.out.cell
  have hsh := shl_nat (n := ms.length) hl2
  have HN := Lib.hid (show wrap64 ((2 : Int) ^ ms.length - 1) = ((2 ^ ms.length - 1 : Nat) : Int) ∧ 2 ^ ms.length - 1 < 256 by
    have all : ∀ n : Fin 9, wrap64 ((2 : Int) ^ n.val - 1) = ((2 ^ n.val - 1 : Nat) : Int) ∧ 2 ^ n.val - 1 < 256 := by decide +kernel
    exact all ⟨ms.length, by omega⟩)
  clear hL
  obtain ⟨N, hN⟩ : ∃ N, 2 ^ ms.length - 1 = N := ⟨_, rfl⟩
  rw [hN] at HN
  have hN0 := HN.out.1
  have hNl := HN.out.2
  go_wp2_with fail
  refine (TN_run _ _ _ (by omega) (by omega) HM.out.tape).mono ?_
  rintro e W2 ⟨r, hr0, hr1, rfl, hs2, hg2⟩
  obtain ⟨gr, rfl⟩ := Int.eq_ofNat_of_zero_le hr0
  have hM2 := Lib.hid (HM.out.grown hs2 hg2)
  clear hs2 hg2 HM c0
  have hand := i64_and_nat gr N (by omega) (by omega)
  have hgl : gr &&& N < 1024 := Nat.lt_of_le_of_lt Nat.and_le_right (by omega)
  obtain ⟨gn, hgn⟩ : ∃ x, gr &&& N = x := ⟨_, rfl⟩
  rw [hgn] at hand hgl
  clear hgn
  have c0 := hM2.out.cell
  go_wp2_with fail
  refine (pdelete_run _ ms _ gn _ hl2 hgl hM2.out.mems HOK.out).mono ?_
  rintro e W5 ⟨v5, rfl, hX5, hb5⟩
  obtain ⟨A5, c5, hv5⟩ := hX5.slice
  subst hv5
  have hba := balloc (bref W5) (.cells #[.slice A5 (delM gn ms).length c5] 40)
  have hlow := hM2.out.tape.lt
  have hgxl : w.heap.size < W5.heap.size := Nat.lt_of_lt_of_le hlow hb5.size
  have HT := Lib.hid (show CTwo w g (.slice A ms.length c) ms W5.heap.size (.slice A5 (delM gn ms).length c5) (delM gn ms) (W5.alloc (.cells #[.slice A5 (delM gn ms).length c5] 40)) from
    ⟨(hM2.out.bel hb5).bel hba, alloc_at rfl, (hX5.both (Q := fun q => w.heap.size < q) (fun _ _ _ => rfl) (fun q _ hq => by have : W2.heap.size ≤ q := hq; omega)).below hba⟩)
  have HOKD := Lib.hid (delM_ok (s := gn) HOK.out)
  have HDL := Lib.hid (delM_len gn ms)
  have HDD := Lib.hid (decl_del (ms := ms) hl2 hgl)
  have HCD := Lib.hid (fun q hq hsub hc => closed_del (s := gn) (q := q) hl2 hgl hq HOK.out hsub hc)
  have HQD := Lib.hid (fun y o b hy ho hys hb c hc => quor_del (s := gn) (y := y) (o := o) (b := b) hl2 hgl hy ho hys HOK.out hb c hc)
  rw [HDL.out] at HT
  clear hX5 hb5 hba hM2 hand hr0 hr1 c0
  go_upto_region 6 with fail
  rw [HDL.out]
  generalize W5.alloc (.cells #[.slice A5 ms.length c5] 40) = W6 at *
  generalize W5.heap.size = gx at *
  generalize delM gn ms = ds at *
  have hDl := declS_lt ds ds.length (by rw [HDL.out]; exact hl2)
  have hand6 := andNot_nat (declS ms ms.length) gn hdl hgl
  rw [show declS ms ms.length ^^^ (declS ms ms.length &&& gn) = declS ds ds.length from HDD.out.symm] at hand6
  have HD1 := Lib.hid (fun P W v (h : MemsAt P 2 W v ms) => rdeclared_run P 2 ms v W hl2 h)
  have HD2 := Lib.hid (fun P W v (h : MemsAt P 2 W v ds) => rdeclared_run P 2 ds v W (by rw [HDL.out]; exact hl2) h)
  obtain ⟨D, hD⟩ : ∃ x, declS ms ms.length = x := ⟨_, rfl⟩
  obtain ⟨E, hE⟩ : ∃ x, declS ds ds.length = x := ⟨_, rfl⟩
  rw [hD, hE] at hand6
  rw [hD] at HD1 hdl
  rw [hE] at HD2 hDl
  have HDE := Lib.hid hD
  have HEE := Lib.hid hE
  clear hD hE
  have hee : ((E : Int) != (E : Int)) = false := by simp
  have hll : ((ms.length : Int) != (ms.length : Int)) = false := by simp
  have hS := Lib.hid (HT.out.bel (W' := W6.drew) ⟨rfl, rfl, rfl, Nat.le_refl _, fun _ _ => rfl⟩).keeps
  go_region_held3 (fun W => W.cell? ⟨g, 0, none⟩ = some (.slice A ms.length c) ∧ W.cell? ⟨gx, 0, none⟩ = some (.slice A5 ms.length c5) ∧ CTwo w g (.slice A ms.length c) ms gx (.slice A5 ms.length c5) ds W) (first | exact hS.out | exact hSK | exact keepT (by assumption) hbK | go_keep)
    (first
      | (go_at_call 19; refine (rcvalid_run _ ds _ _ (by rw [HDL.out]; exact hl2) (by exact memsX (by assumption)) HOKD.out).mono ?_; rintro e WK ⟨rfl, hbK⟩; have hSK := keepT (by assumption) hbK)
      | (go_at_call_of 20 (Value.agg #[.slice A5 ms.length c5]); refine (HD2.out _ _ _ (by exact memsX (by assumption))).mono ?_; rintro e WK ⟨rfl, hbK⟩; have hSK := keepT (by assumption) hbK)
      | (go_at_call_of 20 (Value.agg #[.slice A ms.length c]); refine (HD1.out _ _ _ (by exact memsT (by assumption))).mono ?_; rintro e WK ⟨rfl, hbK⟩; have hSK := keepT (by assumption) hbK))
  all_goals
    have HC := Lib.hid hSK.2.2
    clear hSK hbK hS
    go_wp2_with fail
    go_loopw [8] (fun t W => ∃ i : Nat, i ≤ 12 ∧ t = .int .i64 i ∧ Hid (CTwo w g (.slice A ms.length c) ms gx (.slice A5 ms.length c5) ds W)) (fun t _ => 12 - (intOf t).toNat)
    case atStart => exact ⟨0, by omega, rfl, HC⟩
    case round =>
      obtain ⟨i, hi, rfl, hM⟩ := hrel
      clear HC HT
      by_cases hlt : i < 12
      · go_wp2_with fail
        refine (TN_run _ _ _ (by omega) (by omega) hM.out.made.tape).mono ?_
        rintro e W2 ⟨r, hr0, hr1, rfl, hs2, hg2⟩
        obtain ⟨xr, rfl⟩ := Int.eq_ofNat_of_zero_le hr0
        have hM2 := Lib.hid (hM.out.grown hgxl hs2 hg2)
        clear hs2 hg2 hM
        have handx := i64_and_nat xr N (by omega) (by omega)
        have hxl : xr &&& N < 1024 := Nat.lt_of_le_of_lt Nat.and_le_right (by omega)
        obtain ⟨x, hx⟩ : ∃ x, xr &&& N = x := ⟨_, rfl⟩
        rw [hx] at handx hxl
        clear hx hr0 hr1
        have c0 := hM2.out.made.cell
        go_wp2_with fail
        refine (rgreatest_run _ 2 ms _ x _ hl2 hxl hM2.out.made.mems).mono ?_
        rintro e W3 ⟨q, rfl, hql, hgr, hb3⟩
        have hM3 := Lib.hid (hM2.out.bel hb3)
        have HGS := Lib.hid (show Sub q (declS ms ms.length) from fun k hk => (sub_and.1 hgr.sub).2 k hk)
        have HGC := Lib.hid hgr.closed
        clear hb3 hM2 c0 hgr
        have hanq := andNot_nat q gn hql hgl
        rw [show q ^^^ (q &&& gn) = minS q gn from rfl] at hanq
        have hml := minS_lt (s := gn) hql
        have HMC := Lib.hid (HCD.out q hql HGS.out HGC.out)
        have HMS := Lib.hid (show Sub (minS q gn) (declS ds ds.length) from fun k hk => by
          rw [HDD.out, minS_bit]
          rw [minS_bit, Bool.and_eq_true] at hk
          rw [HGS.out k hk.1, hk.2]; rfl)
        obtain ⟨y1, hy1⟩ : ∃ y, minS q gn = y := ⟨_, rfl⟩
        rw [hy1] at hanq hml HMC HMS
        clear hy1
        have hanx := andNot_nat x gn hxl hgl
        rw [show x ^^^ (x &&& gn) = minS x gn from rfl] at hanx
        have hyl := minS_lt (s := gn) hxl
        have HYS := Lib.hid (show ∀ k, (minS x gn).testBit k = true → gn.testBit k = false from fun k hk => by
          rw [minS_bit, Bool.and_eq_true] at hk
          simpa using hk.2)
        obtain ⟨y, hy⟩ : ∃ y, minS x gn = y := ⟨_, rfl⟩
        rw [hy] at hanx hyl HYS
        clear hy
        go_upto_region 13 with fail
        go_cut [73] (fun u W => u = .bool false ∧ Hid (CTwo w g (.slice A ms.length c) ms gx (.slice A5 ms.length c5) ds W))
        case first =>
          have d0 := cell_of_row W3 gx 0 _ _ (0, 0) hM3.out.outX
          by_cases z1 : y1 = 0
          · have hz1 : ((y1 : Int) != 0) = false := by rw [z1]; rfl
            clear z1
            go_wp2_with fail
            go_meet
            exact ⟨rfl, hM3⟩
          · have hz1 : ((y1 : Int) != 0) = true := by simpa using z1
            go_wp2_with fail
            refine (rquorum_run _ 2 ds _ y1 _ (by rw [HDL.out]; exact hl2) hml hM3.out.memX).mono ?_
            rintro e W5 ⟨b, rfl, hb, hb5⟩
            obtain rfl : b = true := hb.2 ⟨z1, HMS.out, HMC.out⟩
            have hM5 := Lib.hid (hM3.out.bel hb5)
            clear hb hb5
            go_wp2_with fail
            go_meet
            exact ⟨rfl, hM5⟩
        case rest =>
          obtain ⟨rfl, hM5⟩ := hcut
          clear hM3 HMC HMS
          go_upto_region 16 with fail
          have c0 := hM5.out.made.cell
          go_cut [12] (fun u W => ∃ b : Bool, u = .bool b ∧ Hid (b = true ↔ y ≠ 0 ∧ Sub y (declS ms ms.length)) ∧ Hid (CTwo w g (.slice A ms.length c) ms gx (.slice A5 ms.length c5) ds W))
          case first =>
            by_cases z2 : y = 0
            · have hz2 : ((y : Int) != 0) = false := by rw [z2]; rfl
              have HF := Lib.hid (show false = true ↔ y ≠ 0 ∧ Sub y (declS ms ms.length) by simp [z2])
              clear z2
              go_wp2_with fail
              go_meet
              exact ⟨false, rfl, HF, hM5⟩
            · have hz2 : ((y : Int) != 0) = true := by simpa using z2
              have handy := i64_and_nat y D (by omega) (by omega)
              have HSE := Lib.hid (sub_and_eq (y := y) (D := declS ms ms.length))
              rw [HDE.out] at HSE
              obtain ⟨yd, hyd⟩ : ∃ x, y &&& D = x := ⟨_, rfl⟩
              rw [hyd] at handy HSE
              clear hyd
              by_cases z3 : yd = y
              · have hz3 : ((yd : Int) == (y : Int)) = true := by rw [z3]; simp
                have HF := Lib.hid (show true = true ↔ y ≠ 0 ∧ Sub y (declS ms ms.length) by rw [HDE.out]; simp [z2, HSE.out.1 z3])
                go_wp2_with fail
                refine (HD1.out _ _ _ hM5.out.made.mems).mono ?_
                rintro e W6 ⟨rfl, hb6⟩
                have hM6 := Lib.hid (hM5.out.bel hb6)
                clear hb6 c0 z3
                go_wp2_with fail
                go_meet
                exact ⟨true, rfl, Lib.hid (by simpa using HF.out), hM6⟩
              · have hz3 : ((yd : Int) == (y : Int)) = false := by rw [beq_eq_false_iff_ne]; omega
                have HF := Lib.hid (show false = true ↔ y ≠ 0 ∧ Sub y (declS ms ms.length) by
                  rw [HDE.out]
                  simp only [Bool.false_eq_true, false_iff, not_and]
                  intro _ h
                  exact z3 (HSE.out.2 h))
                go_wp2_with fail
                refine (HD1.out _ _ _ hM5.out.made.mems).mono ?_
                rintro e W6 ⟨rfl, hb6⟩
                have hM6 := Lib.hid (hM5.out.bel hb6)
                clear hb6 c0 z3
                go_wp2_with fail
                go_meet
                exact ⟨false, rfl, HF, hM6⟩
          case rest =>
            clear c0
            obtain ⟨ball, rfl, HBL, hM6⟩ := hcut
            have c0 := hM6.out.made.cell
            have hory := i64_or_nat y gn (by omega) (by omega)
            have hol : y ||| gn < 1024 := Nat.or_lt_two_pow (n := 10) hyl hgl
            obtain ⟨o, ho⟩ : ∃ o, y ||| gn = o := ⟨_, rfl⟩
            rw [ho] at hory hol
            have HOO := Lib.hid ho
            clear ho hM5
            go_wp2_with fail
            clear c0
            go_loopw [12, 90] (fun u t W => ∃ k : Nat, k ≤ ms.length ∧ u = .bool (allF ms y o ball k) ∧ t = .int .i64 k ∧ Hid (CTwo w g (.slice A ms.length c) ms gx (.slice A5 ms.length c5) ds W)) (fun _ t _ => ms.length - (intOf t).toNat)
            case atStart => exact ⟨0, Nat.zero_le _, rfl, rfl, hM6⟩
            case round =>
              clear hM6
              obtain ⟨k, hk, rfl, rfl, hM7⟩ := hrel
              have HAF := Lib.hid (show allF ms y o ball (k + 1) = (allF ms y o ball k && !(y.testBit k && !satB 2 (trOf ms k) (o : Int))) from rfl)
              obtain ⟨ak, hak⟩ : ∃ b, allF ms y o ball k = b := ⟨_, rfl⟩
              rw [hak] at HAF ⊢
              have HAK := Lib.hid hak
              clear hak
              by_cases hlk : k < ms.length
              · have hbf := bit_fact y k (by omega)
                have hkc : (k : Int) < 64 := by omega
                cases hyb : y.testBit k
                · rw [hyb] at hbf HAF
                  rw [Bool.false_and, Bool.not_false, Bool.and_true] at HAF
                  go_wp2_with fail
                  go_roundw
                  case rel => exact ⟨k + 1, hlk, by rw [HAF.out], by go_num, hM7⟩
                  case measure => simp [intOf]; omega
                · rw [hyb] at hbf HAF
                  rw [Bool.true_and] at HAF
                  obtain ⟨m, hm⟩ : ∃ m, ms[k]? = some m := ⟨_, List.getElem?_eq_getElem hlk⟩
                  have htr := trOf_get hm
                  rw [htr] at HAF
                  obtain ⟨A', c', hv, hc⟩ := hM7.out.made.mems
                  injection hv with hv1 hv2 hv3
                  subst hv1
                  obtain ⟨b, off, x0, x1, x2, rfl, hPb, e0, e1, e2, e3, hTk⟩ := hc k m hm
                  obtain ⟨t', A1, n1, c1, B1, m1, c1', rfl, rfl, rfl⟩ := hTk.form
                  have c0 := hM7.out.made.cell
                  have HTK := Lib.hid hTk
                  clear hc hm hv2 hv3 hTk htr
                  generalize m.2 = T at *
                  obtain ⟨sb, hsb⟩ : ∃ b, satB 2 T (o : Int) = b := ⟨_, rfl⟩
                  rw [hsb] at HAF
                  have HSB := Lib.hid hsb
                  clear hsb
                  go_wp2_with fail
                  refine (rsat_run _ 2 T _ _ _ o _ hol HTK.out).mono ?_
                  rintro e W8 ⟨rfl, hb8⟩
                  rw [HSB.out]
                  have hM8 := Lib.hid (hM7.out.bel hb8)
                  clear hb8 e0 e1 e2 e3 c0
                  rcases (show sb = true ∨ sb = false by cases sb <;> simp) with rfl | rfl
                  · go_wp2_with fail
                    go_roundw
                    case rel => exact ⟨k + 1, hlk, by rw [HAF.out]; simp, by go_num, hM8⟩
                    case measure => simp [intOf]; omega
                  · go_wp2_with fail
                    go_roundw
                    case rel => exact ⟨k + 1, hlk, by rw [HAF.out]; simp, by go_num, hM8⟩
                    case measure => simp [intOf]; omega
              · obtain rfl : k = ms.length := by omega
                have d0 := cell_of_row wr gx 0 _ _ (0, 0) hM7.out.outX
                go_wp2_with fail
                refine (rquorum_run _ 2 ds _ y _ (by rw [HDL.out]; exact hl2) hyl hM7.out.memX).mono ?_
                rintro e W8 ⟨b, rfl, hb, hb8⟩
                have hbq := HQD.out y o b hyl HOO.out HYS.out hb ball HBL.out
                have hM8 := Lib.hid (hM7.out.bel hb8)
                rw [HAK.out] at hbq
                subst hbq
                clear hb8 hb d0
                rcases (show b = true ∨ b = false by cases b <;> simp) with rfl | rfl
                · go_wp2_with fail
                  go_roundw
                  case rel => exact ⟨i + 1, hlt, by go_num, hM8⟩
                  case measure => simp [intOf]; omega
                · go_wp2_with fail
                  go_roundw
                  case rel => exact ⟨i + 1, hlt, by go_num, hM8⟩
                  case measure => simp [intOf]; omega
      · obtain rfl : i = 12 := by omega
        go_wp2_with fail
        refine (awake13 _).mono ?_
        rintro e W5 ⟨rfl, hb5⟩
        have HB5 := Lib.hid (bstep hM.out.made.below hb5)
        clear hb5
        go_wp2_with fail
        go_ret
        exact ⟨rfl, HB5.out⟩
end Go.Proofs.YtcngpfffhjbiaaaDoor
