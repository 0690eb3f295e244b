/- The walk of DeletionTwice. -/
import Derived.Test.YtcngpfffhjbiaaaDoorBase3
import Derived.Test.YtcngpfffhjbiaaaDoorCTwo
import Derived.Deep.RegionHeld3
import Derived.Deep.DeepCutAuto
import Derived.Deep.CutRange
namespace Go.Proofs.YtcngpfffhjbiaaaDoor
set_option linter.unusedVariables false
set_option linter.unusedSimpArgs false
open Go.RowKit

set_option maxRecDepth 100000 in
set_option maxHeartbeats 4000000 in
theorem walkDeletionTwice (a0 : Option Addr) (len0 cap0 : Nat) (z0 : List Int) (w : World) (w0 : IsRow .i64 w a0 len0 cap0 z0) :
    Calls Tryd.prog 5 #[.slice a0 len0 cap0] w fun e w' => e = .returned (.bool true) ∧ Below w.heap.size w w' := by
  have HR := Lib.hid w0
  clear w0
  go_enter Tryd.func5, Tryd.ntmps5
  go_wp2_with fail
  refine (TNew_run _ _ _ _ _ HR.out).mono ?_
  rintro e v0 ⟨rfl, hs0, hb0⟩
  have HS0 := Lib.hid hs0
  have HB0 := Lib.hid hb0
  have hsl := hs0.lt
  clear hs0 hb0
  go_wp2_with fail
  refine (config_run _ 10 (by omega) (by omega) _ HS0.out).mono ?_
  rintro e v2 ⟨cv, ms, rfl, hl1, hl2, hM, hok, hs2, hg2⟩
  obtain ⟨A, nm, c, hcv⟩ : ∃ A n c, cv = .slice A n c := by
    obtain ⟨A, c, h1, _⟩ := hM
    exact ⟨A, _, c, h1⟩
  subst hcv
  have hba := balloc (bref v2) (.cells #[.slice A nm c] 40)
  have HM := Lib.hid (show CMade w v2.heap.size (.slice A nm c) ms (v2.alloc (.cells #[.slice A nm c] 40)) from
    ⟨hs2.alloc _, alloc_at rfl, (hM.both (Q := fun b => w.heap.size < b) (fun _ _ _ => rfl) (fun k _ hk => by omega)).below hba, hs2.lt, bstep (bgrownC HB0.out hg2 (Nat.le_refl _)) hba⟩)
  have HOK := Lib.hid hok
  clear hM hok hs2 hg2 hba HS0 HB0
  go_upto_region 3 with fail
  generalize v2.alloc (.cells #[.slice A nm c] 40) = W1 at *
  generalize v2.heap.size = g at *
  go_wp2_with fail
  refine (TN_run _ _ _ (by omega) (by omega) HM.out.tape).mono ?_
  rintro e W2 ⟨r, hr0, hr1, rfl, hs2, hg2⟩
  obtain ⟨a, rfl⟩ := Int.eq_ofNat_of_zero_le hr0
  have hM2 := Lib.hid (HM.out.grown hs2 hg2)
  clear hs2 hg2
  go_wp2_with fail
  refine (TN_run _ _ _ (by omega) (by omega) hM2.out.tape).mono ?_
  rintro e W3 ⟨r, hr2, hr3, rfl, hs2, hg2⟩
  obtain ⟨b, rfl⟩ := Int.eq_ofNat_of_zero_le hr2
  have hM3 := Lib.hid (hM2.out.grown hs2 hg2)
  clear hs2 hg2 hM2 HM
  have ha : a < 1024 := by omega
  have hb : b < 1024 := by omega
  have c0 := hM3.out.cell
  go_wp2_with fail
  refine (pdelete_run _ ms _ a _ hl2 ha hM3.out.mems HOK.out).mono ?_
  rintro e W4 ⟨v4, rfl, hX4, hb4⟩
  have hM4 := Lib.hid (hM3.out.bel hb4)
  have HX4 := Lib.hid hX4
  have HOK4 := Lib.hid (delM_ok (s := a) HOK.out)
  have hz4 := hb4.size
  clear hX4 hb4 c0
  go_wp2_with fail
  refine (pdelete_run _ (delM a ms) _ b _ (by rw [delM_len]; exact hl2) hb HX4.out HOK4.out).mono ?_
  rintro e W5 ⟨v5, rfl, hX5, hb5⟩
  rw [delM_twice ha hb HOK.out] at hX5
  obtain ⟨A5, n5, c5, hv5⟩ : ∃ A n c, v5 = .slice A n c := by
    obtain ⟨A, c, h1, _⟩ := hX5
    exact ⟨A, _, c, h1⟩
  subst hv5
  have hba := balloc (bref W5) (.cells #[.slice A5 n5 c5] 40)
  have hlow := hM3.out.tape.lt
  have HT := Lib.hid (show CTwo w g (.slice A nm c) ms W5.heap.size (.slice A5 n5 c5) (delM (a ||| b) ms) (W5.alloc (.cells #[.slice A5 n5 c5] 40)) from
    ⟨(hM4.out.bel hb5).bel hba, alloc_at rfl, (hX5.both (Q := fun q => w.heap.size < q) (fun _ _ _ => rfl) (fun q _ hq => by have : W4.heap.size ≤ q := hq; omega)).below hba⟩)
  have hor := i64_or_nat a b (by omega) (by omega)
  have hab : a ||| b < 1024 := Nat.or_lt_two_pow (n := 10) ha hb
  have HOKB := Lib.hid (delM_ok (s := b) HOK.out)
  have HBA := Lib.hid (show delM a (delM b ms) = delM (a ||| b) ms by rw [delM_twice hb ha HOK.out, Nat.or_comm])
  have HZ := Lib.hid (delM_zero HOK.out)
  obtain ⟨o, ho⟩ : ∃ o, a ||| b = o := ⟨_, rfl⟩
  rw [ho] at hor hab HBA HT
  clear ho hX5 hb5 hba hM4 hM3 HX4 HOK4
  go_upto_region 5 with fail
  generalize W5.alloc (.cells #[.slice A5 n5 c5] 40) = W6 at *
  generalize W5.heap.size = gx at *
  have hS := Lib.hid (HT.out.bel (W' := W6.drew) ⟨rfl, rfl, rfl, Nat.le_refl _, fun _ _ => rfl⟩).keeps
  go_region_held3 (fun W => W.cell? ⟨g, 0, none⟩ = some (.slice A nm c) ∧ W.cell? ⟨gx, 0, none⟩ = some (.slice A5 n5 c5) ∧ CTwo w g (.slice A nm c) ms gx (.slice A5 n5 c5) (delM o ms) W) (first | exact hS.out | exact hSK | exact keepT (by assumption) hbK | go_keep)
    (first
      | (go_at_call_of 17 (Value.int .i64 (o : Int)); refine (pdelete_run _ ms _ o _ hl2 hab (by exact memsT (by assumption)) HOK.out).mono ?_; rintro e WK ⟨vK, rfl, hXo, hbK⟩; have hSK := keepT (by assumption) hbK)
      | (go_at_call_of 17 (Value.int .i64 (b : Int)); refine (pdelete_run _ ms _ b _ hl2 hb (by exact memsT (by assumption)) HOK.out).mono ?_; rintro e WK ⟨vK, rfl, hXb, hbK⟩; have hSK := keepT (by assumption) hbK)
      | (go_at_call_of 17 (Value.int .i64 (a : Int)); refine (pdelete_run _ (delM b ms) _ a _ (by rw [delM_len]; exact hl2) ha (by exact hXb) HOKB.out).mono ?_; rintro e WK ⟨vK, rfl, hXo, hbK⟩; rw [HBA.out] at hXo; have hSK := keepT (by assumption) hbK)
      | (go_at_call_of 17 (Value.int .i64 0); refine (pdelete_run _ ms _ 0 _ hl2 (by omega) (by exact memsT (by assumption)) HOK.out).mono ?_; rintro e WK ⟨vK, rfl, hXz, hbK⟩; rw [HZ.out] at hXz; have hSK := keepT (by assumption) hbK)
      | (go_at_call 18; refine (rcsame_run 2 _ _ (delM o ms) _ _ _ (by rw [delM_len]; omega) (by exact memsX (by assumption)) (by exact hXo)).mono ?_; rintro e WK ⟨rfl, hbK⟩; have hSK := keepT (by assumption) hbK)
      | (go_at_call 18; refine (rcsame_run 2 _ _ ms _ _ _ (by omega) (by exact hXz) (by exact memsT (by assumption))).mono ?_; rintro e WK ⟨rfl, hbK⟩; have hSK := keepT (by assumption) hbK)
      | (go_at_call 13; refine (awake13 _).mono ?_; rintro e WK ⟨rfl, hbK⟩; have hSK := keepT (by assumption) hbK))
  all_goals
    have HBF := Lib.hid hSK.2.2.made.below
    go_wp2_with fail
    go_ret
    exact ⟨rfl, HBF.out⟩
end Go.Proofs.YtcngpfffhjbiaaaDoor
