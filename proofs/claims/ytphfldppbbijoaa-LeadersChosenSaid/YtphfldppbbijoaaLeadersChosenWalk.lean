/- The walk of LeadersChosen: the leader is a neighbour, no neighbour has a greater hash, and it is the node itself or one that its trust uses. -/
import Derived.Test.YtphfldppbbijoaaLead3
import Derived.Deep.DeepCutAuto
import Derived.Deep.CutRange
namespace Go.Proofs.Ytphfldppbbijoaa
set_option linter.unusedVariables false
open Go.RowKit

theorem chFold_inv (nb : Int → Bool) (pr : Int → Int) (v : Int) (hpr : ∀ u, 0 ≤ pr u) : ∀ k,
    (chFold nb pr v k = (v, 0) ∧ ∀ u : Nat, u < k → nb u = false) ∨
      (nb (chFold nb pr v k).1 = true ∧ pr (chFold nb pr v k).1 = (chFold nb pr v k).2 ∧ (chFold nb pr v k).1 < k ∧ ∀ u : Nat, u < k → nb u = true → pr u ≤ (chFold nb pr v k).2 ∧ (pr u = (chFold nb pr v k).2 → (u : Int) ≤ (chFold nb pr v k).1))
  | 0 => .inl ⟨rfl, fun u hu => by omega⟩
  | k + 1 => by
    rw [chFold_succ]
    unfold chStep
    rcases chFold_inv nb pr v hpr k with ⟨h1, h2⟩ | ⟨h1, h2, h4, h3⟩
    · rw [h1]
      by_cases hk : nb k = true
      · rw [if_pos ⟨hk, hpr _⟩]
        right
        refine ⟨hk, rfl, by show (k : Int) < ((k + 1 : Nat) : Int); omega, fun u hu hn => ?_⟩
        rcases Nat.lt_or_ge u k with h | h
        · rw [h2 u h] at hn; cases hn
        · obtain rfl : u = k := by omega
          exact ⟨Int.le_refl _, fun _ => Int.le_refl _⟩
      · rw [if_neg (fun h => hk h.1)]
        left
        refine ⟨rfl, fun u hu => ?_⟩
        rcases Nat.lt_or_ge u k with h | h
        · exact h2 u h
        · obtain rfl : u = k := by omega
          simpa using hk
    · right
      generalize chFold nb pr v k = q at *
      by_cases hk : nb k = true ∧ q.2 ≤ pr k
      · rw [if_pos hk]
        refine ⟨hk.1, rfl, by show (k : Int) < ((k + 1 : Nat) : Int); omega, fun u hu hn => ?_⟩
        rcases Nat.lt_or_ge u k with h | h
        · obtain ⟨g1, g2⟩ := h3 u h hn
          exact ⟨Int.le_trans g1 hk.2, fun _ => by show (u : Int) ≤ (k : Int); omega⟩
        · obtain rfl : u = k := by omega
          exact ⟨Int.le_refl _, fun _ => Int.le_refl _⟩
      · rw [if_neg hk]
        refine ⟨h1, h2, by omega, fun u hu hn => ?_⟩
        rcases Nat.lt_or_ge u k with h | h
        · exact h3 u h hn
        · obtain rfl : u = k := by omega
          have hlt : pr u < q.2 := by
            rcases Int.lt_or_le (pr u) q.2 with h4 | h4
            · exact h4
            · exact (hk ⟨hn, h4⟩).elim
          exact ⟨by omega, fun e => by omega⟩
theorem choose_spec {d : Nat} {T : Tree} {v s r : Int} (h0 : 0 ≤ v) (h1 : v < 10) : nbB d T v s r (chooseV d T v s r) = true ∧
    ∀ u : Nat, u < 10 → nbB d T v s r u = true → hashV 2 s r u ≤ hashV 2 s r (chooseV d T v s r) ∧ (hashV 2 s r u = hashV 2 s r (chooseV d T v s r) → (u : Int) ≤ chooseV d T v s r) := by
  have hv : nbB d T v s r v = true := by unfold nbB; rw [if_pos rfl]
  rcases chFold_inv (nbB d T v s r) (hashV 2 s r) v (fun u => (hashV_bound 2 s r u).1) 10 with ⟨_, h3⟩ | ⟨h3, h4, _, h5⟩
  · obtain ⟨V, rfl⟩ := Int.eq_ofNat_of_zero_le h0
    rw [h3 V (by omega)] at hv; cases hv
  · refine ⟨h3, fun u hu hn => ?_⟩
    have := h5 u hu hn
    rw [← h4] at this
    exact this
theorem nb_uses {n : Int} (hn : n ≤ 10) {d : Nat} {T : Tree} (w : WF n d T) {v s r x : Int} (hx : x ≠ v) (h : nbB d T v s r x = true) : hasB ((usesT d T : Nat) : Int) x = true := by
  rw [← weight_uses hn x d T w]
  unfold nbB at h
  rw [if_neg hx] at h
  cases hw : weightT d T x with
  | none => rw [hw] at h; cases h
  | some p => rfl

set_option maxRecDepth 100000 in
set_option maxHeartbeats 4000000 in
theorem walkLeadersChosen (a0 : Option Addr) (len0 cap0 : Nat) (z0 : List Int) (w : World) (w0 : IsRow .i64 w a0 len0 cap0 z0) :
    Calls Try.prog 3 #[.slice a0 len0 cap0] w fun e w' => e = .returned (.bool true) ∧ Below w.heap.size w w' := by
  have HR := Lib.hid w0
  clear w0
  go_enter Try.func3, Try.ntmps3
  go_wp2_with fail
  refine (TNew_run _ _ _ _ _ HR.out).mono ?_
  rintro e v0 ⟨rfl, hs0, hb0⟩
  have HS0 := Lib.hid hs0
  have HB0 := Lib.hid hb0
  clear hs0 hb0
  go_wp2_with fail
  refine (TRange_run _ _ _ _ (by omega) (by omega) (by omega) HS0.out).mono ?_
  rintro e v1 ⟨r, hr0, hr1, rfl, hs1, hg1⟩
  obtain ⟨n, rfl⟩ := Int.eq_ofNat_of_zero_le (show 0 ≤ r by omega)
  have HS1 := Lib.hid hs1
  have HB1 := Lib.hid (bgrownT HB0.out hg1 (Nat.le_refl _))
  have hsl := hs1.lt
  clear hs1 hg1
  go_wp2_with fail
  refine (mkTrust_run _ n (by omega) (by omega) 2 (by omega) _ HS1.out).mono ?_
  rintro e v2 ⟨x0, x1, x2, T, rfl, hT, hF, hs2, hg2⟩
  obtain ⟨t', A', n', ca, B', m', cb, rfl, rfl, rfl⟩ := hT.form
  have hMA : MadeAt w v2.heap.size 3 t' (.slice A' n' ca) (.slice B' m' cb) T (v2.alloc (.cells #[.int .i64 t', .slice A' n' ca, .slice B' m' cb] 27)) :=
    ⟨hs2.alloc _, heap_alloc_new _ _, (hT.imp (fun k _ hk => by omega)).below (balloc (bref _) _), hs2.lt, balloc (bgrownT HB1.out hg2 (Nat.le_refl _)) _⟩
  have HM := Lib.hid hMA
  have HW := Lib.hid hF.1
  have HZ := Lib.hid hF.2
  have hn10 : (n : Int) ≤ 10 := hr1
  clear hT hF hs2 hg2 hMA HS1 HB1 HS0 HB0
  go_upto_region 3 with fail
  generalize v2.alloc (.cells #[.int .i64 t', .slice A' n' ca, .slice B' m' cb] 27) = W1 at *
  generalize v2.heap.size = g at *
  go_wp2_with fail
  refine (TN_run _ _ _ (by omega) (by omega) HM.out.tape).mono ?_
  rintro e W2 ⟨vv, hv0, hv1, rfl, hs2, hg2⟩
  have HM2 := Lib.hid (HM.out.grown hs2 hg2)
  clear hs2 hg2 HM
  go_wp2_with fail
  refine (TN_run _ _ _ (by omega) (by omega) HM2.out.tape).mono ?_
  rintro e W3 ⟨ss, hs0, hs1, rfl, hs2, hg2⟩
  have HM3 := Lib.hid (HM2.out.grown hs2 hg2)
  clear hs2 hg2 HM2
  go_wp2_with fail
  refine (TRange_run _ _ _ _ (by omega) (by omega) (by omega) HM3.out.tape).mono ?_
  rintro e W4 ⟨r, hm0, hm1, rfl, hs2, hg2⟩
  obtain ⟨m, rfl⟩ := Int.eq_ofNat_of_zero_le (show 0 ≤ r by omega)
  have HM4 := Lib.hid (HM3.out.grown hs2 hg2)
  clear hs2 hg2 HM3
  obtain ⟨hc0, hc1⟩ := chooseV_in 3 T vv ss (m : Int) hv0 hv1
  obtain ⟨hcn, hcm⟩ := choose_spec (d := 3) (T := T) (s := ss) (r := (m : Int)) hv0 hv1
  have HCM := Lib.hid hcm
  have hnv : nbB 3 T vv ss (m : Int) vv = true := by unfold nbB; rw [if_pos rfl]
  have HNV := Lib.hid hnv
  have HCN := Lib.hid hcn
  have HCU := Lib.hid (fun (h : chooseV 3 T vv ss (m : Int) ≠ vv) => nb_uses hn10 HW.out h hcn)
  clear hcm hnv hcn
  obtain ⟨c0, c1, c2⟩ := HM4.out.out.cs
  go_wp2_with fail
  refine (pchoose_run n hn10 3 (by omega) _ T vv ss (m : Int) _ _ _ _ HM4.out.tat HW.out HZ.out hv0 hv1 hs0 (by omega) (by omega) (by omega)).mono ?_
  rintro e W5 ⟨rfl, hb5⟩
  have hM5 := Lib.hid (HM4.out.bel hb5)
  clear hb5 c0 c1 c2 HM4
  generalize chooseV 3 T vv ss (m : Int) = ch at *
  obtain ⟨c0, c1, c2⟩ := hM5.out.out.cs
  go_upto_region 5 with fail
  go_cut [62] (fun u W => u = .bool false ∧ Hid (MadeAt w g 3 t' (.slice A' n' ca) (.slice B' m' cb) T W))
  case first =>
    go_wp2_with fail
    refine (pneighbour_run n hn10 3 (by omega) _ T vv ss (m : Int) ch _ _ _ _ hM5.out.tat HW.out HZ.out hv0 hv1 hs0 (by omega) (by omega) (by omega) hc0 hc1).mono ?_
    rintro e W6 ⟨rfl, hb6⟩
    rw [HCN.out]
    have hM6 := Lib.hid (hM5.out.bel hb6)
    clear hb6 c0 c1 c2 hM5
    obtain ⟨c0, c1, c2⟩ := hM6.out.out.cs
    go_wp2_with fail
    refine (pneighbour_run n hn10 3 (by omega) _ T vv ss (m : Int) vv _ _ _ _ hM6.out.tat HW.out HZ.out hv0 hv1 hs0 (by omega) (by omega) (by omega) hv0 hv1).mono ?_
    rintro e W7 ⟨rfl, hb7⟩
    rw [HNV.out]
    have hM7 := Lib.hid (hM6.out.bel hb7)
    clear hb7 c0 c1 c2 hM6
    obtain ⟨c0, c1, c2⟩ := hM7.out.out.cs
    by_cases hcv : ch = vv
    · subst hcv
      go_wp2_with fail
      go_meet
      exact ⟨rfl, hM7⟩
    · have HU := Lib.hid (HCU.out hcv)
      have hbne : (ch != vv) = true := by simpa using hcv
      go_wp2_with fail
      refine (ruses_run _ 3 T _ _ _ _ hM7.out.tat).mono ?_
      rintro e W8 ⟨rfl, hb8⟩
      have hM8 := Lib.hid (hM7.out.bel hb8)
      clear hb8 c0 c1 c2 hM7
      generalize usesT 3 T = us at *
      go_wp2_with fail
      refine (rhas_run _ _ _).mono ?_
      rintro e W9 ⟨rfl, rfl⟩
      rw [HU.out]
      go_wp2_with fail
      go_meet
      exact ⟨rfl, hM8⟩
  case rest =>
    obtain ⟨rfl, hM8⟩ := hcut
    clear c0 c1 c2 hM5
    go_wp2_with fail
    go_loopw [10] (fun t W => ∃ k : Nat, k ≤ 10 ∧ t = .int .i64 k ∧ Hid (MadeAt w g 3 t' (.slice A' n' ca) (.slice B' m' cb) T W)) (fun t _ => 10 - (intOf t).toNat)
    case atStart => exact ⟨0, by omega, rfl, hM8⟩
    case round =>
      obtain ⟨k, hk, rfl, hM⟩ := hrel
      by_cases hlt : k < 10
      · obtain ⟨c0, c1, c2⟩ := hM.out.out.cs
        have hspec := Lib.hid (HCM.out k hlt)
        go_wp2_with fail
        refine (pneighbour_run n hn10 3 (by omega) _ T vv ss (m : Int) (k : Int) _ _ _ _ hM.out.tat HW.out HZ.out hv0 hv1 hs0 (by omega) (by omega) (by omega) (by omega) (by omega)).mono ?_
        rintro e W9 ⟨rfl, hb9⟩
        have hM9 := Lib.hid (hM.out.bel hb9)
        clear hb9 c0 c1 c2 hM
        cases hnb : nbB 3 T vv ss (m : Int) (k : Int)
        · go_wp2_with fail
          go_roundw
          case rel => exact ⟨k + 1, by omega, by go_num, hM9⟩
          case measure => simp [intOf]; omega
        · obtain ⟨q1, q2⟩ := hspec.out hnb
          clear hspec hnb
          go_wp2_with fail
          refine (hash_run _ _ _ _ _).mono ?_
          rintro e W10 ⟨rfl, rfl⟩
          go_wp2_with fail
          refine (hash_run _ _ _ _ _).mono ?_
          rintro e W10 ⟨rfl, rfl⟩
          generalize hk1 : hashV 2 ss (m : Int) (k : Int) = ha at *
          generalize hk2 : hashV 2 ss (m : Int) ch = hb at *
          have HK1 := Lib.hid hk1
          have HK2 := Lib.hid hk2
          clear hk1 hk2
          by_cases hgt : ch < (k : Int)
          · have hne : ha ≠ hb := fun e => by have := q2 e; omega
            clear q2
            go_wp2_with fail
            refine (hash_run _ _ _ _ _).mono ?_
            rintro e W10 ⟨rfl, rfl⟩
            go_wp2_with fail
            refine (hash_run _ _ _ _ _).mono ?_
            rintro e W10 ⟨rfl, rfl⟩
            rw [HK1.out, HK2.out]
            have hnb2 : (ha == hb) = false := by simpa using hne
            go_wp2_with fail
            go_roundw
            case rel => exact ⟨k + 1, by omega, by go_num, hM9⟩
            case measure => simp [intOf]; omega
          · clear q2
            go_wp2_with fail
            go_roundw
            case rel => exact ⟨k + 1, by omega, by go_num, hM9⟩
            case measure => simp [intOf]; omega
      · obtain rfl : k = 10 := by omega
        go_wp2_with fail
        refine (awake21 _).mono ?_
        rintro e Z ⟨rfl, hbz⟩
        go_wp2_with fail
        go_ret
        exact ⟨rfl, bstep hM.out.below hbz⟩
end Go.Proofs.Ytphfldppbbijoaa
