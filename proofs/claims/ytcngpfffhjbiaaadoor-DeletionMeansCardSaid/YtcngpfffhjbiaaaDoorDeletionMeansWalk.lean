/- The walk of DeletionMeans. -/
import Derived.Test.YtcngpfffhjbiaaaDoorDeletionGrowsWalk
import Derived.Test.YtcngpfffhjbiaaaDoorBase3
namespace Go.Proofs.YtcngpfffhjbiaaaDoor
set_option linter.unusedVariables false
set_option linter.unusedSimpArgs false
open Go.RowKit

theorem sum_le_of {α : Type} (f g : α → Nat) : ∀ (l : List α), (∀ x ∈ l, f x ≤ g x) → (l.map f).sum ≤ (l.map g).sum
  | [], _ => Nat.le_refl _
  | x :: l, h => by
    rw [List.map_cons, List.map_cons, List.sum_cons, List.sum_cons]
    have := h x List.mem_cons_self
    have := sum_le_of f g l (fun y hy => h y (List.mem_cons_of_mem _ hy))
    omega
theorem sum_filter_le {α : Type} (f : α → Nat) (p : α → Bool) : ∀ (l : List α), ((l.filter p).map f).sum ≤ (l.map f).sum
  | [] => Nat.le_refl _
  | x :: l => by
    have := sum_filter_le f p l
    rw [List.filter_cons]
    cases p x
    · rw [List.map_cons, List.sum_cons]; simp; omega
    · rw [if_pos rfl, List.map_cons, List.map_cons, List.sum_cons, List.sum_cons]; omega
theorem less_size (s : Nat) : ∀ (d : Nat) (T : Tree), sizeT d (lessT s d T) ≤ sizeT d T
  | 0, _ => Nat.le_refl _
  | d + 1, .mk t ns is => by
    show (ns.filter _).length + ((is.map (lessT s d)).filter _).length + ((((is.map (lessT s d)).filter _)).map (sizeT d)).sum ≤ ns.length + is.length + (is.map (sizeT d)).sum
    have h1 := List.length_filter_le (fun k => !hasB (s : Int) k) ns
    have h2 := List.length_filter_le (fun T => !deadT T) (is.map (lessT s d))
    rw [List.length_map] at h2
    have h3 := sum_filter_le (sizeT d) (fun T => !deadT T) (is.map (lessT s d))
    have h4 := sum_le_of (fun T => sizeT d (lessT s d T)) (sizeT d) is (fun T _ => less_size s d T)
    rw [List.map_map] at h3
    have h5 : (is.map (sizeT d ∘ lessT s d)).sum = (is.map (fun T => sizeT d (lessT s d T))).sum := rfl
    omega
theorem del_size {s k d : Nat} {T : Tree} (h : sizeT (d + 1) T ≤ 200) : sizeT (d + 1) (delT s k (d + 1) T) ≤ 200 := by
  unfold delT
  cases deadT (lessT s (d + 1) T)
  · rw [if_neg (by simp)]; exact Nat.le_trans (less_size s _ _) h
  · rw [if_pos rfl]; simp [sizeT]
theorem less_uses {n : Int} (hn : n ≤ 10) {s K : Nat} (hs : s < 1024) (hK : K < 10) (hb : s.testBit K = true) : ∀ (d : Nat) (T : Tree), WF n d T → deadT (lessT s d T) = false → (usesT d (lessT s d T)).testBit K = false
  | 0, T, w, _ => w.elim
  | d + 1, .mk t ns is, w, hd => by
    have hw := less_wf _ _ w hd
    have hi := w.2.2.2.2.2.2
    have e : lessT s (d + 1) (.mk t ns is) = .mk ((t.toNat - cnt (hasB (s : Int)) ns - cnt deadT (is.map (lessT s d)) : Nat) : Int) (ns.filter (fun k => !hasB (s : Int) k)) ((is.map (lessT s d)).filter (fun T => !deadT T)) := rfl
    rw [e] at hw ⊢
    rw [usesT_bit hn hw K, Bool.or_eq_false_iff]
    constructor
    · rw [decide_eq_false_iff_not]
      intro hm
      have := (List.mem_filter.1 hm).2
      rw [hasB_bit hs hK, hb] at this
      cases this
    · rw [List.any_eq_false]
      intro T hT
      obtain ⟨hm, hdt⟩ := List.mem_filter.1 hT
      obtain ⟨T0, h0, rfl⟩ := List.mem_map.1 hm
      rw [less_uses hn hs hK hb d T0 (hi T0 h0) (by simpa using hdt)]
      simp
theorem del_uses {n : Int} (hn : n ≤ 10) {s k d : Nat} {T : Tree} (hs : s < 1024) (hk : (k : Int) < n) (hkb : s.testBit k = false) (w : WF n (d + 1) T) : usesT (d + 1) (delT s k (d + 1) T) &&& s = 0 := by
  apply Nat.eq_of_testBit_eq
  intro K
  rw [Nat.testBit_and, Nat.zero_testBit]
  rcases Nat.lt_or_ge K 10 with hK | hK
  · cases hb : s.testBit K
    · simp
    · rw [Bool.and_true]
      have hw := delT_wf (s := s) hk w
      revert hw
      unfold delT
      cases hd : deadT (lessT s (d + 1) T)
      · intro _
        rw [if_neg (by simp)]
        exact less_uses hn hs hK hb _ _ w hd
      · intro hw
        rw [if_pos rfl] at hw ⊢
        rw [usesT_bit hn hw K]
        simp
        intro e
        have : K = k := by omega
        rw [this, hkb] at hb
        cases hb
  · rw [Nat.testBit_lt_two_pow (Nat.lt_of_lt_of_le hs (Nat.pow_le_pow_right (by decide) hK : 2 ^ 10 ≤ 2 ^ K)), Bool.and_false]

/-- The world with both trusts. -/
structure MadeY (w : World) (g : Nat) (t : Int) (v1 v2 : Value) (T : Tree) (gy : Nat) (u : Int) (x1 x2 : Value) (Y : Tree) (W : World) : Prop where
  made : MadeAt w g 4 t v1 v2 T W
  outY : OutAt W gy u x1 x2
  tatY : TAt (fun b => w.heap.size < b) 4 W (.int .i64 u) x1 x2 Y
theorem MadeY.bel {w W W' : World} {g gy : Nat} {t u : Int} {v1 v2 x1 x2 : Value} {T Y : Tree} (h : MadeY w g t v1 v2 T gy u x1 x2 Y W) (hb : Below W.heap.size W W') : MadeY w g t v1 v2 T gy u x1 x2 Y W' :=
  ⟨h.made.bel hb, h.outY.keep (hb.block _ h.outY.lt), h.tatY.below hb⟩
theorem MadeY.grown {w W W' : World} {g gy : Nat} {t u : Int} {v1 v2 x1 x2 : Value} {T Y : Tree} (h : MadeY w g t v1 v2 T gy u x1 x2 Y W) (hgy : w.heap.size < gy) (hs : TapeOk W' w.heap.size) (hg : W.grownBy W' (some w.heap.size)) : MadeY w g t v1 v2 T gy u x1 x2 Y W' :=
  ⟨h.made.grown hs hg, h.outY.keep (hg.block _ h.outY.lt (by simp; omega)), h.tatY.keep (fun q hq hP => hg.block q hq (by simp; omega))⟩
theorem MadeY.drew {w W : World} {g gy : Nat} {t u : Int} {v1 v2 x1 x2 : Value} {T Y : Tree} (h : MadeY w g t v1 v2 T gy u x1 x2 Y W) : MadeY w g t v1 v2 T gy u x1 x2 Y W.drew := h.bel ⟨rfl, rfl, rfl, Nat.le_refl _, fun _ _ => rfl⟩
theorem atY {w W : World} {g gy : Nat} {t u : Int} {v1 v2 x1 x2 : Value} {T Y : Tree}
    (h : W.cell? ⟨g, 0, none⟩ = some (.int .i64 t) ∧ W.cell? ⟨g, 1, none⟩ = some v1 ∧ W.cell? ⟨g, 2, none⟩ = some v2 ∧ W.cell? ⟨gy, 0, none⟩ = some (.int .i64 u) ∧ W.cell? ⟨gy, 1, none⟩ = some x1 ∧ W.cell? ⟨gy, 2, none⟩ = some x2 ∧ MadeY w g t v1 v2 T gy u x1 x2 Y W) : MadeY w g t v1 v2 T gy u x1 x2 Y W := h.2.2.2.2.2.2
theorem MadeY.keeps {w W : World} {g gy : Nat} {t u : Int} {v1 v2 x1 x2 : Value} {T Y : Tree} (h : MadeY w g t v1 v2 T gy u x1 x2 Y W) :
    W.cell? ⟨g, 0, none⟩ = some (.int .i64 t) ∧ W.cell? ⟨g, 1, none⟩ = some v1 ∧ W.cell? ⟨g, 2, none⟩ = some v2 ∧ W.cell? ⟨gy, 0, none⟩ = some (.int .i64 u) ∧ W.cell? ⟨gy, 1, none⟩ = some x1 ∧ W.cell? ⟨gy, 2, none⟩ = some x2 ∧ MadeY w g t v1 v2 T gy u x1 x2 Y W :=
  ⟨h.made.out.cs.1, h.made.out.cs.2.1, h.made.out.cs.2.2, h.outY.cs.1, h.outY.cs.2.1, h.outY.cs.2.2, h⟩
theorem keepY {w W W' : World} {g gy : Nat} {t u : Int} {v1 v2 x1 x2 : Value} {T Y : Tree}
    (h : W.cell? ⟨g, 0, none⟩ = some (.int .i64 t) ∧ W.cell? ⟨g, 1, none⟩ = some v1 ∧ W.cell? ⟨g, 2, none⟩ = some v2 ∧ W.cell? ⟨gy, 0, none⟩ = some (.int .i64 u) ∧ W.cell? ⟨gy, 1, none⟩ = some x1 ∧ W.cell? ⟨gy, 2, none⟩ = some x2 ∧ MadeY w g t v1 v2 T gy u x1 x2 Y W) (hb : Below W.heap.size W W') :
    W'.cell? ⟨g, 0, none⟩ = some (.int .i64 t) ∧ W'.cell? ⟨g, 1, none⟩ = some v1 ∧ W'.cell? ⟨g, 2, none⟩ = some v2 ∧ W'.cell? ⟨gy, 0, none⟩ = some (.int .i64 u) ∧ W'.cell? ⟨gy, 1, none⟩ = some x1 ∧ W'.cell? ⟨gy, 2, none⟩ = some x2 ∧ MadeY w g t v1 v2 T gy u x1 x2 Y W' :=
  (h.2.2.2.2.2.2.bel hb).keeps

set_option maxRecDepth 100000 in
set_option maxHeartbeats 4000000 in
theorem walkDeletionMeans (a0 : Option Addr) (len0 cap0 : Nat) (z0 : List Int) (w : World) (w0 : IsRow .i64 w a0 len0 cap0 z0) :
    Calls Tryd.prog 4 #[.slice a0 len0 cap0] w fun e w' => e = .returned (.bool true) ∧ Below w.heap.size w w' := by
  have HR := Lib.hid w0
  clear w0
  go_enter Tryd.func4, Tryd.ntmps4
  go_wp2_with fail
  refine (TNew_run _ _ _ _ _ HR.out).mono ?_
  rintro e v0 ⟨rfl, hs0, hb0⟩
  have HS0 := Lib.hid hs0
  have HB0 := Lib.hid hb0
  clear hs0 hb0
  go_wp2_with fail
  refine (TRange_run _ _ _ _ (by omega) (by omega) (by omega) HS0.out).mono ?_
  rintro e v1 ⟨r, hr0, hr1, rfl, hs1, hg1⟩
  obtain ⟨n, rfl⟩ := Int.eq_ofNat_of_zero_le (show 0 ≤ r by omega)
  have HS1 := Lib.hid hs1
  have HB1 := Lib.hid (bgrownD HB0.out hg1 (Nat.le_refl _))
  have hsl := hs1.lt
  clear hs1 hg1
  go_wp2_with fail
  refine (mkTrust_run _ n (by omega) (by omega) 3 (by omega) _ HS1.out).mono ?_
  rintro e v2 ⟨x0, x1, x2, T, rfl, hT, hF, hs2, hg2⟩
  obtain ⟨t', A', n', ca, B', m', cb, rfl, rfl, rfl⟩ := hT.form
  have hMA : MadeAt w v2.heap.size 4 t' (.slice A' n' ca) (.slice B' m' cb) T (v2.alloc (.cells #[.int .i64 t', .slice A' n' ca, .slice B' m' cb] 28)) :=
    ⟨hs2.alloc _, heap_alloc_new _ _, (hT.imp (fun k _ hk => by omega)).below (balloc (bref _) _), hs2.lt, balloc (bgrownD HB1.out hg2 (Nat.le_refl _)) _⟩
  have HM := Lib.hid hMA
  have HW := Lib.hid hF.1
  have HSZ := Lib.hid hF.2
  have hn10 : (n : Int) ≤ 10 := hr1
  have hnn : n ≤ 10 := by omega
  obtain ⟨hp0, hp1⟩ := two_pow_le hnn
  have hsh := shl_nat hnn
  clear hT hF hs2 hg2 hMA HS1 HB1 HS0 HB0
  go_upto_region 4 with fail
  generalize v2.alloc (.cells #[.int .i64 t', .slice A' n' ca, .slice B' m' cb] 28) = W1 at *
  generalize v2.heap.size = g at *
  go_wp2_with fail
  go_loopw [6] (fun t W => ∃ k : Nat, k ≤ 20 ∧ t = .int .i64 k ∧ Hid (MadeAt w g 4 t' (.slice A' n' ca) (.slice B' m' cb) T W)) (fun t _ => 20 - (intOf t).toNat)
  case atStart => exact ⟨0, by omega, rfl, HM⟩
  case round =>
    obtain ⟨i, hi, rfl, hM⟩ := hrel
    by_cases hlt : i < 20
    · have HPI := Lib.hid (show ((2 : Int) ^ n) = ((2 ^ n : Nat) : Int) by simp)
      go_wp2_with fail
      refine (TN_run _ _ _ (by rw [HPI.out]; omega) (by rw [HPI.out]; omega) hM.out.tape).mono ?_
      rintro e W2 ⟨r, hr0, hr1', rfl, hs2, hg2⟩
      obtain ⟨a, rfl⟩ := Int.eq_ofNat_of_zero_le hr0
      have hM2 := Lib.hid (hM.out.grown hs2 hg2)
      clear hs2 hg2
      go_wp2_with fail
      refine (TN_run _ _ _ (by omega) (by omega) hM2.out.tape).mono ?_
      rintro e W3 ⟨r, hr2, hr3, rfl, hs2, hg2⟩
      obtain ⟨k, rfl⟩ := Int.eq_ofNat_of_zero_le hr2
      have hM3 := Lib.hid (hM2.out.grown hs2 hg2)
      clear hs2 hg2 hM hM2
      have ha : a < 1024 := by rw [HPI.out] at hr1'; omega
      have hk : k < 10 := by omega
      have hshk := shl_nat (n := k) (by omega)
      obtain ⟨hq0, hq1⟩ := two_pow_le (n := k) (by omega)
      obtain ⟨c0, c1, c2⟩ := hM3.out.out.cs
      have hnp := not_pow ha hk
      have hgn := minS_lt (s := 2 ^ k) ha
      have HGB := Lib.hid (minS_pow a k)
      generalize minS a (2 ^ k) = gn at *
      have hkn : (k : Int) < n := hr3
      go_wp2_with fail
      refine (delT_run _ n gn k 3 T _ _ _ _ hgn hM3.out.tat HW.out).mono ?_
      rintro e W4 ⟨y0, y1, y2, rfl, hT4, hb4⟩
      obtain ⟨u', Ay, ny, cy, By, my, cz, rfl, rfl, rfl⟩ := hT4.form
      have hbA := balloc (bref W4) (.cells #[.int .i64 u', .slice Ay ny cy, .slice By my cz] 28)
      have hlow := hM3.out.tape.lt
      have HY := Lib.hid (show MadeY w g t' (.slice A' n' ca) (.slice B' m' cb) T W4.heap.size u' (.slice Ay ny cy) (.slice By my cz) (delT gn k 4 T) (W4.alloc (.cells #[.int .i64 u', .slice Ay ny cy, .slice By my cz] 28)) from
        ⟨(hM3.out.bel hb4).bel hbA, heap_alloc_new _ _, (hT4.imp (fun q _ hq => by omega)).below hbA⟩)
      have hgy : w.heap.size < W4.heap.size := Nat.lt_of_lt_of_le hlow hb4.size
      clear hT4 hb4 hbA c0 c1 c2 hM3 hnp
      have HDM := Lib.hid (fun z y (hz : z < 1024) (hy : y < 1024) (hkz : z.testBit k = true) (hb : ∀ K, K < 10 → y.testBit K = (gn.testBit K || z.testBit K)) => del_means (n := n) hn10 (d := 3) HW.out hgn hz hy hk hkz hb)
      have HDW := Lib.hid (delT_wf (s := gn) hkn HW.out)
      have HDS := Lib.hid (del_size (s := gn) (k := k) HSZ.out)
      have HDU := Lib.hid (del_uses (n := n) hn10 hgn hkn HGB.out HW.out)
      generalize delT gn k 4 T = Y at *
      go_upto_region 10 with fail
      generalize W4.alloc (.cells #[.int .i64 u', .slice Ay ny cy, .slice By my cz] 28) = W5 at *
      generalize W4.heap.size = gy at *
      have hwn := wrap_pow hnn
      have hwk := wrap_pow (k := k) (by omega)
      go_region_with ((go_at_call 10; refine (TN_run _ _ _ (by rw [HPI.out]; omega) (by rw [HPI.out]; omega) (by exact HY.out.drew.made.tape)).mono ?_; rintro e W6 ⟨r, hr4, hr5, rfl, hs4, hg4⟩; have hM4 := Lib.hid (HY.out.drew.grown hgy hs4 hg4)))
      obtain ⟨b, rfl⟩ := Int.eq_ofNat_of_zero_le hr4
      have hb : b < 1024 := by rw [HPI.out] at hr5; omega
      have hbm := minS_lt (s := gn) hb
      have hanr : bits .andNot .i64 (b : Int) (gn : Int) = ((minS b gn : Nat) : Int) := andNot_nat b gn hb hgn
      have horr := or_pow hbm hk
      have hzl : minS b gn ||| 2 ^ k < 1024 := Nat.or_lt_two_pow (n := 10) hbm (pow_small hk)
      have HZB := Lib.hid (or_pow_bit (minS b gn) k)
      obtain ⟨q, hq⟩ : ∃ q, minS b gn = q := ⟨_, rfl⟩
      obtain ⟨z, hz⟩ : ∃ z, q ||| 2 ^ k = z := ⟨_, rfl⟩
      rw [hq] at hanr horr HZB hzl
      rw [hz] at horr HZB hzl
      clear hz hq hs4 hg4 HY hbm
      have hzo := i64_or_nat z gn (by omega) (by omega)
      have hol : z ||| gn < 1024 := Nat.or_lt_two_pow (n := 10) hzl hgn
      have HEQ := Lib.hid (HDM.out z (z ||| gn) hzl hol HZB.out (fun K _ => by rw [Nat.testBit_or, Bool.or_comm]))
      obtain ⟨o, ho⟩ : ∃ o, z ||| gn = o := ⟨_, rfl⟩
      rw [ho] at hzo hol HEQ
      have hul := usesT_lt 4 Y
      have huz := i64_and_nat (usesT 4 Y) gn (by omega) (by omega)
      rw [HDU.out] at huz
      obtain ⟨uy, huy⟩ : ∃ u, usesT 4 Y = u := ⟨_, rfl⟩
      rw [huy] at huz hul
      have HUY := Lib.hid huy
      clear huy ho HDM HDU
      go_upto_region 11 with fail
      have hS6 := Lib.hid hM4.out.drew.keeps
      have huz0 : bits .and .i64 (uy : Int) (gn : Int) = 0 := huz
      clear huz hM4
      obtain ⟨sb, hsb⟩ : ∃ b, satB 4 T (o : Int) = b := ⟨_, rfl⟩
      rw [hsb] at HEQ
      have HSB := Lib.hid hsb
      clear hsb
      go_region_held3 (fun W => W.cell? ⟨g, 0, none⟩ = some (.int .i64 t') ∧ W.cell? ⟨g, 1, none⟩ = some (.slice A' n' ca) ∧ W.cell? ⟨g, 2, none⟩ = some (.slice B' m' cb) ∧ W.cell? ⟨gy, 0, none⟩ = some (.int .i64 u') ∧ W.cell? ⟨gy, 1, none⟩ = some (.slice Ay ny cy) ∧ W.cell? ⟨gy, 2, none⟩ = some (.slice By my cz) ∧ MadeY w g t' (.slice A' n' ca) (.slice B' m' cb) T gy u' (.slice Ay ny cy) (.slice By my cz) Y W) (first | exact hS6.out | exact keepY (by assumption) hbK | go_keep)
        (first
          | (go_at_call_of 11 (Value.int .i64 (z : Int)); refine (rsat_run _ 4 Y _ _ _ z _ hzl (by exact (atY (by assumption)).tatY)).mono ?_; rintro e WK ⟨rfl, hbK⟩; rw [HEQ.out])
          | (go_at_call_of 11 (Value.int .i64 (o : Int)); refine (rsat_run _ 4 T _ _ _ o _ hol (by exact (atY (by assumption)).made.tat)).mono ?_; rintro e WK ⟨rfl, hbK⟩; rw [HSB.out])
          | (go_at_call 14; refine (rtvalid_run _ n hn10 4 (by omega) Y _ _ _ _ (by exact (atY (by assumption)).tatY) HDW.out HDS.out).mono ?_; rintro e WK ⟨rfl, hbK⟩)
          | (go_at_call 15; refine (ruses_run _ 4 Y _ _ _ _ (by exact (atY (by assumption)).tatY)).mono ?_; rintro e WK ⟨rfl, hbK⟩; rw [HUY.out]))
      all_goals
        have hMF := Lib.hid (atY (g := g) (gy := gy) (t := t') (u := u') (v1 := .slice A' n' ca) (v2 := .slice B' m' cb) (x1 := .slice Ay ny cy) (x2 := .slice By my cz) (T := T) (Y := Y) (w := w) (by assumption)).made
        go_wp2_with fail
        go_roundw
        case rel => exact ⟨i + 1, by omega, by go_num, hMF⟩
        case measure => simp [intOf]; omega
    · obtain rfl : i = 20 := by omega
      go_wp2_with fail
      refine (awake13 _).mono ?_
      rintro e W5 ⟨rfl, hb5⟩
      have HB5 := Lib.hid (bstep hM.out.below hb5)
      clear hb5
      go_wp2_with fail
      go_ret
      exact ⟨rfl, HB5.out⟩
end Go.Proofs.YtcngpfffhjbiaaaDoor
