/- The walk of IntactExplains: each member has an explanation that is accepted; it says intact exactly for intact members; no other explanation is accepted as that of an intact one. -/
import Derived.Test.YtacpfcckilnbfaaGreatExAny
import Derived.Test.YtacpfcckilnbfaaGreatB7
import Derived.OpenShut
import Derived.Deep.RegionHeld3
namespace Go.Proofs.YtacpfcckilnbfaaGreat
set_option linter.unusedVariables false
set_option linter.unusedSimpArgs false
open Go.RowKit

theorem isRow_belowX {k : IntKind} {w w' : World} {a : Option Addr} {len cap : Nat} {zs : List Int} (h : IsRow k w a len cap zs) (hb : Below w.heap.size w w') : IsRow k w' a len cap zs := by
  rcases h with h | ⟨x, h1, h2, h3, h4, h5, h6⟩
  · exact .inl h
  · exact .inr ⟨x, h1, h2, h3, h4, fun i hi => (hb.cell (cell_lt (h5 i hi))).trans (h5 i hi), h6⟩
/-- The row of the four explanations that are tried. -/
def ZRow (W : World) (zb : Nat) (K0 S0 X0 Y0 : Int) (vR : Value) : Prop := ∃ n1 n2 n3 : Int, n1 < 16 ∧ W.heap[zb]? = some (.cells #[.int .i64 K0, .int .i64 S0, .int .i64 X0, .int .i64 Y0, vR, .int .i64 1, .int .i64 n1, .int .i64 0, .int .i64 0, .slice none 0 0, .int .i64 3, .int .i64 0, .int .i64 0, .int .i64 0, .slice none 0 0, .int .i64 2, .int .i64 0, .int .i64 n2, .int .i64 n3, .slice none 0 0] 61 (0, 0))
theorem ZRow.bel {W W' : World} {zb : Nat} {K0 S0 X0 Y0 : Int} {vR : Value} (h : ZRow W zb K0 S0 X0 Y0 vR) (hb : Below W.heap.size W W') : ZRow W' zb K0 S0 X0 Y0 vR := by
  obtain ⟨n1, n2, n3, h1, h2⟩ := h
  exact ⟨n1, n2, n3, h1, (hb.block zb (Array.getElem?_eq_some_iff.1 h2).1).trans h2⟩
theorem zrow_at {W : World} {zb : Nat} {K0 S0 X0 Y0 : Int} {Ar : Option Addr} {m0 cr j : Nat} {rs : List Rft} (h : ZRow W zb K0 S0 X0 Y0 (.slice Ar m0 cr)) (hj : j < 4) (hr : RowAt 3 encR (fun _ => True) W (.slice Ar m0 cr) rs) (hS0 : S0 < 9223372036854775808) :
    ∃ (Kz Sz Xz Yz : Int) (Az : Option Addr) (mz cz : Nat) (rz : List Rft), Sz < 9223372036854775808 ∧ RowAt 3 encR (fun _ => True) W (.slice Az mz cz) rz ∧ W.cell? ⟨zb, j * 5, none⟩ = some (.int .i64 Kz) ∧ W.cell? ⟨zb, j * 5 + 1, none⟩ = some (.int .i64 Sz) ∧ W.cell? ⟨zb, j * 5 + 2, none⟩ = some (.int .i64 Xz) ∧ W.cell? ⟨zb, j * 5 + 3, none⟩ = some (.int .i64 Yz) ∧ W.cell? ⟨zb, j * 5 + 4, none⟩ = some (.slice Az mz cz) := by
  obtain ⟨n1, n2, n3, h1, h2⟩ := h
  match j, hj with
  | 0, _ => exact ⟨K0, S0, X0, Y0, Ar, m0, cr, rs, hS0, hr, cell_of_row _ _ 0 _ _ (0, 0) h2, cell_of_row _ _ 1 _ _ (0, 0) h2, cell_of_row _ _ 2 _ _ (0, 0) h2, cell_of_row _ _ 3 _ _ (0, 0) h2, cell_of_row _ _ 4 _ _ (0, 0) h2⟩
  | 1, _ => exact ⟨1, n1, 0, 0, none, 0, 0, [], by omega, RowAt.nil, cell_of_row _ _ 5 _ _ (0, 0) h2, cell_of_row _ _ 6 _ _ (0, 0) h2, cell_of_row _ _ 7 _ _ (0, 0) h2, cell_of_row _ _ 8 _ _ (0, 0) h2, cell_of_row _ _ 9 _ _ (0, 0) h2⟩
  | 2, _ => exact ⟨3, 0, 0, 0, none, 0, 0, [], by omega, RowAt.nil, cell_of_row _ _ 10 _ _ (0, 0) h2, cell_of_row _ _ 11 _ _ (0, 0) h2, cell_of_row _ _ 12 _ _ (0, 0) h2, cell_of_row _ _ 13 _ _ (0, 0) h2, cell_of_row _ _ 14 _ _ (0, 0) h2⟩
  | 3, _ => exact ⟨2, 0, n2, n3, none, 0, 0, [], by omega, RowAt.nil, cell_of_row _ _ 15 _ _ (0, 0) h2, cell_of_row _ _ 16 _ _ (0, 0) h2, cell_of_row _ _ 17 _ _ (0, 0) h2, cell_of_row _ _ 18 _ _ (0, 0) h2, cell_of_row _ _ 19 _ _ (0, 0) h2⟩
theorem s_lt {S : Int} (h : (Lit.int .i64 S).wf = true) : S < 9223372036854775808 := by
  have := bounds_i64 h
  omega
set_option maxRecDepth 100000 in
set_option maxHeartbeats 8000000 in
theorem walkIntactExplains (a0 : Option Addr) (len0 cap0 : Nat) (z0 : List Int) (K0 S0 X0 Y0 : Int) (vR : Value) (rs : List Rft) (w : World) (w0 : IsRow .i64 w a0 len0 cap0 z0) (wS : (Lit.int .i64 S0).wf = true) (wR : RowAt 3 encR (fun _ => True) w vR rs) :
    Calls Tryz.prog 11 #[.slice a0 len0 cap0, .agg #[.int .i64 K0, .int .i64 S0, .int .i64 X0, .int .i64 Y0, vR]] w fun e w' => e = .returned (.bool true) ∧ Below w.heap.size w w' := by
  have hS0 := s_lt wS
  obtain ⟨Ar, cr, rfl, _, _⟩ := wR.slice
  obtain ⟨m0, hm0⟩ : ∃ m0, rs.length = m0 := ⟨_, rfl⟩
  rw [hm0] at wR ⊢
  have HR := Lib.hid (isRow_belowX w0 (balloc (bref w) (.cells #[.int .i64 K0, .int .i64 S0, .int .i64 X0, .int .i64 Y0, .slice Ar m0 cr] 61)))
  have HBX := Lib.hid (show (w.alloc (.cells #[.int .i64 K0, .int .i64 S0, .int .i64 X0, .int .i64 Y0, .slice Ar m0 cr] 61)).heap[w.heap.size]? = some (.cells #[.int .i64 K0, .int .i64 S0, .int .i64 X0, .int .i64 Y0, .slice Ar m0 cr] 61 (0, 0)) from alloc_at rfl)
  have HBW := Lib.hid (show Below w.heap.size w (w.alloc (.cells #[.int .i64 K0, .int .i64 S0, .int .i64 X0, .int .i64 Y0, .slice Ar m0 cr] 61)) from balloc (bref w) _)
  have HRW := Lib.hid (wR.below HBW.out)
  clear w0 wS wR hm0
  go_enter Tryz.func11, Tryz.ntmps11
  go_upto_region 1 with fail
  generalize (w.alloc (.cells #[.int .i64 K0, .int .i64 S0, .int .i64 X0, .int .i64 Y0, .slice Ar m0 cr] 61)) = w1 at *
  generalize hrb : w.heap.size = rb at HBX
  have HRB := Lib.hid hrb
  clear hrb
  have b4 : w1.cell? ⟨rb, 4, none⟩ = some (.slice Ar m0 cr) := cell_of_row _ _ 4 _ _ (0, 0) HBX.out
  by_cases h100 : 100 < m0
  · have h100i : (100 : Int) < (m0 : Int) := by omega
    go_wp2_with fail
    refine (awake15 _).mono ?_
    rintro e W99 ⟨rfl, hb9⟩
    have HF := Lib.hid (bstep HBW.out hb9)
    clear hb9
    go_wp2_with fail
    go_ret
    exact ⟨rfl, HF.out⟩
  have h100i : ¬ (100 : Int) < (m0 : Int) := by omega
  go_upto_region 3 with fail
  clear b4
  go_wp2_with fail
  refine (TNew_run _ _ _ _ _ HR.out).mono ?_
  rintro e v0 ⟨rfl, hs0, hb0⟩
  have HS0 := Lib.hid hs0
  have HB0 := Lib.hid hb0
  have hsl := hs0.lt
  clear hs0 hb0 HR
  go_wp2_with fail
  refine (mkPair_run _ 4 (by omega) (by omega) _ HS0.out).mono ?_
  rintro e v2 ⟨vl, vh, ls, hs, rfl, hpm, hln, hML, hMH, hs2, hg2⟩
  obtain ⟨Al, cl, rfl⟩ := hML.slice
  obtain ⟨Ah, ch, rfl⟩ := hMH.slice
  have hlen := hpm.len
  obtain ⟨L, hL⟩ : ∃ L, ls.length = L := ⟨_, rfl⟩
  rw [hlen] at hMH ⊢
  rw [hL] at hML hMH hln ⊢
  have HM := Lib.hid (show PMade w1 v2.heap.size (.slice Al L cl) (.slice Ah L ch) ls hs ((v2.alloc (.cells #[.slice Al L cl] 27)).alloc (.cells #[.slice Ah L ch] 27)) from
    (show PMade w1 v2.heap.size (.slice Al L cl) (.slice Ah L ch) ls hs _ from ⟨(hs2.alloc _).alloc _, alloc_on (alloc_at rfl), alloc_at (alloc_sz _ _),
      (hML.both (w' := v2) (Q := fun b => w1.heap.size < b) (fun _ _ _ => rfl) (fun k _ hk => by have : v0.heap.size ≤ k := hk; omega)).below (balloc (balloc (bref v2) _) _),
      (hMH.both (w' := v2) (Q := fun b => w1.heap.size < b) (fun _ _ _ => rfl) (fun k _ hk => by have : v0.heap.size ≤ k := hk; omega)).below (balloc (balloc (bref v2) _) _), hs2.lt, bstep (bgrownC HB0.out hg2 (Nat.le_refl _)) (balloc (balloc (bref v2) _) _)⟩))
  have HP := Lib.hid hpm
  have HL := Lib.hid hL
  have HLH := Lib.hid (hlen.trans hL)
  have h1L : 1 ≤ L := by rw [← hL]; exact hpm.one
  have hp2 : 2 ^ L ≤ 2 ^ 4 := Nat.pow_le_pow_right (by omega) hln
  have hp1 : 1 ≤ 2 ^ L := Nat.one_le_two_pow
  have hpw := pow11 L (by omega)
  have hn64 : (L : Int) < 64 := by omega
  have hn0 : (0 : Int) ≤ (L : Int) := by omega
  obtain ⟨N, hN⟩ : ∃ N, 2 ^ L = N := ⟨_, rfl⟩
  have HNN := Lib.hid hN
  rw [hN] at hp2 hp1 hpw
  clear hN
  clear hML hMH hs2 hg2 HS0 HB0 hlen hpm hL
  go_upto_region 5 with fail
  generalize ((v2.alloc (.cells #[.slice Al L cl] 27)).alloc (.cells #[.slice Ah L ch] 27)) = W1 at *
  generalize v2.heap.size = g at *
  have HOX := Lib.hid (show ∀ W, PMade w1 g (.slice Al L cl) (.slice Ah L ch) ls hs W → W.heap[rb]? = some (.cells #[.int .i64 K0, .int .i64 S0, .int .i64 X0, .int .i64 Y0, .slice Ar m0 cr] 61 (0, 0)) ∧ RowAt 3 encR (fun _ => True) W (.slice Ar m0 cr) rs from fun W h => ⟨(h.below.block rb (Array.getElem?_eq_some_iff.1 HBX.out).1).trans HBX.out, HRW.out.below h.below⟩)
  have HM0 := HM
  have c0 := HM0.out.cl
  have c1 := HM0.out.ch
  go_wp2_with fail
  refine (D3.mkSetN_run _ ls _ _ (by rw [HL.out]; exact h1L) (by rw [HL.out]; omega) HM0.out.tape HM0.out.ml).mono ?_
  rintro e W1 ⟨s, rfl, hs1, hs2, hg2⟩
  have HM1 := Lib.hid (HM0.out.grown hs2 hg2)
  have HSs := Lib.hid hs1
  clear hs1 hs2 hg2 c0 c1
  have c0 := HM1.out.cl
  have c1 := HM1.out.ch
  go_wp2_with fail
  refine (inof_run _ _ ls hs _ _ s HSs.out _ (by rw [HL.out]; omega) HM1.out.ml HM1.out.mh HP.out).mono ?_
  rintro e W2 ⟨⟨a, rfl, ha⟩, hbx⟩
  have HM2 := Lib.hid (HM1.out.bel hbx)
  have HA := Lib.hid ha
  clear ha
  clear hbx c0 c1
  have hal := HA.out.lt
  rw [HL.out] at hal
  have h16 : 2 ^ L ≤ 16 := by have := HNN.out; omega
  have ha16 : a < 16 := by omega
  have HA16 := Lib.hid ha16
  have c0 := HM2.out.cl
  clear hal h16 HM HM0 HM1 hpw
  go_wp2_with fail
  go_loopw [43] (fun t W => ∃ k : Nat, k ≤ L ∧ t = .int .i64 (k : Int) ∧ Hid (PMade w1 g (.slice Al L cl) (.slice Ah L ch) ls hs W)) (fun t _ => L - (intOf t).toNat)
  case atStart => exact ⟨0, Nat.zero_le _, rfl, HM2⟩
  case round =>
    obtain ⟨k, hk, rfl, HMr⟩ := hrel
    clear c0
    by_cases hlt : k < L
    · have HKL := Lib.hid (show k < ls.length by rw [HL.out]; exact hlt)
      have HHA := Lib.hid (show hasB (a : Int) (k : Int) = a.testBit k from hasB_bit (by have := HA16.out; omega) (by omega))
      obtain ⟨bq, hbq⟩ : ∃ bq, a.testBit k = bq := ⟨_, rfl⟩
      have HBQ := Lib.hid hbq
      rw [hbq] at HHA
      have hnn : (!(bq == bq)) = false := by simp
      have hnn2 : (bq != bq) = false := by simp
      have c0 := HMr.out.cl
      have c1 := HMr.out.ch
      clear hbq
      go_wp2_with fail
      refine (inexplain_run _ _ ls hs _ _ s k a HSs.out HKL.out HA.out _ (by rw [HL.out]; omega) HMr.out.ml HMr.out.mh HP.out).mono ?_
      rintro e W3 ⟨⟨K, S, X, Y, A, m, c, rfl, hok⟩, hb3⟩
      have hba := balloc (bref W3) (.cells #[.int .i64 K, .int .i64 S, .int .i64 X, .int .i64 Y, .slice A m c] 61)
      have HYB := Lib.hid (show (W3.alloc (.cells #[.int .i64 K, .int .i64 S, .int .i64 X, .int .i64 Y, .slice A m c] 61)).heap[W3.heap.size]? = some (.cells #[.int .i64 K, .int .i64 S, .int .i64 X, .int .i64 Y, .slice A m c] 61 (0, 0)) from alloc_at rfl)
      have HM3 := Lib.hid ((HMr.out.bel hb3).bel hba)
      have hKq : ((K : Int) == 1) = bq := by rw [hok.1]; exact HBQ.out
      have HCK := Lib.hid (fun W (hb : Below (World.heap (W3.alloc (.cells #[.int .i64 K, .int .i64 S, .int .i64 X, .int .i64 Y, .slice A m c] 61))).size (W3.alloc (.cells #[.int .i64 K, .int .i64 S, .int .i64 X, .int .i64 Y, .slice A m c] 61)) W) (h : PMade w1 g (.slice Al L cl) (.slice Ah L ch) ls hs W) => hok.2 _ _ W (bstep hba hb) h.ml h.mh)
      clear hb3 hba hok c0 c1
      go_upto_region 13 with fail
      generalize (W3.alloc (.cells #[.int .i64 K, .int .i64 S, .int .i64 X, .int .i64 Y, .slice A m c] 61)) = W4 at *
      generalize W3.heap.size = yb at *
      have HBA := Lib.hid (bref W4)
      have HOY := Lib.hid (show ∀ W, PMade w1 g (.slice Al L cl) (.slice Ah L ch) ls hs W → Below W4.heap.size W4 W → (W.cell? ⟨g, 0, none⟩ = some (.slice Al L cl) ∧ W.cell? ⟨g + 1, 0, none⟩ = some (.slice Ah L ch) ∧ W.cell? ⟨yb, 0, none⟩ = some (.int .i64 K) ∧ W.cell? ⟨yb, 1, none⟩ = some (.int .i64 S) ∧ W.cell? ⟨yb, 2, none⟩ = some (.int .i64 X) ∧ W.cell? ⟨yb, 3, none⟩ = some (.int .i64 Y) ∧ W.cell? ⟨yb, 4, none⟩ = some (.slice A m c) ∧ PMade w1 g (.slice Al L cl) (.slice Ah L ch) ls hs W ∧ Below W4.heap.size W4 W) from fun W h hb => by
        have hr := (hb.block yb (Array.getElem?_eq_some_iff.1 HYB.out).1).trans HYB.out
        exact ⟨h.cl, h.ch, cell_of_row _ _ 0 _ _ (0, 0) hr, cell_of_row _ _ 1 _ _ (0, 0) hr, cell_of_row _ _ 2 _ _ (0, 0) hr, cell_of_row _ _ 3 _ _ (0, 0) hr, cell_of_row _ _ 4 _ _ (0, 0) hr, h, hb⟩)
      have HST := Lib.hid (show ∀ W W', (W.cell? ⟨g, 0, none⟩ = some (.slice Al L cl) ∧ W.cell? ⟨g + 1, 0, none⟩ = some (.slice Ah L ch) ∧ W.cell? ⟨yb, 0, none⟩ = some (.int .i64 K) ∧ W.cell? ⟨yb, 1, none⟩ = some (.int .i64 S) ∧ W.cell? ⟨yb, 2, none⟩ = some (.int .i64 X) ∧ W.cell? ⟨yb, 3, none⟩ = some (.int .i64 Y) ∧ W.cell? ⟨yb, 4, none⟩ = some (.slice A m c) ∧ PMade w1 g (.slice Al L cl) (.slice Ah L ch) ls hs W ∧ Below W4.heap.size W4 W) → Below W.heap.size W W' → _ from fun W W' h hb => HOY.out W' (h.2.2.2.2.2.2.2.1.bel hb) (bstep h.2.2.2.2.2.2.2.2 hb))
      have hS := Lib.hid (HOY.out W4.drew (HM3.out.bel (bdrew (bref W4))) (bdrew (bref W4)))
      clear HYB HMr
      go_region_held3 (fun W => W.cell? ⟨g, 0, none⟩ = some (.slice Al L cl) ∧ W.cell? ⟨g + 1, 0, none⟩ = some (.slice Ah L ch) ∧ W.cell? ⟨yb, 0, none⟩ = some (.int .i64 K) ∧ W.cell? ⟨yb, 1, none⟩ = some (.int .i64 S) ∧ W.cell? ⟨yb, 2, none⟩ = some (.int .i64 X) ∧ W.cell? ⟨yb, 3, none⟩ = some (.int .i64 Y) ∧ W.cell? ⟨yb, 4, none⟩ = some (.slice A m c) ∧ PMade w1 g (.slice Al L cl) (.slice Ah L ch) ls hs W ∧ Below W4.heap.size W4 W) (first | exact hS.out | exact hSK | go_keep)
        (first
          | (go_at_call 40; refine ((HCK.out _ (by exact (show (_ ∧ _ ∧ _ ∧ _ ∧ _ ∧ _ ∧ _ ∧ PMade w1 g (.slice Al L cl) (.slice Ah L ch) ls hs _ ∧ Below W4.heap.size W4 _) from by assumption).2.2.2.2.2.2.2.2) (by exact (show (_ ∧ _ ∧ _ ∧ _ ∧ _ ∧ _ ∧ _ ∧ PMade w1 g (.slice Al L cl) (.slice Ah L ch) ls hs _ ∧ Below W4.heap.size W4 _) from by assumption).2.2.2.2.2.2.2.1)).1).mono ?_; rintro e WK ⟨rfl, hbK⟩; have hSK := HST.out _ _ (by assumption) hbK; clear hbK)
          | (go_at_call 41; refine ((HCK.out _ (by exact (show (_ ∧ _ ∧ _ ∧ _ ∧ _ ∧ _ ∧ _ ∧ PMade w1 g (.slice Al L cl) (.slice Ah L ch) ls hs _ ∧ Below W4.heap.size W4 _) from by assumption).2.2.2.2.2.2.2.2) (by exact (show (_ ∧ _ ∧ _ ∧ _ ∧ _ ∧ _ ∧ _ ∧ PMade w1 g (.slice Al L cl) (.slice Ah L ch) ls hs _ ∧ Below W4.heap.size W4 _) from by assumption).2.2.2.2.2.2.2.1)).2).mono ?_; rintro e WK ⟨rfl, hbK⟩; have hSK := HST.out _ _ (by assumption) hbK; clear hbK)
          | (go_at_call 38; refine (rhas_run _ _ _).mono ?_; rintro e WL ⟨rfl, rfl⟩; rw [HHA.out]; have hSK := (show (_ ∧ _ ∧ _ ∧ _ ∧ _ ∧ _ ∧ _ ∧ PMade w1 g (.slice Al L cl) (.slice Ah L ch) ls hs _ ∧ Below W4.heap.size W4 _) from by assumption)))
      all_goals
        have HM5 := Lib.hid (show PMade w1 g (.slice Al L cl) (.slice Ah L ch) ls hs _ from hSK.2.2.2.2.2.2.2.1)
        clear hSK hS HST HOY HCK HBA HM3
        go_upto_region 15 with fail
        have HSX := Lib.hid (show ∀ W, PMade w1 g (.slice Al L cl) (.slice Ah L ch) ls hs W → (W.cell? ⟨rb, 0, none⟩ = some (.int .i64 K0) ∧ W.cell? ⟨rb, 1, none⟩ = some (.int .i64 S0) ∧ W.cell? ⟨rb, 2, none⟩ = some (.int .i64 X0) ∧ W.cell? ⟨rb, 3, none⟩ = some (.int .i64 Y0) ∧ W.cell? ⟨rb, 4, none⟩ = some (.slice Ar m0 cr) ∧ PMade w1 g (.slice Al L cl) (.slice Ah L ch) ls hs W) from fun W h => by
          have hr := (HOX.out W h).1
          exact ⟨cell_of_row _ _ 0 _ _ (0, 0) hr, cell_of_row _ _ 1 _ _ (0, 0) hr, cell_of_row _ _ 2 _ _ (0, 0) hr, cell_of_row _ _ 3 _ _ (0, 0) hr, cell_of_row _ _ 4 _ _ (0, 0) hr, h⟩)
        have hS := Lib.hid (HSX.out WK.drew (HM5.out.bel (bdrew (bref WK))))
        go_region_held3 (fun W => W.cell? ⟨rb, 0, none⟩ = some (.int .i64 K0) ∧ W.cell? ⟨rb, 1, none⟩ = some (.int .i64 S0) ∧ W.cell? ⟨rb, 2, none⟩ = some (.int .i64 X0) ∧ W.cell? ⟨rb, 3, none⟩ = some (.int .i64 Y0) ∧ W.cell? ⟨rb, 4, none⟩ = some (.slice Ar m0 cr) ∧ PMade w1 g (.slice Al L cl) (.slice Ah L ch) ls hs W) (first | exact hS.out | exact hSK | exact HSX.out _ (hSK.2.2.2.2.2.bel (balloc (bref _) _)) | go_keep)
          (first
            | (go_at_call 21; refine (TN_run _ _ 16 (by omega) (by omega) (by exact (show _ ∧ _ ∧ _ ∧ _ ∧ _ ∧ PMade w1 g (.slice Al L cl) (.slice Ah L ch) ls hs _ from by assumption).2.2.2.2.2.tape)).mono ?_; rintro e WK2 ⟨r, hr0, hr1, rfl, hs2, hg2⟩; have hSK := HSX.out _ ((show _ ∧ _ ∧ _ ∧ _ ∧ _ ∧ PMade w1 g (.slice Al L cl) (.slice Ah L ch) ls hs _ from by assumption).2.2.2.2.2.grown hs2 hg2); clear hs2 hg2))
        generalize hW7 : WK2.alloc _ = W7
        have HM7 := Lib.hid (show PMade w1 g (.slice Al L cl) (.slice Ah L ch) ls hs W7 from by rw [← hW7]; exact hSK.2.2.2.2.2.bel (balloc (bref WK2) _))
        have HZ7 := Lib.hid (show ZRow W7 WK2.heap.size K0 S0 X0 Y0 (.slice Ar m0 cr) from by
          rw [← hW7]
          refine ⟨_, _, _, ?_, alloc_at rfl⟩
          assumption)
        clear hSK hS HM5
        generalize WK2.heap.size = zb at *
        clear hW7
        go_wp2_with fail
        go_loopw [95] (fun t W => ∃ j : Nat, j ≤ 4 ∧ t = .int .i64 (j : Int) ∧ Hid (PMade w1 g (.slice Al L cl) (.slice Ah L ch) ls hs W) ∧ Hid (ZRow W zb K0 S0 X0 Y0 (.slice Ar m0 cr))) (fun t _ => 4 - (intOf t).toNat)
        case atStart => exact ⟨0, by omega, rfl, HM7, HZ7⟩
        case round =>
          obtain ⟨j, hj, rfl, HMj, HZj⟩ := hrel
          by_cases hj4 : j < 4
          · obtain ⟨Kz, Sz, Xz, Yz, Az, mz, cz, rz, hSz, hrz, z0, z1, z2, z3, z4⟩ := zrow_at HZj.out hj4 (HOX.out _ HMj.out).2 hS0
            have hba := balloc (bref wr) (.cells #[.int .i64 Kz, .int .i64 Sz, .int .i64 Xz, .int .i64 Yz, .slice Az mz cz] 61)
            have HUB := Lib.hid (show (wr.alloc (.cells #[.int .i64 Kz, .int .i64 Sz, .int .i64 Xz, .int .i64 Yz, .slice Az mz cz] 61)).heap[wr.heap.size]? = some (.cells #[.int .i64 Kz, .int .i64 Sz, .int .i64 Xz, .int .i64 Yz, .slice Az mz cz] 61 (0, 0)) from alloc_at rfl)
            have HM8 := Lib.hid (HMj.out.bel hba)
            have HZ8 := Lib.hid (HZj.out.bel hba)
            have HRZ := Lib.hid (hrz.below hba)
            have HSZ := Lib.hid hSz
            obtain ⟨kq, hkq⟩ : ∃ kq, ((Kz : Int) == 1) = kq := ⟨_, rfl⟩
            have HKQ := Lib.hid hkq
            clear hba hrz hSz HMj HZj
            go_upto_region 18 with fail
            clear z0 z1 z2 z3 z4
            generalize (wr.alloc (.cells #[.int .i64 Kz, .int .i64 Sz, .int .i64 Xz, .int .i64 Yz, .slice Az mz cz] 61)) = W8 at *
            generalize wr.heap.size = ub at *
            have HOU := Lib.hid (show ∀ W, PMade w1 g (.slice Al L cl) (.slice Ah L ch) ls hs W → Below W8.heap.size W8 W → (W.cell? ⟨g, 0, none⟩ = some (.slice Al L cl) ∧ W.cell? ⟨g + 1, 0, none⟩ = some (.slice Ah L ch) ∧ W.cell? ⟨ub, 0, none⟩ = some (.int .i64 Kz) ∧ W.cell? ⟨ub, 1, none⟩ = some (.int .i64 Sz) ∧ W.cell? ⟨ub, 2, none⟩ = some (.int .i64 Xz) ∧ W.cell? ⟨ub, 3, none⟩ = some (.int .i64 Yz) ∧ W.cell? ⟨ub, 4, none⟩ = some (.slice Az mz cz) ∧ PMade w1 g (.slice Al L cl) (.slice Ah L ch) ls hs W ∧ Below W8.heap.size W8 W) from fun W h hb => by
              have hr := (hb.block ub (Array.getElem?_eq_some_iff.1 HUB.out).1).trans HUB.out
              exact ⟨h.cl, h.ch, cell_of_row _ _ 0 _ _ (0, 0) hr, cell_of_row _ _ 1 _ _ (0, 0) hr, cell_of_row _ _ 2 _ _ (0, 0) hr, cell_of_row _ _ 3 _ _ (0, 0) hr, cell_of_row _ _ 4 _ _ (0, 0) hr, h, hb⟩)
            have HSU := Lib.hid (show ∀ W W', (W.cell? ⟨g, 0, none⟩ = some (.slice Al L cl) ∧ W.cell? ⟨g + 1, 0, none⟩ = some (.slice Ah L ch) ∧ W.cell? ⟨ub, 0, none⟩ = some (.int .i64 Kz) ∧ W.cell? ⟨ub, 1, none⟩ = some (.int .i64 Sz) ∧ W.cell? ⟨ub, 2, none⟩ = some (.int .i64 Xz) ∧ W.cell? ⟨ub, 3, none⟩ = some (.int .i64 Yz) ∧ W.cell? ⟨ub, 4, none⟩ = some (.slice Az mz cz) ∧ PMade w1 g (.slice Al L cl) (.slice Ah L ch) ls hs W ∧ Below W8.heap.size W8 W) → Below W.heap.size W W' → _ from fun W W' h hb => HOU.out W' (h.2.2.2.2.2.2.2.1.bel hb) (bstep h.2.2.2.2.2.2.2.2 hb))
            have hS := Lib.hid (HOU.out W8.drew (HM8.out.bel (bdrew (bref W8))) (bdrew (bref W8)))
            clear HUB HOU HM7 HZ7
            refine wp_region_noPanic ?_
            refine wp_region_held_drew (S := fun W => W.cell? ⟨g, 0, none⟩ = some (.slice Al L cl) ∧ W.cell? ⟨g + 1, 0, none⟩ = some (.slice Ah L ch) ∧ W.cell? ⟨ub, 0, none⟩ = some (.int .i64 Kz) ∧ W.cell? ⟨ub, 1, none⟩ = some (.int .i64 Sz) ∧ W.cell? ⟨ub, 2, none⟩ = some (.int .i64 Xz) ∧ W.cell? ⟨ub, 3, none⟩ = some (.int .i64 Yz) ∧ W.cell? ⟨ub, 4, none⟩ = some (.slice Az mz cz) ∧ PMade w1 g (.slice Al L cl) (.slice Ah L ch) ls hs W ∧ Below W8.heap.size W8 W) (by kernel_rfl) hS.out (fun hSK => ?_)
            refine take_d (some 99) (i := 0) (v := ?_) rfl rfl (by kernel_rfl) (by kernel_rfl) (by kernel_rfl) (fun _ _ _ h => h) (Or.inl ⟨by rfl, ?_⟩) (by assumption) ?_
            rotate_left
            · intro w hSw; (try dsimp only at hSw); go_simp; (try with_reducible rfl)
            try simp only [Act.put, List.setIfInBounds_toArray, List.set_cons_zero, List.set_cons_succ]
            refine take_d (some 100) (i := 1) (v := ?_) rfl rfl (by kernel_rfl) (by kernel_rfl) (by kernel_rfl) (fun _ _ _ h => h) (Or.inl ⟨by rfl, ?_⟩) (by assumption) ?_
            rotate_left
            · intro w hSw; (try dsimp only at hSw); go_simp; (try with_reducible rfl)
            try simp only [Act.put, List.setIfInBounds_toArray, List.set_cons_zero, List.set_cons_succ]
            refine take_d (some 101) (i := 2) (v := ?_) rfl rfl (by kernel_rfl) (by kernel_rfl) (by kernel_rfl) (fun _ _ _ h => h) (Or.inl ⟨by rfl, ?_⟩) (by assumption) ?_
            rotate_left
            · intro w hSw; (try dsimp only at hSw); go_simp; (try with_reducible rfl)
            try simp only [Act.put, List.setIfInBounds_toArray, List.set_cons_zero, List.set_cons_succ]
            refine take_d (some 102) (i := 3) (v := ?_) rfl rfl (by kernel_rfl) (by kernel_rfl) (by kernel_rfl) (fun _ _ _ h => h) (Or.inl ⟨by rfl, ?_⟩) (by assumption) ?_
            rotate_left
            · intro w hSw; (try dsimp only at hSw); go_simp; (try with_reducible rfl)
            try simp only [Act.put, List.setIfInBounds_toArray, List.set_cons_zero, List.set_cons_succ]
            refine take_d (some 103) (i := 4) (v := ?_) rfl rfl (by kernel_rfl) (by kernel_rfl) (by kernel_rfl) (fun _ _ _ h => h) (Or.inl ⟨by rfl, ?_⟩) (by assumption) ?_
            rotate_left
            · intro w hSw; (try dsimp only at hSw); go_simp; (try with_reducible rfl)
            try simp only [Act.put, List.setIfInBounds_toArray, List.set_cons_zero, List.set_cons_succ]
            refine wpAnyH_ready (rs := [5]) (by kernel_rfl) (by simp) ?_
            refine AllReadyH.cons rfl (fun K hK => ?_) AllReadyH.nil
            go_simp
            refine (incheck_run _ _ ls hs _ _ s k Kz Sz Xz Yz rz _ _ HSs.out HKL.out HSZ.out _ (by exact HRZ.out.below (show (_ ∧ _ ∧ _ ∧ _ ∧ _ ∧ _ ∧ _ ∧ PMade w1 g (.slice Al L cl) (.slice Ah L ch) ls hs _ ∧ Below W8.heap.size W8 _) from by assumption).2.2.2.2.2.2.2.2) (by rw [HL.out]; omega) (by exact (show (_ ∧ _ ∧ _ ∧ _ ∧ _ ∧ _ ∧ _ ∧ PMade w1 g (.slice Al L cl) (.slice Ah L ch) ls hs _ ∧ Below W8.heap.size W8 _) from by assumption).2.2.2.2.2.2.2.1.ml) (by exact (show (_ ∧ _ ∧ _ ∧ _ ∧ _ ∧ _ ∧ _ ∧ PMade w1 g (.slice Al L cl) (.slice Ah L ch) ls hs _ ∧ Below W8.heap.size W8 _) from by assumption).2.2.2.2.2.2.2.1.mh) HP.out).mono ?_
            rintro e WK3 ⟨⟨b, a', rfl, hof, hbk⟩, hbK⟩
            have hSK := HSU.out _ _ (by assumption) hbK
            have HB1 := Lib.hid (show b = true → (Kz = 1 ↔ a.testBit k = true) from fun h => by have h2 := hbk h; rw [of_uniq HP.out (by rw [HL.out]; omega) hof HA.out] at h2; exact h2)
            clear hbK hof hbk
            go_wp2_with fail
            refine hK.out _ _ ?_ (fun hHeld => ?_)
            · exact hSK
            clear hSK
            have hSK := hHeld
            clear hHeld
            clear hK K
            try simp only [Act.put, List.setIfInBounds_toArray, List.set_cons_zero, List.set_cons_succ]
            refine take_d (some 105) (i := 6) (v := ?_) rfl rfl (by kernel_rfl) (by kernel_rfl) (by kernel_rfl) (fun _ _ _ h => h) (Or.inl ⟨by rfl, ?_⟩) (by assumption) ?_
            rotate_left
            · intro w hSw; (try dsimp only at hSw); go_simp; (try with_reducible rfl)
            try simp only [Act.put, List.setIfInBounds_toArray, List.set_cons_zero, List.set_cons_succ]
            cases b
            · clear HB1
              refine take_d (some 106) (i := 7) (v := undef) rfl rfl (by kernel_rfl) (by kernel_rfl) (by kernel_rfl) (fun _ _ _ h => h) (Or.inr ⟨by rfl, rfl⟩) (by assumption) ?_
              try simp only [Act.put, List.setIfInBounds_toArray, List.set_cons_zero, List.set_cons_succ]
              refine take_d (some 107) (i := 8) (v := undef) rfl rfl (by kernel_rfl) (by kernel_rfl) (by kernel_rfl) (fun _ _ _ h => h) (Or.inr ⟨by rfl, rfl⟩) (by assumption) ?_
              try simp only [Act.put, List.setIfInBounds_toArray, List.set_cons_zero, List.set_cons_succ]
              refine take_d (some 108) (i := 9) (v := undef) rfl rfl (by kernel_rfl) (by kernel_rfl) (by kernel_rfl) (fun _ _ _ h => h) (Or.inr ⟨by rfl, rfl⟩) (by assumption) ?_
              try simp only [Act.put, List.setIfInBounds_toArray, List.set_cons_zero, List.set_cons_succ]
              refine take_d (some 109) (i := 10) (v := undef) rfl rfl (by kernel_rfl) (by kernel_rfl) (by kernel_rfl) (fun _ _ _ h => h) (Or.inr ⟨by rfl, rfl⟩) (by assumption) ?_
              try simp only [Act.put, List.setIfInBounds_toArray, List.set_cons_zero, List.set_cons_succ]
              refine take_d (some 110) (i := 11) (v := undef) rfl rfl (by kernel_rfl) (by kernel_rfl) (by kernel_rfl) (fun _ _ _ h => h) (Or.inr ⟨by rfl, rfl⟩) (by assumption) ?_
              try simp only [Act.put, List.setIfInBounds_toArray, List.set_cons_zero, List.set_cons_succ]
              refine take_d (some 111) (i := 12) (v := undef) rfl rfl (by kernel_rfl) (by kernel_rfl) (by kernel_rfl) (fun _ _ _ h => h) (Or.inr ⟨by rfl, rfl⟩) (by assumption) ?_
              try simp only [Act.put, List.setIfInBounds_toArray, List.set_cons_zero, List.set_cons_succ]
              refine take_d (some 112) (i := 13) (v := undef) rfl rfl (by kernel_rfl) (by kernel_rfl) (by kernel_rfl) (fun _ _ _ h => h) (Or.inr ⟨by rfl, rfl⟩) (by assumption) ?_
              try simp only [Act.put, List.setIfInBounds_toArray, List.set_cons_zero, List.set_cons_succ]
              refine take_d (some 113) (i := 14) (v := ?_) rfl rfl (by kernel_rfl) (by kernel_rfl) (by kernel_rfl) (fun _ _ _ h => h) (Or.inl ⟨by rfl, ?_⟩) (by assumption) ?_
              rotate_left
              · intro w hSw; (try dsimp only at hSw); go_simp; (try with_reducible rfl)
              try simp only [Act.put, List.setIfInBounds_toArray, List.set_cons_zero, List.set_cons_succ]
              refine wpAnyH_done (by kernel_rfl) ?_ _
              refine NoPanic.normal ?_
              have HM9 := Lib.hid (show PMade w1 g (.slice Al L cl) (.slice Ah L ch) ls hs _ from hSK.2.2.2.2.2.2.2.1)
              have HZ9 := Lib.hid (HZ8.out.bel hSK.2.2.2.2.2.2.2.2)
              clear hSK hS HM8 HZ8 HSU
              go_wp2_with fail
              go_roundw
              case rel => exact ⟨j + 1, hj4, by go_num, HM9, HZ9⟩
              case measure => simp [intOf]; omega
            · obtain rfl : kq = bq := by
                have h := HB1.out rfl
                rw [← HKQ.out, ← HBQ.out, Bool.eq_iff_iff, beq_iff_eq]
                exact h
              clear HB1
              refine take_d (some 106) (i := 7) (v := ?_) rfl rfl (by kernel_rfl) (by kernel_rfl) (by kernel_rfl) (fun _ _ _ h => h) (Or.inl ⟨by rfl, ?_⟩) (by assumption) ?_
              rotate_left
              · intro w hSw; (try dsimp only at hSw); go_simp; (try with_reducible rfl)
              try simp only [Act.put, List.setIfInBounds_toArray, List.set_cons_zero, List.set_cons_succ]
              refine take_d (some 107) (i := 8) (v := ?_) rfl rfl (by kernel_rfl) (by kernel_rfl) (by kernel_rfl) (fun _ _ _ h => h) (Or.inl ⟨by rfl, ?_⟩) (by assumption) ?_
              rotate_left
              · intro w hSw; (try dsimp only at hSw); go_simp; (try with_reducible rfl)
              try simp only [Act.put, List.setIfInBounds_toArray, List.set_cons_zero, List.set_cons_succ]
              refine take_d (some 108) (i := 9) (v := ?_) rfl rfl (by kernel_rfl) (by kernel_rfl) (by kernel_rfl) (fun _ _ _ h => h) (Or.inl ⟨by rfl, ?_⟩) (by assumption) ?_
              rotate_left
              · intro w hSw; (try dsimp only at hSw); go_simp; (try with_reducible rfl)
              try simp only [Act.put, List.setIfInBounds_toArray, List.set_cons_zero, List.set_cons_succ]
              refine take_d (some 109) (i := 10) (v := ?_) rfl rfl (by kernel_rfl) (by kernel_rfl) (by kernel_rfl) (fun _ _ _ h => h) (Or.inl ⟨by rfl, ?_⟩) (by assumption) ?_
              rotate_left
              · intro w hSw; (try dsimp only at hSw); go_simp; (try with_reducible rfl)
              try simp only [Act.put, List.setIfInBounds_toArray, List.set_cons_zero, List.set_cons_succ]
              refine take_d (some 110) (i := 11) (v := ?_) rfl rfl (by kernel_rfl) (by kernel_rfl) (by kernel_rfl) (fun _ _ _ h => h) (Or.inl ⟨by rfl, ?_⟩) (by assumption) ?_
              rotate_left
              · intro w hSw; (try dsimp only at hSw); go_simp; (try with_reducible rfl)
              try simp only [Act.put, List.setIfInBounds_toArray, List.set_cons_zero, List.set_cons_succ]
              refine wpAnyH_ready (rs := [12]) (by kernel_rfl) (by simp) ?_
              refine AllReadyH.cons rfl (fun K hK => ?_) AllReadyH.nil
              go_simp
              refine (rhas_run _ _ _).mono ?_
              rintro e WL ⟨rfl, rfl⟩
              rw [HHA.out]
              have hSK := (show (_ ∧ _ ∧ _ ∧ _ ∧ _ ∧ _ ∧ _ ∧ PMade w1 g (.slice Al L cl) (.slice Ah L ch) ls hs _ ∧ Below W8.heap.size W8 _) from by assumption)
              go_wp2_with fail
              refine hK.out _ _ ?_ (fun hHeld => ?_)
              · exact hSK
              clear hSK
              have hSK := hHeld
              clear hHeld
              clear hK K
              try simp only [Act.put, List.setIfInBounds_toArray, List.set_cons_zero, List.set_cons_succ]
              refine take_d (some 112) (i := 13) (v := ?_) rfl rfl (by kernel_rfl) (by kernel_rfl) (by kernel_rfl) (fun _ _ _ h => h) (Or.inl ⟨by rfl, ?_⟩) (by assumption) ?_
              rotate_left
              · intro w hSw; (try dsimp only at hSw); go_simp; (try with_reducible rfl)
              try simp only [Act.put, List.setIfInBounds_toArray, List.set_cons_zero, List.set_cons_succ]
              refine take_d (some 113) (i := 14) (v := ?_) rfl rfl (by kernel_rfl) (by kernel_rfl) (by kernel_rfl) (fun _ _ _ h => h) (Or.inl ⟨by rfl, ?_⟩) (by assumption) ?_
              rotate_left
              · intro w hSw; (try dsimp only at hSw); go_simp; (try with_reducible rfl)
              try simp only [Act.put, List.setIfInBounds_toArray, List.set_cons_zero, List.set_cons_succ]
              refine wpAnyH_done (by kernel_rfl) ?_ _
              refine NoPanic.normal ?_
              have HM9 := Lib.hid (show PMade w1 g (.slice Al L cl) (.slice Ah L ch) ls hs _ from hSK.2.2.2.2.2.2.2.1)
              have HZ9 := Lib.hid (HZ8.out.bel hSK.2.2.2.2.2.2.2.2)
              clear hSK hS HM8 HZ8 HSU
              go_wp2_with fail
              go_roundw
              case rel => exact ⟨j + 1, hj4, by go_num, HM9, HZ9⟩
              case measure => simp [intOf]; omega
          · obtain rfl : j = 4 := by omega
            clear HM7 HZ7
            go_wp2_with fail
            go_roundw
            case rel => exact ⟨k + 1, hlt, by go_num, HMj⟩
            case measure => simp [intOf]; omega
    · obtain rfl : k = L := by omega
      go_wp2_with fail
      refine (awake15 _).mono ?_
      rintro e W99 ⟨rfl, hb9⟩
      have HF := Lib.hid (bstep HBW.out (HMr.out.bel hb9).below)
      clear hb9
      go_wp2_with fail
      go_ret
      exact ⟨rfl, HF.out⟩
end Go.Proofs.YtacpfcckilnbfaaGreat
