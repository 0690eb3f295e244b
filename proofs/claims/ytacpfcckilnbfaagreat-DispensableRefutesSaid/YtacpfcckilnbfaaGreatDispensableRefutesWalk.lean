/- The walk of DispensableRefutes: a set has a refutation that is accepted exactly if it is not dispensable. -/
import Derived.Test.YtacpfcckilnbfaaGreatPMadeK
import Derived.Test.YtacpfcckilnbfaaGreatDisp8
import Derived.Test.YtacpfcckilnbfaaGreatLink
import Derived.Test.YtacpfcckilnbfaaGreatB6
namespace Go.Proofs.YtacpfcckilnbfaaGreat
set_option linter.unusedVariables false
set_option linter.unusedSimpArgs false
open Go.RowKit

theorem isRow_belowR {k : IntKind} {w w' : World} {a : Option Addr} {len cap : Nat} {zs : List Int} (h : IsRow k w a len cap zs) (hb : Below w.heap.size w w') : IsRow k w' a len cap zs := by
  rcases h with h | ⟨x, h1, h2, h3, h4, h5, h6⟩
  · exact .inl h
  · exact .inr ⟨x, h1, h2, h3, h4, fun i hi => (hb.cell (cell_lt (h5 i hi))).trans (h5 i hi), h6⟩

theorem lack_no {ls hs : List Mem} {s k : Nat} (hp : PairM ls hs) (hl : ls.length ≤ 10) (hk : k < ls.length) (h : AvT hs s) : lackB hs s k = false := by
  have hlh : hs.length ≤ 10 := by rw [hp.len]; exact hl
  cases hb : lackB hs s k
  · rfl
  · unfold lackB at hb
    rw [Bool.and_eq_true, Bool.not_eq_true'] at hb
    have ho : (outS hs.length s).testBit k = true := by rw [outS_bit, hb.1, decide_eq_true (by rw [hp.len]; exact hk)]; rfl
    rcases h with h | h
    · rw [h] at ho; simp at ho
    · have h1 := h.2.1 k ho
      rw [declS_iff, Bool.and_eq_true] at h1
      have h2 := h.2.2 k (by rw [hp.len]; exact hk)
      rw [uns_iff (outS_lt _ _ hlh) (by omega), ho, Bool.true_and, Bool.not_eq_false'] at h2
      rw [h1.2, h2] at hb
      simp at hb
theorem av_of {ls hs : List Mem} {s : Nat} (hp : PairM ls hs) (hl : ls.length ≤ 10) (h : ∀ j, j < ls.length → lackB hs s j = false) : AvT hs s := by
  have hlh : hs.length ≤ 10 := by rw [hp.len]; exact hl
  by_cases h0 : outS hs.length s = 0
  · exact .inl h0
  · have hf : ∀ k, (outS hs.length s).testBit k = true → k < ls.length ∧ (hs.getD k (false, .mk 0 [] [])).1 = true ∧ satB 3 (trOf hs k) ((outS hs.length s : Nat) : Int) = true := fun k hk => by
      have hk2 := hk
      rw [outS_bit, Bool.and_eq_true, decide_eq_true_iff, Bool.not_eq_true', hp.len] at hk2
      have h1 := h k hk2.1
      unfold lackB at h1
      rw [hk2.2, Bool.not_false, Bool.true_and, Bool.or_eq_false_iff, Bool.not_eq_false', Bool.not_eq_false'] at h1
      exact ⟨hk2.1, h1.1, h1.2⟩
    refine .inr ⟨h0, fun k hk => ?_, fun k hk => ?_⟩
    · rw [declS_iff, (hf k hk).2.1, decide_eq_true (by rw [hp.len]; exact (hf k hk).1)]; rfl
    · rw [uns_iff (outS_lt _ _ hlh) (by omega)]
      cases hb : (outS hs.length s).testBit k
      · rfl
      · rw [(hf k hb).2.2]; rfl
theorem refok_no {ls hs : List Mem} {s : Nat} (hp : PairM ls hs) (hl : ls.length ≤ 10) (h : AvT hs s ∧ InT (D3.delM s ls)) : ¬ RefOk s ls hs := by
  rintro (⟨k, hk, hb⟩ | ⟨t, q, h1, h2, h3⟩)
  · rw [lack_no hp hl hk h.1] at hb; cases hb
  · have hll : (D3.delM s ls).length ≤ 10 := by rw [D3.delM_len]; exact hl
    have hq : q < 1024 := Nat.lt_of_lt_of_le (sub_lt h2.2.1) (pow_1024 hll)
    refine h.2 t ⟨h1, q, hq, h2.1, fun k hk => ?_, h2.2.2⟩
    have h5 := h2.2.1 k hk
    rw [Nat.testBit_and, h5, Bool.and_true, outS_bit, decide_eq_true (declS_bit h5)]
    have h6 := congrArg (fun z => z.testBit k) h3
    simp only [Nat.testBit_and, Nat.zero_testBit, hk, Bool.and_true] at h6
    rw [h6]; rfl
theorem ref_yes {ls hs : List Mem} {s : Nat} {e : Ending} (hp : PairM ls hs) (hl : ls.length ≤ 10) (h : RefIs s ls hs e) (hy : AvT hs s ∧ InT (D3.delM s ls)) : e = .returned (.tuple #[.agg #[.int .i64 0, .int .i64 0, .int .i64 0], .int .i64 11]) := by
  rcases h with ⟨k, hk, hb, _⟩ | ⟨_, ⟨a, b, _, ha, _⟩ | ⟨h, _⟩⟩
  · rw [lack_no hp hl hk hy.1] at hb; cases hb
  · exact absurd ha (hy.2 a)
  · exact h
theorem ref_not {ls hs : List Mem} {s : Nat} {e : Ending} (hp : PairM ls hs) (hl : ls.length ≤ 10) (h : RefIs s ls hs e) (hn : ¬ (AvT hs s ∧ InT (D3.delM s ls))) :
    (∃ k : Nat, k < ls.length ∧ lackB hs s k = true ∧ e = .returned (.tuple #[.agg #[.int .i64 (k : Int), .int .i64 0, .int .i64 0], .int .i64 0])) ∨
    (∃ a b : Nat, a < 1024 ∧ b < 1024 ∧ IsQ 3 (D3.delM s ls) a ∧ IsQ 3 (D3.delM s ls) b ∧ a &&& b = 0 ∧ e = .returned (.tuple #[.agg #[.int .i64 (-1), .int .i64 (a : Int), .int .i64 (b : Int)], .int .i64 0])) := by
  rcases h with ⟨k, hk, hb, _, he⟩ | ⟨hno, ⟨a, b, he, ha, hg, hb10, hb0⟩ | ⟨_, hi⟩⟩
  · exact .inl ⟨k, hk, hb, he⟩
  · have hll : (D3.delM s ls).length ≤ 10 := by rw [D3.delM_len]; exact hl
    have ha10 : a < 1024 := Nat.lt_of_lt_of_le (sub_lt ha.1.2.1) (pow_1024 hll)
    refine .inr ⟨a, b, ha10, hb10, ha.1, ⟨hb0, fun k hk => ?_, hg.closed⟩, ?_, he⟩
    · have := hg.sub k hk
      rw [Nat.testBit_and, Bool.and_eq_true] at this; exact this.2
    · apply Nat.eq_of_testBit_eq
      intro k
      rw [Nat.testBit_and, Nat.zero_testBit]
      cases hbk : b.testBit k
      · rw [Bool.and_false]
      · have := hg.sub k hbk
        rw [Nat.testBit_and, Bool.and_eq_true, outS_bit, Bool.and_eq_true, Bool.not_eq_true'] at this
        rw [this.1.2]; rfl
  · exact absurd ⟨av_of hp hl hno, hi⟩ hn
set_option maxRecDepth 100000 in
set_option maxHeartbeats 8000000 in
theorem walkDispensableRefutes (a0 : Option Addr) (len0 cap0 : Nat) (z0 : List Int) (x1 y1 u1 : Int) (w : World) (w0 : IsRow .i64 w a0 len0 cap0 z0) :
    Calls Tryz.prog 5 #[.slice a0 len0 cap0, .agg #[.int .i64 x1, .int .i64 y1, .int .i64 u1]] w fun e w' => e = .returned (.bool true) ∧ Below w.heap.size w w' := by
  have HR := Lib.hid (isRow_belowR w0 (balloc (bref w) (.cells #[.int .i64 x1, .int .i64 y1, .int .i64 u1] 42)))
  have HBX := Lib.hid (show (w.alloc (.cells #[.int .i64 x1, .int .i64 y1, .int .i64 u1] 42)).heap[w.heap.size]? = some (.cells #[.int .i64 x1, .int .i64 y1, .int .i64 u1] 42 (0, 0)) from alloc_at rfl)
  have HBW := Lib.hid (show Below w.heap.size w (w.alloc (.cells #[.int .i64 x1, .int .i64 y1, .int .i64 u1] 42)) from balloc (bref w) _)
  clear w0
  go_enter Tryz.func5, Tryz.ntmps5
  go_upto_region 1 with fail
  generalize (w.alloc (.cells #[.int .i64 x1, .int .i64 y1, .int .i64 u1] 42)) = w1 at *
  generalize hrb : w.heap.size = rb at HBX
  clear hrb
  go_wp2_with fail
  refine (TNew_run _ _ _ _ _ HR.out).mono ?_
  rintro e v0 ⟨rfl, hs0, hb0⟩
  have HS0 := Lib.hid hs0
  have HB0 := Lib.hid hb0
  have hsl := hs0.lt
  clear hs0 hb0 HR
  go_wp2_with fail
  refine (mkPair_run _ 5 (by omega) (by omega) _ HS0.out).mono ?_
  rintro e v2 ⟨vl, vh, ls, hs, rfl, hpm, hln, hML, hMH, hs2, hg2⟩
  obtain ⟨Al, cl, rfl⟩ := hML.slice
  obtain ⟨Ah, ch, rfl⟩ := hMH.slice
  have hlen := hpm.len
  obtain ⟨L, hL⟩ : ∃ L, ls.length = L := ⟨_, rfl⟩
  rw [hlen] at hMH ⊢
  rw [hL] at hML hMH hln ⊢
  have HM := Lib.hid (show PMade w1 v2.heap.size (.slice Al L cl) (.slice Ah L ch) ls hs ((v2.alloc (.cells #[.slice Al L cl] 27)).alloc (.cells #[.slice Ah L ch] 27)) from
    (show PMade w1 v2.heap.size (.slice Al L cl) (.slice Ah L ch) ls hs _ from ⟨(hs2.alloc _).alloc _, alloc_on (alloc_at rfl), alloc_at (alloc_sz _ _),
      (hML.both (w' := v2) (Q := fun b => w1.heap.size < b) (fun _ _ _ => rfl) (fun k _ hk => by have : v0.heap.size ≤ k := hk; omega)).below (balloc (balloc (bref v2) _) _),
      (hMH.both (w' := v2) (Q := fun b => w1.heap.size < b) (fun _ _ _ => rfl) (fun k _ hk => by have : v0.heap.size ≤ k := hk; omega)).below (balloc (balloc (bref v2) _) _), hs2.lt, bstep (bgrownC HB0.out hg2 (Nat.le_refl _)) (balloc (balloc (bref v2) _) _)⟩))
  have HP := Lib.hid hpm
  have HL := Lib.hid hL
  have HLH := Lib.hid (hlen.trans hL)
  have h1L : 1 ≤ L := by rw [← hL]; exact hpm.one
  have hp2 : 2 ^ L ≤ 2 ^ 5 := Nat.pow_le_pow_right (by omega) hln
  have hp1 : 1 ≤ 2 ^ L := Nat.one_le_two_pow
  have hpw := pow11 L (by omega)
  have hn64 : (L : Int) < 64 := by omega
  have hn0 : (0 : Int) ≤ (L : Int) := by omega
  obtain ⟨N, hN⟩ : ∃ N, 2 ^ L = N := ⟨_, rfl⟩
  have HNN := Lib.hid hN
  rw [hN] at hp2 hp1 hpw
  clear hN
  clear hML hMH hs2 hg2 HS0 HB0 hlen hpm hL
  go_upto_region 3 with fail
  generalize ((v2.alloc (.cells #[.slice Al L cl] 27)).alloc (.cells #[.slice Ah L ch] 27)) = W1 at *
  generalize v2.heap.size = g at *
  have HOF := Lib.hid (show ∀ W, PMade w1 g (.slice Al L cl) (.slice Ah L ch) ls hs W → W.cell? ⟨g, 0, none⟩ = some (.slice Al L cl) ∧ W.cell? ⟨g + 1, 0, none⟩ = some (.slice Ah L ch) ∧ W.cell? ⟨rb, 0, none⟩ = some (.int .i64 x1) ∧ W.cell? ⟨rb, 1, none⟩ = some (.int .i64 y1) ∧ W.cell? ⟨rb, 2, none⟩ = some (.int .i64 u1) ∧ PMade w1 g (.slice Al L cl) (.slice Ah L ch) ls hs W from fun W h => by
    have hr := (h.below.block rb (Array.getElem?_eq_some_iff.1 HBX.out).1).trans HBX.out
    exact ⟨h.cl, h.ch, cell_of_row _ _ 0 _ _ (0, 0) hr, cell_of_row _ _ 1 _ _ (0, 0) hr, cell_of_row _ _ 2 _ _ (0, 0) hr, h⟩)
  have HM0 := HM
  have c0 := HM.out.cl
  have hNi : (1 : Int) ≤ (N : Int) := by omega
  go_wp2_with fail
  refine (TN_run _ _ (N : Int) (by omega) (by omega) HM0.out.tape).mono ?_
  rintro e W2 ⟨r, hr0, hr1, rfl, hs2, hg2⟩
  obtain ⟨s, rfl⟩ : ∃ s : Nat, r = (s : Int) := ⟨r.toNat, by omega⟩
  have HM2 := Lib.hid (HM0.out.grown hs2 hg2)
  have HS := Lib.hid (show s < 2 ^ ls.length by rw [HL.out, HNN.out]; omega)
  clear hs2 hg2 c0 HM0 HM
  have c0 := HM2.out.cl
  have c1 := HM2.out.ch
  go_wp2_with fail
  refine (rdIs_run _ _ ls hs _ _ s HS.out _ (by rw [HL.out]; omega) HM2.out.ml HM2.out.mh HP.out).mono ?_
  rintro e W3 ⟨⟨yes, rfl, hy⟩, hbx⟩
  have HM3 := Lib.hid (HM2.out.bel hbx)
  have HY := Lib.hid hy
  clear hy
  clear hbx c0 c1
  have c0 := HM3.out.cl
  have c1 := HM3.out.ch
  go_wp2_with fail
  refine (dprefute_run _ _ ls hs _ _ s HS.out _ (by rw [HL.out]; omega) HM3.out.ml HM3.out.mh HP.out).mono ?_
  rintro e W4 ⟨hri, hbx⟩
  have HM4 := Lib.hid (HM3.out.bel hbx)
  clear hbx c0 c1
  cases yes
  · have HN := Lib.hid (ref_not HP.out (by rw [HL.out]; omega) hri (fun h => by have := HY.out.2 h; cases this))
    clear hri
    rcases HN.out with ⟨k, hk, hlk, rfl⟩ | ⟨a, b, ha10, hb10, hqa, hqb, hab, rfl⟩
    · have HK := Lib.hid hk
      have HLK := Lib.hid hlk
      clear hk hlk
      have hba := balloc (bref W4) (.cells #[.int .i64 (k : Int), .int .i64 0, .int .i64 0] 42)
      have HXR := Lib.hid (show (W4.alloc (.cells #[.int .i64 (k : Int), .int .i64 0, .int .i64 0] 42)).heap[W4.heap.size]? = some (.cells #[.int .i64 (k : Int), .int .i64 0, .int .i64 0] 42 (0, 0)) from alloc_at rfl)
      have HM5 := Lib.hid (HM4.out.bel hba)
      clear hba
      go_upto_region 6 with fail
      generalize (W4.alloc (.cells #[.int .i64 (k : Int), .int .i64 0, .int .i64 0] 42)) = WR at *
      generalize W4.heap.size = xb at *
      have hxr := HXR.out
      have x0 : WR.cell? ⟨xb, 0, none⟩ = some (.int .i64 (k : Int)) := cell_of_row _ _ 0 _ _ (0, 0) hxr
      have x1' : WR.cell? ⟨xb, 1, none⟩ = some (.int .i64 0) := cell_of_row _ _ 1 _ _ (0, 0) hxr
      have x2' : WR.cell? ⟨xb, 2, none⟩ = some (.int .i64 0) := cell_of_row _ _ 2 _ _ (0, 0) hxr
      have c0 := HM5.out.cl
      have c1 := HM5.out.ch
      clear hxr
      go_wp2_with fail
      refine (rdcheckN_run _ _ ls hs _ _ k s HK.out HLK.out HS.out _ (by rw [HL.out]; omega) HM5.out.ml HM5.out.mh HP.out).mono ?_
      rintro e W6 ⟨rfl, hb6⟩
      have HM6 := Lib.hid (HM5.out.bel hb6)
      have x0'' := (hb6.cell (cell_lt x0)).trans x0
      have x1'' := (hb6.cell (cell_lt x1')).trans x1'
      have x2'' := (hb6.cell (cell_lt x2')).trans x2'
      clear hb6 c0 c1 x0 x1' x2'
      have c0 := HM6.out.cl
      have c1 := HM6.out.ch
      go_wp2_with fail
      refine (dpcheckN_run _ _ ls hs _ _ k s HK.out HS.out _ (by rw [HL.out]; omega) HM6.out.ml HM6.out.mh HP.out).mono ?_
      rintro e W7 ⟨rfl, hb7⟩
      rw [HLK.out]
      have HM7 := Lib.hid (HM6.out.bel hb7)
      clear hb7 c0 c1 x0'' x1'' x2''
      have HM8 := Lib.hid (HM7.out.bel (bdrew (bref W7)))
      go_upto_region 8 with fail
      go_region
      go_wp2_with fail
      refine (awake14 _).mono ?_
      rintro e W99 ⟨rfl, hb9⟩
      have HF := Lib.hid (bstep HBW.out (HM8.out.bel hb9).below)
      clear hb9
      go_wp2_with fail
      go_ret
      exact ⟨rfl, HF.out⟩
    · have HQA := Lib.hid hqa
      have HQB := Lib.hid hqb
      have HAB := Lib.hid hab
      clear hqa hqb hab
      have hba := balloc (bref W4) (.cells #[.int .i64 (-1), .int .i64 (a : Int), .int .i64 (b : Int)] 42)
      have HXR := Lib.hid (show (W4.alloc (.cells #[.int .i64 (-1), .int .i64 (a : Int), .int .i64 (b : Int)] 42)).heap[W4.heap.size]? = some (.cells #[.int .i64 (-1), .int .i64 (a : Int), .int .i64 (b : Int)] 42 (0, 0)) from alloc_at rfl)
      have HM5 := Lib.hid (HM4.out.bel hba)
      clear hba
      go_upto_region 6 with fail
      generalize (W4.alloc (.cells #[.int .i64 (-1), .int .i64 (a : Int), .int .i64 (b : Int)] 42)) = WR at *
      generalize W4.heap.size = xb at *
      have hxr := HXR.out
      have x0 : WR.cell? ⟨xb, 0, none⟩ = some (.int .i64 (-1)) := cell_of_row _ _ 0 _ _ (0, 0) hxr
      have x1' : WR.cell? ⟨xb, 1, none⟩ = some (.int .i64 (a : Int)) := cell_of_row _ _ 1 _ _ (0, 0) hxr
      have x2' : WR.cell? ⟨xb, 2, none⟩ = some (.int .i64 (b : Int)) := cell_of_row _ _ 2 _ _ (0, 0) hxr
      have c0 := HM5.out.cl
      have c1 := HM5.out.ch
      clear hxr
      go_wp2_with fail
      refine (rdcheckT_run _ _ ls hs _ _ s a b ha10 hb10 HQA.out HQB.out HAB.out HS.out _ (by rw [HL.out]; omega) HM5.out.ml HM5.out.mh HP.out).mono ?_
      rintro e W6 ⟨rfl, hb6⟩
      have HM6 := Lib.hid (HM5.out.bel hb6)
      have x0'' := (hb6.cell (cell_lt x0)).trans x0
      have x1'' := (hb6.cell (cell_lt x1')).trans x1'
      have x2'' := (hb6.cell (cell_lt x2')).trans x2'
      clear hb6 c0 c1 x0 x1' x2'
      have c0 := HM6.out.cl
      have c1 := HM6.out.ch
      go_wp2_with fail
      refine (dpcheckT_run _ _ ls hs _ _ s a b ha10 hb10 HQA.out HQB.out HAB.out HS.out _ (by rw [HL.out]; omega) HM6.out.ml HM6.out.mh HP.out).mono ?_
      rintro e W7 ⟨rfl, hb7⟩
      have HM7 := Lib.hid (HM6.out.bel hb7)
      clear hb7 c0 c1 x0'' x1'' x2''
      have HM8 := Lib.hid (HM7.out.bel (bdrew (bref W7)))
      go_upto_region 8 with fail
      go_region
      go_wp2_with fail
      refine (awake14 _).mono ?_
      rintro e W99 ⟨rfl, hb9⟩
      have HF := Lib.hid (bstep HBW.out (HM8.out.bel hb9).below)
      clear hb9
      go_wp2_with fail
      go_ret
      exact ⟨rfl, HF.out⟩
  · have HYY := Lib.hid (HY.out.1 (by first | rfl | trivial))
    obtain rfl := ref_yes HP.out (by rw [HL.out]; omega) hri HYY.out
    have HNO := Lib.hid (refok_no HP.out (by rw [HL.out]; omega) HYY.out)
    clear hri
    have hba := balloc (bref W4) (.cells #[.int .i64 0, .int .i64 0, .int .i64 0] 42)
    have HXR := Lib.hid (show (W4.alloc (.cells #[.int .i64 0, .int .i64 0, .int .i64 0] 42)).heap[W4.heap.size]? = some (.cells #[.int .i64 0, .int .i64 0, .int .i64 0] 42 (0, 0)) from alloc_at rfl)
    have HM5 := Lib.hid (HM4.out.bel hba)
    clear hba
    go_upto_region 6 with fail
    generalize (W4.alloc (.cells #[.int .i64 0, .int .i64 0, .int .i64 0] 42)) = WR at *
    generalize W4.heap.size = xb at *
    have hxr := HXR.out
    clear hxr
    go_upto_region 8 with fail
    have hS := Lib.hid (HOF.out _ (HM5.out.bel (bdrew (bref WR))))
    have HCK := Lib.hid (fun W x0 x1 x2 (h : PMade w1 g (.slice Al L cl) (.slice Ah L ch) ls hs W) => (dpcheckI_run _ _ ls hs (.slice Al L cl) (.slice Ah L ch) s x0 x1 x2 HS.out W (by rw [HL.out]; omega) h.ml h.mh HP.out))
    go_region_held3 (fun W => W.cell? ⟨g, 0, none⟩ = some (.slice Al L cl) ∧ W.cell? ⟨g + 1, 0, none⟩ = some (.slice Ah L ch) ∧ W.cell? ⟨rb, 0, none⟩ = some (.int .i64 x1) ∧ W.cell? ⟨rb, 1, none⟩ = some (.int .i64 y1) ∧ W.cell? ⟨rb, 2, none⟩ = some (.int .i64 u1) ∧ PMade w1 g (.slice Al L cl) (.slice Ah L ch) ls hs W) (first | exact hS.out | exact hSK | go_keep)
      (first
        | (go_at_call 21; refine (TN_run _ _ _ (by omega) (by omega) (by exact (show _ ∧ _ ∧ _ ∧ _ ∧ _ ∧ PMade w1 g (.slice Al L cl) (.slice Ah L ch) ls hs _ from by assumption).2.2.2.2.2.tape)).mono ?_; rintro e WK ⟨r, hr0, hr1, rfl, hs2, hg2⟩; have hSK := HOF.out _ ((show _ ∧ _ ∧ _ ∧ _ ∧ _ ∧ PMade w1 g (.slice Al L cl) (.slice Ah L ch) ls hs _ from by assumption).2.2.2.2.2.grown hs2 hg2); clear hs2 hg2)
        | (go_at_call 25; refine (HCK.out _ _ _ _ (by exact (show _ ∧ _ ∧ _ ∧ _ ∧ _ ∧ PMade w1 g (.slice Al L cl) (.slice Ah L ch) ls hs _ from by assumption).2.2.2.2.2)).mono ?_; rintro e WL ⟨⟨bb, rfl, hbb⟩, hbK⟩; have hSK := HOF.out _ ((show _ ∧ _ ∧ _ ∧ _ ∧ _ ∧ PMade w1 g (.slice Al L cl) (.slice Ah L ch) ls hs _ from by assumption).2.2.2.2.2.bel hbK); obtain rfl : bb = false := Bool.eq_false_iff.2 (fun h => HNO.out (hbb h)); clear hbb hbK))
    all_goals
      have HM9 := Lib.hid (show PMade w1 g (.slice Al L cl) (.slice Ah L ch) ls hs _ from hSK.2.2.2.2.2)
      go_wp2_with fail
      refine (awake14 _).mono ?_
      rintro e W99 ⟨rfl, hb9⟩
      have HF := Lib.hid (bstep HBW.out (HM9.out.bel hb9).below)
      clear hb9
      go_wp2_with fail
      go_ret
      exact ⟨rfl, HF.out⟩
end Go.Proofs.YtacpfcckilnbfaaGreat
