/- The walk of FederatedBelieves: no intact member may accept by what others have accepted alone; all intact ones together may confirm. -/
import Derived.Test.YtnfdacfhhkahhaaB5
namespace Go.Proofs.Ytnfdacfhhkahhaa
set_option linter.unusedVariables false
set_option linter.unusedSimpArgs false
open Go.RowKit

theorem acc_no {ms : List Mem} {k b : Nat} (h1 : blkM 3 ms b k = false) (h2 : b.testBit k = false) : accB 3 ms k 0 b = false := by
  unfold accB
  rw [h1, Bool.false_or, Nat.zero_or]
  cases h : rdyB 3 ms (b &&& declS ms ms.length) k
  · rfl
  · obtain ⟨Q, _, hs, _, hk⟩ := rdyB_iff.1 h
    have := hs k hk
    rw [Nat.testBit_and, h2] at this
    cases this

theorem rdy_yes {ms : List Mem} {D k a : Nat} (hl : ms.length ≤ 10) (hD : declS ms ms.length = D) (hq : QB (fOf ms) D 0 a) (hk : a.testBit k = true) : rdyB 3 ms (a &&& declS ms ms.length) k = true := by
  subst hD
  have h := (isq_zero hl hq.2.1).2 hq
  refine rdyB_iff.2 ⟨a, hq.2.1, fun j hj => ?_, h.2.2, hk⟩
  rw [Nat.testBit_and, hj, h.2.1 j hj]; rfl

theorem acc_yes {ms : List Mem} {D k a : Nat} (hl : ms.length ≤ 10) (hD : declS ms ms.length = D) (hq : QB (fOf ms) D 0 a) (hk : a.testBit k = true) : accB 3 ms k a 0 = true := by
  unfold accB
  rw [Nat.or_zero, rdy_yes hl hD hq hk, Bool.or_true]

/-- The pair's world and the list that the law goes through. -/
def PMN (w : World) (g : Nat) (vl vh : Value) (ls hs : List Mem) (vn : Value) (l : List Int) (W : World) : Prop := PMade w g vl vh ls hs W ∧ NodesAt (fun b => w.heap.size < b) W vn l

theorem pnK {w W W' : World} {g : Nat} {vl vh vn : Value} {ls hs : List Mem} {l : List Int} (h : W.cell? ⟨g, 0, none⟩ = some vl ∧ W.cell? ⟨g + 1, 0, none⟩ = some vh ∧ PMN w g vl vh ls hs vn l W) (hb : Below W.heap.size W W') : W'.cell? ⟨g, 0, none⟩ = some vl ∧ W'.cell? ⟨g + 1, 0, none⟩ = some vh ∧ PMN w g vl vh ls hs vn l W' := ⟨(h.2.2.1.bel hb).cl, (h.2.2.1.bel hb).ch, h.2.2.1.bel hb, h.2.2.2.below hb⟩

theorem pnG {w W W' : World} {g : Nat} {vl vh vn : Value} {ls hs : List Mem} {l : List Int} (h : W.cell? ⟨g, 0, none⟩ = some vl ∧ W.cell? ⟨g + 1, 0, none⟩ = some vh ∧ PMN w g vl vh ls hs vn l W) (h2 : TapeOk W' w.heap.size) (h3 : W.grownBy W' (some w.heap.size)) : W'.cell? ⟨g, 0, none⟩ = some vl ∧ W'.cell? ⟨g + 1, 0, none⟩ = some vh ∧ PMN w g vl vh ls hs vn l W' :=
  ⟨(h.2.2.1.grown h2 h3).cl, (h.2.2.1.grown h2 h3).ch, h.2.2.1.grown h2 h3, h.2.2.2.both (fun p hp hP => h3.block p hp (by simp; omega)) (fun _ _ h => h)⟩

theorem pnS {w W : World} {g : Nat} {vl vh vn : Value} {ls hs : List Mem} {l : List Int} (h : W.cell? ⟨g, 0, none⟩ = some vl ∧ W.cell? ⟨g + 1, 0, none⟩ = some vh ∧ PMN w g vl vh ls hs vn l W) : PMade w g vl vh ls hs W := h.2.2.1

theorem pnN {w W : World} {g : Nat} {vl vh vn : Value} {ls hs : List Mem} {l : List Int} (h : W.cell? ⟨g, 0, none⟩ = some vl ∧ W.cell? ⟨g + 1, 0, none⟩ = some vh ∧ PMN w g vl vh ls hs vn l W) : NodesAt (fun b => w.heap.size < b) W vn l := h.2.2.2

set_option maxRecDepth 100000 in
set_option maxHeartbeats 8000000 in
theorem walkFederatedBelieves (a0 : Option Addr) (len0 cap0 : Nat) (z0 : List Int) (w : World) (w0 : IsRow .i64 w a0 len0 cap0 z0) :
    Calls Try.prog 4 #[.slice a0 len0 cap0] w fun e w' => e = .returned (.bool true) ∧ Below w.heap.size w w' := by
  have HR := Lib.hid w0
  clear w0
  go_enter Try.func4, Try.ntmps4
  go_wp2_with fail
  refine (TNew_run _ _ _ _ _ HR.out).mono ?_
  rintro e v0 ⟨rfl, hs0, hb0⟩
  have HS0 := Lib.hid hs0
  have HB0 := Lib.hid hb0
  have hsl := hs0.lt
  clear hs0 hb0 HR
  go_wp2_with fail
  refine (mkPair_run _ 6 (by omega) (by omega) _ HS0.out).mono ?_
  rintro e v2 ⟨vl, vh, ls, hs, rfl, hpm, hln, hML, hMH, hs2, hg2⟩
  obtain ⟨Al, cl, rfl⟩ := hML.slice
  obtain ⟨Ah, ch, rfl⟩ := hMH.slice
  have hlen := hpm.len
  obtain ⟨L, hL⟩ : ∃ L, ls.length = L := ⟨_, rfl⟩
  rw [hlen] at hMH ⊢
  rw [hL] at hML hMH hln ⊢
  have HM := Lib.hid (show PMade w v2.heap.size (.slice Al L cl) (.slice Ah L ch) ls hs ((v2.alloc (.cells #[.slice Al L cl] 27)).alloc (.cells #[.slice Ah L ch] 27)) from
    (show PMade w v2.heap.size (.slice Al L cl) (.slice Ah L ch) ls hs _ from ⟨(hs2.alloc _).alloc _, alloc_on (alloc_at rfl), alloc_at (alloc_sz _ _),
      (hML.both (w' := v2) (Q := fun b => w.heap.size < b) (fun _ _ _ => rfl) (fun k _ hk => by have : v0.heap.size ≤ k := hk; omega)).below (balloc (balloc (bref v2) _) _),
      (hMH.both (w' := v2) (Q := fun b => w.heap.size < b) (fun _ _ _ => rfl) (fun k _ hk => by have : v0.heap.size ≤ k := hk; omega)).below (balloc (balloc (bref v2) _) _), hs2.lt, bstep (bgrownC HB0.out hg2 (Nat.le_refl _)) (balloc (balloc (bref v2) _) _)⟩))
  have HP := Lib.hid hpm
  have HL := Lib.hid hL
  have HLH := Lib.hid (hlen.trans hL)
  have h1L : 1 ≤ L := by rw [← hL]; exact hpm.one
  have hp2 : 2 ^ L ≤ 2 ^ 6 := Nat.pow_le_pow_right (by omega) hln
  have hp1 : 1 ≤ 2 ^ L := Nat.one_le_two_pow
  have hpw := pow11 L (by omega)
  have hn64 : (L : Int) < 64 := by omega
  have hn0 : (0 : Int) ≤ (L : Int) := by omega
  obtain ⟨M, hM⟩ : ∃ M, 2 ^ L - 1 = M := ⟨_, rfl⟩
  have HMM := Lib.hid hM
  obtain ⟨N, hN⟩ : ∃ N, 2 ^ L = N := ⟨_, rfl⟩
  have HNN := Lib.hid hN
  rw [hN] at hp2 hp1 hpw hM
  have HMN := Lib.hid (show M + 1 = N by omega)
  have hM64 : M < 64 := by omega
  clear hN hM
  clear hML hMH hs2 hg2 HS0 HB0 hlen hpm hL
  go_upto_region 3 with fail
  generalize ((v2.alloc (.cells #[.slice Al L cl] 27)).alloc (.cells #[.slice Ah L ch] 27)) = W1 at *
  generalize v2.heap.size = g at *
  have HM0 := HM
  have c0 := HM0.out.cl
  have c1 := HM0.out.ch
  go_wp2_with fail
  refine (D3.mkSetN_run _ ls _ _ (by rw [HL.out]; exact h1L) (by rw [HL.out]; omega) HM0.out.tape HM0.out.ml).mono ?_
  rintro e W1 ⟨s, rfl, hs1, hs2, hg2⟩
  have HM1 := Lib.hid (HM0.out.grown hs2 hg2)
  have HSs := Lib.hid hs1
  clear hs1 hs2 hg2 c0 c1
  have c0 := HM1.out.cl
  have c1 := HM1.out.ch
  go_wp2_with fail
  refine (rfof_run _ _ ls hs _ _ s HSs.out _ (by rw [HL.out]; omega) HM1.out.ml HM1.out.mh HP.out).mono ?_
  rintro e W2 ⟨⟨a, rfl, ha⟩, hbx⟩
  have HM2 := Lib.hid (HM1.out.bel hbx)
  have HA := Lib.hid ha
  clear ha
  clear hbx c0 c1
  have c0 := HM2.out.cl
  have hal := HA.out.lt
  rw [HL.out, HNN.out] at hal
  have hMa : a < 64 := by have := HMN.out; omega
  have han : bits .andNot .i64 (M : Int) (a : Int) = ((outS L a : Nat) : Int) := by
    have h := andNot_nat M a (by omega) (by omega)
    rw [h]; unfold outS; rw [HMM.out]
  have HOD := Lib.hid (show ∀ j, a.testBit j = true → (outS L a).testBit j = false from fun j hj => by rw [outS_bit, hj]; simp)
  have hOl := outS_lt L a (by omega)
  generalize outS L a = bf at han HOD hOl
  have hN1 := Lib.hid (show (N : Int) - 1 = (M : Int) by have := HMN.out; omega)
  have HAN := Lib.hid han
  clear hal HM HM0 HM1 han
  go_upto_region 8 with fail
  rw [hN1.out, HAN.out]
  clear c0 hpw
  go_wp2_with fail
  refine (rnodes_run a _ (by omega)).mono ?_
  rintro e W3 ⟨vn, rfl, hnv, hb3⟩
  have HM3 := Lib.hid (HM2.out.bel hb3)
  have hge : w.heap.size < W3.heap.size := by have := HM3.out.lt; have := HM3.out.low; omega
  have HNV0 := Lib.hid (hnv.both (w' := W3) (Q := fun b => w.heap.size < b) (fun _ _ _ => rfl) (fun q _ hq => by have := HM2.out.lt; have := HM2.out.low; show w.heap.size < q; have h5 : _ ≤ q := hq; omega))
  obtain ⟨Nn, cn, rfl⟩ := hnv.slice
  obtain ⟨m, hm⟩ : ∃ m, (nodL a 10).length = m := ⟨_, rfl⟩
  have hm10 := nodL_len a 10
  have hnv2 := HNV0.out
  rw [hm] at hm10 hnv2 ⊢
  have HNV := Lib.hid hnv2
  have HMm := Lib.hid hm
  clear hb3 hnv hm HNV0 hnv2 HM2
  go_wp2_with fail
  go_loopw [41] (fun t W => ∃ j : Nat, j ≤ m ∧ t = .int .i64 (j : Int) ∧ Hid (PMade w g (.slice Al L cl) (.slice Ah L ch) ls hs W) ∧ Hid (NodesAt (fun b => w.heap.size < b) W (.slice Nn m cn) (nodL a 10))) (fun t _ => m - (intOf t).toNat)
  case atStart => exact ⟨0, Nat.zero_le _, rfl, HM3, HNV⟩
  case round =>
    obtain ⟨j, hj, rfl, HMr, HNr⟩ := hrel
    by_cases hlt : j < m
    · obtain ⟨An, cn', hAn, hcl⟩ := HNr.out
      injection hAn with q1 q2 q3
      subst q1
      obtain ⟨bn, on, hbn, _, hcn⟩ := hcl j (by rw [HMm.out]; exact hlt)
      subst hbn
      obtain ⟨k, hkk, hk10, hkb⟩ := (nodL_mem a 10 ((nodL a 10).getD j 0)).1 (by rw [List.getD_eq_getElem?_getD, List.getElem?_eq_getElem (by rw [HMm.out]; exact hlt)]; exact List.getElem_mem _)
      rw [hkk] at hcn
      have hlsl : ls.length ≤ 10 := by rw [HL.out]; omega
      have hhsl : hs.length ≤ 10 := by rw [HLH.out]; omega
      have ha0 : a ≠ 0 := by rintro rfl; simp at hkb
      have hQ := rof_quorum HP.out hlsl HSs.out HA.out ha0
      have hak : a < 1024 := by omega
      have HBK := fun x (hx : x < 1024) (hd : ∀ j, a.testBit j = true → x.testBit j = false) => rof_blocks HP.out hlsl HSs.out HA.out hkb hx hd
      have A1 := Lib.hid (fun W (h : PMade w g (.slice Al L cl) (.slice Ah L ch) ls hs W) => show Calls Try.prog 18 #[.agg #[.slice Ah L ch], .int .i64 (k : Int), .int .i64 0, .int .i64 (bf : Int)] W (fun e w' => e = .returned (.bool false) ∧ Below W.heap.size W w') from by
        have h1 := accepts_run _ 3 hs _ k 0 bf W hhsl (by omega) hOl hk10 h.mh
        rw [acc_no (HBK bf hOl HOD.out).2 (HOD.out k hkb)] at h1
        exact h1)
      have A2 := Lib.hid (fun (x : Nat) (hx : x < 1024) (hd : ∀ j, a.testBit j = true → x.testBit j = false) W (h : PMade w g (.slice Al L cl) (.slice Ah L ch) ls hs W) => show Calls Try.prog 18 #[.agg #[.slice Al L cl], .int .i64 (k : Int), .int .i64 0, .int .i64 (x : Int)] W (fun e w' => e = .returned (.bool false) ∧ Below W.heap.size W w') from by
        have h1 := accepts_run _ 3 ls _ k 0 x W hlsl (by omega) hx hk10 h.ml
        rw [acc_no (HBK x hx hd).1 (hd k hkb)] at h1
        exact h1)
      have A3 := Lib.hid (fun W (h : PMade w g (.slice Al L cl) (.slice Ah L ch) ls hs W) => show Calls Try.prog 18 #[.agg #[.slice Ah L ch], .int .i64 (k : Int), .int .i64 (a : Int), .int .i64 0] W (fun e w' => e = .returned (.bool true) ∧ Below W.heap.size W w') from by
        have h1 := accepts_run _ 3 hs _ k a 0 W hhsl hak (by omega) hk10 h.mh
        rw [acc_yes hhsl HP.out.decl hQ.1 hkb] at h1
        exact h1)
      have C1 := Lib.hid (fun W (h : PMade w g (.slice Al L cl) (.slice Ah L ch) ls hs W) => show Calls Try.prog 19 #[.agg #[.slice Ah L ch], .int .i64 (k : Int), .int .i64 (a : Int)] W (fun e w' => e = .returned (.bool true) ∧ Below W.heap.size W w') from by
        have h1 := confirms_run _ 3 hs _ k a W hhsl hak hk10 h.mh
        rw [show cnfB 3 hs k a = true from rdy_yes hhsl HP.out.decl hQ.1 hkb] at h1
        exact h1)
      have C2 := Lib.hid (fun W (h : PMade w g (.slice Al L cl) (.slice Ah L ch) ls hs W) => show Calls Try.prog 19 #[.agg #[.slice Al L cl], .int .i64 (k : Int), .int .i64 (a : Int)] W (fun e w' => e = .returned (.bool true) ∧ Below W.heap.size W w') from by
        have h1 := confirms_run _ 3 ls _ k a W hlsl hak hk10 h.ml
        rw [show cnfB 3 ls k a = true from rdy_yes hlsl rfl hQ.2 hkb] at h1
        exact h1)
      clear hcl hkk q2 q3 hQ HBK ha0 hlsl hhsl
      go_upto_region 11 with fail
      clear hcn
      have hS := Lib.hid (show wr.drew.cell? ⟨g, 0, none⟩ = some (.slice Al L cl) ∧ wr.drew.cell? ⟨g + 1, 0, none⟩ = some (.slice Ah L ch) ∧ PMN w g (.slice Al L cl) (.slice Ah L ch) ls hs (.slice (some ⟨bn, on, none⟩) m cn) (nodL a 10) wr.drew from pnK ⟨HMr.out.cl, HMr.out.ch, HMr.out, HNr.out⟩ (bdrew (bref _)))
      go_region_held3 (fun W => W.cell? ⟨g, 0, none⟩ = some (.slice Al L cl) ∧ W.cell? ⟨g + 1, 0, none⟩ = some (.slice Ah L ch) ∧ PMN w g (.slice Al L cl) (.slice Ah L ch) ls hs (.slice (some ⟨bn, on, none⟩) m cn) (nodL a 10) W) (first | exact hS.out | exact hSK | go_keep)
        (first
          | (go_at_call 7; refine (TN_run _ _ 64 (by omega) (by omega) (by exact (pnS (by assumption)).tape)).mono ?_; rintro e WK ⟨r, hr0, hr1, rfl, hs2, hg2⟩; have hSK := pnG (by assumption) hs2 hg2; obtain ⟨y0, rfl⟩ : ∃ y0 : Nat, r = (y0 : Int) := ⟨r.toNat, by omega⟩; have hand := i64_and_nat y0 bf (by omega) (by omega); have hyx : y0 &&& bf < 1024 := Nat.lt_of_le_of_lt Nat.and_le_right hOl; have HXD := Lib.hid (show ∀ j, a.testBit j = true → (y0 &&& bf).testBit j = false from fun j hj => by rw [Nat.testBit_and, HOD.out j hj, Bool.and_false]); generalize y0 &&& bf = x at hand hyx HXD; clear hs2 hg2)
          | (go_at_call_of 18 (Value.int .i64 (bf : Int)); refine (A1.out _ (by exact (pnS (by assumption)))).mono ?_; rintro e WL ⟨rfl, hbK⟩; have hSK := pnK (by assumption) hbK; clear hbK)
          | (go_at_call_of 18 (Value.int .i64 (x : Int)); refine (A2.out x hyx HXD.out _ (by exact (pnS (by assumption)))).mono ?_; rintro e WL ⟨rfl, hbK⟩; have hSK := pnK (by assumption) hbK; clear hbK)
          | (go_at_call_of 18 (Value.int .i64 (a : Int)); refine (A3.out _ (by exact (pnS (by assumption)))).mono ?_; rintro e WL ⟨rfl, hbK⟩; have hSK := pnK (by assumption) hbK; clear hbK)
          | (go_at_call_of 19 (Value.agg #[.slice Ah L ch]); refine (C1.out _ (by exact (pnS (by assumption)))).mono ?_; rintro e WL ⟨rfl, hbK⟩; have hSK := pnK (by assumption) hbK; clear hbK)
          | (go_at_call_of 19 (Value.agg #[.slice Al L cl]); refine (C2.out _ (by exact (pnS (by assumption)))).mono ?_; rintro e WL ⟨rfl, hbK⟩; have hSK := pnK (by assumption) hbK; clear hbK))
      all_goals
        have HM9 := Lib.hid (pnS (vl := .slice Al L cl) (vh := .slice Ah L ch) hSK)
        have HN9 := Lib.hid (pnN (vl := .slice Al L cl) (vh := .slice Ah L ch) hSK)
        clear hSK hS HMr HNr
        go_wp2_with fail
        go_roundw
        case rel => exact ⟨j + 1, hlt, by go_num, HM9, HN9⟩
        case measure => simp [intOf]; omega
    · obtain rfl : j = m := by omega
      go_wp2_with fail
      refine (awake18 _).mono ?_
      rintro e W99 ⟨rfl, hb9⟩
      have HF := Lib.hid (HMr.out.bel hb9).below
      clear hb9
      go_wp2_with fail
      go_ret
      exact ⟨rfl, HF.out⟩

end Go.Proofs.Ytnfdacfhhkahhaa
