/- intact.Check accepts nothing wrong. -/
import Derived.Test.YtacpfcckilnbfaaGreatB7
namespace Go.Proofs.YtacpfcckilnbfaaGreat
set_option linter.unusedVariables false
set_option linter.unusedSimpArgs false
open Go.RowKit

/-- What is accepted says intact exactly for an intact member. -/
def ChkSnd (s v : Nat) (ls hs : List Mem) (K : Int) (e : Ending) : Prop := ∃ (b : Bool) (a : Nat), e = .returned (.bool b) ∧ OfIs s ls hs a ∧ (b = true → (K = 1 ↔ a.testBit v = true))
theorem lack_no {ls hs : List Mem} {s k : Nat} (hp : PairM ls hs) (hl : ls.length ≤ 10) (hk : k < ls.length) (h : AvT hs s) : lackB hs s k = false := by
  have hlh : hs.length ≤ 10 := by rw [hp.len]; exact hl
  cases hb : lackB hs s k
  · rfl
  · unfold lackB at hb
    rw [Bool.and_eq_true, Bool.not_eq_true'] at hb
    have ho : (outS hs.length s).testBit k = true := by rw [outS_bit, hb.1, decide_eq_true (by rw [hp.len]; exact hk)]; rfl
    rcases h with h | h
    · rw [h] at ho; simp at ho
    · have h1 := h.2.1 k ho
      rw [declS_iff, Bool.and_eq_true] at h1
      have h2 := h.2.2 k (by rw [hp.len]; exact hk)
      rw [uns_iff (outS_lt _ _ hlh) (by omega), ho, Bool.true_and, Bool.not_eq_false'] at h2
      rw [h1.2, h2] at hb
      simp at hb
theorem refok_no {ls hs : List Mem} {s : Nat} (hp : PairM ls hs) (hl : ls.length ≤ 10) (h : AvT hs s ∧ InT (D3.delM s ls)) : ¬ RefOk s ls hs := by
  rintro (⟨k, hk, hb⟩ | ⟨t, q, h1, h2, h3⟩)
  · rw [lack_no hp hl hk h.1] at hb; cases hb
  · have hll : (D3.delM s ls).length ≤ 10 := by rw [D3.delM_len]; exact hl
    have hq : q < 1024 := Nat.lt_of_lt_of_le (sub_lt h2.2.1) (pow_1024 hll)
    refine h.2 t ⟨h1, q, hq, h2.1, fun k hk => ?_, h2.2.2⟩
    have h5 := h2.2.1 k hk
    rw [Nat.testBit_and, h5, Bool.and_true, outS_bit, decide_eq_true (declS_bit h5)]
    have h6 := congrArg (fun z => z.testBit k) h3
    simp only [Nat.testBit_and, Nat.zero_testBit, hk, Bool.and_true] at h6
    rw [h6]; rfl

set_option maxRecDepth 100000 in
set_option maxHeartbeats 16000000 in
theorem incheck_run (P Q : Nat → Prop) (ls hs : List Mem) (vl vh : Value) (s v : Nat) (K S X Y : Int) (rs : List Rft) (vR : Value) (R2 : Nat → Prop) (hsx : s < 2 ^ ls.length) (hvx : v < ls.length) (hSx : S < 9223372036854775808) (w : World) (hR1 : RowAt 3 encR R2 w vR rs) (hl : ls.length ≤ 7) (h1 : MemsAt P 3 w vl ls) (h2 : MemsAt Q 3 w vh hs) (hp : PairM ls hs) :
    Calls Tryz.prog 41 #[.agg #[vl], .agg #[vh], .int .i64 (s : Int), .int .i64 (v : Int), .agg #[.int .i64 K, .int .i64 S, .int .i64 X, .int .i64 Y, vR]] w fun e w' => ChkSnd s v ls hs K e ∧ Below w.heap.size w w' := by
  have HS := Lib.hid hsx
  have HV := Lib.hid hvx
  have HR1 := Lib.hid (fun W (hb : Below w.heap.size w W) => hR1.below hb)
  obtain ⟨Ar, cr, rfl, _, _⟩ := hR1.slice
  obtain ⟨q, hq⟩ : ∃ q, rs.length = q := ⟨_, rfl⟩
  have HQm := Lib.hid hq
  rw [hq] at HR1 ⊢
  clear hsx hvx hR1 hq
  obtain ⟨A, c, rfl⟩ := h1.slice
  obtain ⟨B, d, rfl⟩ := h2.slice
  have hlen := hp.len
  have hokl := hp.okl
  have hokh := hp.okh
  have hdec := hp.decl
  have HDL := Lib.hid (fun W (h : MemsAt P 3 W (.slice A ls.length c) ls) => declared_run P 3 ls _ W (by omega) h)
  have HDH := Lib.hid (fun W (h : MemsAt Q 3 W (.slice B hs.length d) hs) => declared_run Q 3 hs _ W (by omega) h)
  rw [hdec] at HDH
  rw [hlen] at h2 HDH hokh ⊢
  obtain ⟨n, hn⟩ : ∃ n, ls.length = n := ⟨_, rfl⟩
  have HN := Lib.hid hn
  have HNH := Lib.hid hlen
  rw [hn] at HNH
  have HD := Lib.hid (fun k (h : (declS ls ls.length).testBit k = true) => declS_bit h)
  have HDM := Lib.hid (fun k (h : (declS ls ls.length).testBit k = true) => declS_memD h)
  have hDl : declS ls ls.length < 1024 := declS_lt ls _ (by omega)
  generalize declS ls ls.length = D at HDL HDH hDl HD HDM
  rw [hn] at h1 h2 HDL HDH hokl hokh hl HD ⊢
  have HP := Lib.hid hp
  have HOL := Lib.hid hokl
  have HOH := Lib.hid hokh
  have hpn := PA.new h1 h2
  have hz2 : ((w.alloc (.cells #[.slice A n c] 27)).alloc (.cells #[.slice B n d] 27)).heap.size = w.heap.size + 2 := by rw [alloc_sz, alloc_sz]
  have HPA := Lib.hid (hpn.to (balloc (bref _) (.cells #[.int .i64 K, .int .i64 S, .int .i64 X, .int .i64 Y, .slice Ar q cr] 61)))
  have HRB := Lib.hid (show (((w.alloc (.cells #[.slice A n c] 27)).alloc (.cells #[.slice B n d] 27)).alloc (.cells #[.int .i64 K, .int .i64 S, .int .i64 X, .int .i64 Y, .slice Ar q cr] 61)).heap[w.heap.size + 2]? = some (.cells #[.int .i64 K, .int .i64 S, .int .i64 X, .int .i64 Y, .slice Ar q cr] 61) from alloc_at hz2)
  clear hpn
  clear h1 h2 hp hokl hokh hn hdec hlen
  go_enter Tryz.func41, Tryz.ntmps41
  go_upto_region 1 with fail
  generalize (((w.alloc (.cells #[.slice A n c] 27)).alloc (.cells #[.slice B n d] 27)).alloc (.cells #[.int .i64 K, .int .i64 S, .int .i64 X, .int .i64 Y, .slice Ar q cr] 61)) = W1 at *
  clear hz2
  generalize hg : w.heap.size = g at HPA HRB ⊢
  have HG := Lib.hid hg
  clear hg
  have l0 := HPA.out.cs.1
  have h0 := HPA.out.cs.2.1
  go_wp2_with fail
  refine (inof_run P Q ls hs _ _ s HS.out _ (by rw [HN.out]; exact hl) HPA.out.ml HPA.out.mh HP.out).mono ?_
  rintro e W1x ⟨⟨a, rfl, hof⟩, hbx⟩
  have HPA1 := Lib.hid (HPA.out.to hbx)
  have HOF := Lib.hid hof
  clear hof
  have HBZ := Lib.hid hbx
  clear hbx l0 h0
  have l1 := HPA1.out.cs.1
  have h1 := HPA1.out.cs.2.1
  have HRB1 := Lib.hid ((HBZ.out.block _ (Array.getElem?_eq_some_iff.1 HRB.out).1).trans HRB.out)
  have hvn : (v : Int) < (n : Int) := by have := HV.out; rw [HN.out] at this; omega
  have hv0 : ¬ (v : Int) < 0 := by omega
  have hrb := HRB1.out
  have z0_W1x : W1x.cell? ⟨g + 2, 0, none⟩ = some (.int .i64 K) := cell_of_row _ _ 0 _ _ (0, 0) hrb
  have z1_W1x : W1x.cell? ⟨g + 2, 1, none⟩ = some (.int .i64 S) := cell_of_row _ _ 1 _ _ (0, 0) hrb
  have z2_W1x : W1x.cell? ⟨g + 2, 2, none⟩ = some (.int .i64 X) := cell_of_row _ _ 2 _ _ (0, 0) hrb
  have z3_W1x : W1x.cell? ⟨g + 2, 3, none⟩ = some (.int .i64 Y) := cell_of_row _ _ 3 _ _ (0, 0) hrb
  have z4_W1x : W1x.cell? ⟨g + 2, 4, none⟩ = some (.slice Ar q cr) := cell_of_row _ _ 4 _ _ (0, 0) hrb
  clear hrb
  by_cases hK1 : K = 1
  · subst hK1
    by_cases hzX : X = 0
    · subst hzX
      by_cases hzY : Y = 0
      · subst hzY
        by_cases hzq : q = 0
        · subst hzq
          go_wp2_with fail
          refine (dpIsI_run P Q ls hs _ _ S hSx _ (by rw [HN.out]; exact hl) HPA1.out.ml HPA1.out.mh HP.out).mono ?_
          rintro e W2x ⟨⟨bi, er, rfl, hbi⟩, hb2⟩
          have HPA2 := Lib.hid (HPA1.out.to hb2)
          have HBI := Lib.hid hbi
          have y1_2 := (hb2.cell (cell_lt z1_W1x)).trans z1_W1x
          clear hb2 hbi z0_W1x z1_W1x z2_W1x z3_W1x z4_W1x l1 h1
          have l2 := HPA2.out.cs.1
          cases bi
          · go_wp2_with fail
            go_ret
            exact ⟨⟨false, a, rfl, HOF.out, fun h => by cases h⟩, HPA2.out.bel⟩
          · obtain ⟨t, hSt, ht2, hav, hin⟩ := HBI.out.1 (by first | rfl | trivial)
            subst hSt
            have HT := Lib.hid (And.intro ht2 (And.intro hav hin))
            have ht10 : t < 1024 := by have : 2 ^ ls.length ≤ 2 ^ 10 := Nat.pow_le_pow_right (by omega) (by rw [HN.out]; omega); omega
            have hs10 : s < 1024 := by have h := HS.out; have : 2 ^ ls.length ≤ 2 ^ 10 := Nat.pow_le_pow_right (by omega) (by rw [HN.out]; omega); omega
            clear ht2 hav hin
            go_wp2_with fail
            refine (inints_run P ls _ s _ (by rw [HN.out]; omega) HS.out HPA2.out.ml (by rw [HN.out]; exact HOL.out)).mono ?_
            rintro e W3x ⟨⟨y, rfl, hy⟩, hb3⟩
            have HPA3 := Lib.hid (HPA2.out.to hb3)
            have HY := Lib.hid hy
            have y1_3 := (hb3.cell (cell_lt y1_2)).trans y1_2
            clear hb3 hy y1_2 l2
            cases y
            · go_wp2_with fail
              go_ret
              exact ⟨⟨false, a, rfl, HOF.out, fun h => by cases h⟩, HPA3.out.bel⟩
            · have han : bits .andNot .i64 (s : Int) (t : Int) = ((minS s t : Nat) : Int) := andNot_nat s t hs10 ht10
              have HZ := Lib.hid (minS_zero_iff (s := s) (b := t))
              generalize minS s t = z at han HZ
              by_cases hz : z = 0
              · have HSU := Lib.hid (HZ.out.1 hz)
                subst hz
                go_wp2_with fail
                refine (has_run _ _ _).mono ?_
                rintro e W4x ⟨rfl, rfl⟩
                rw [hasB_bit ht10 (by have := HV.out; rw [HN.out] at this; omega)]
                obtain ⟨u, hu⟩ : ∃ u, t.testBit v = u := ⟨_, rfl⟩
                have HU := Lib.hid hu
                rw [hu]
                have HF := Lib.hid (show u = false → a.testBit v = true from fun h => by
                  rcases HOF.out with ⟨h1, _⟩ | ⟨_, L, hL, ha⟩
                  · exact absurd (HY.out.1 (by first | rfl | trivial)) h1
                  · rw [ha, outS_bit, decide_eq_true HV.out, Bool.true_and, Bool.not_eq_true']
                    have h5 := bf_sub (n := ls.length) ((hL.2.2 t).2 ⟨HT.out.1, HSU.out, HT.out.2.1, HT.out.2.2⟩)
                    cases hb : (bfold ls.length L).testBit v
                    · rfl
                    · have h6 := h5 v hb
                      rw [HU.out, h] at h6; cases h6)
                clear hu y1_3
                cases u
                · go_wp2_with fail
                  go_ret
                  exact ⟨⟨true, a, rfl, HOF.out, fun _ => iff_of_true rfl (HF.out (by first | rfl | trivial))⟩, HPA3.out.bel⟩
                · go_wp2_with fail
                  go_ret
                  exact ⟨⟨false, a, rfl, HOF.out, fun h => by cases h⟩, HPA3.out.bel⟩
              · have hzi : ¬ (z : Int) = 0 := by omega
                go_wp2_with fail
                go_ret
                exact ⟨⟨false, a, rfl, HOF.out, fun h => by cases h⟩, HPA3.out.bel⟩
        · have hzi : ¬ (q : Int) = 0 := by omega
          go_wp2_with fail
          go_ret
          exact ⟨⟨false, a, rfl, HOF.out, fun h => by cases h⟩, HPA1.out.bel⟩
      · go_wp2_with fail
        go_ret
        exact ⟨⟨false, a, rfl, HOF.out, fun h => by cases h⟩, HPA1.out.bel⟩
    · go_wp2_with fail
      go_ret
      exact ⟨⟨false, a, rfl, HOF.out, fun h => by cases h⟩, HPA1.out.bel⟩
  · by_cases hzS : S = 0
    · subst hzS
      by_cases hK2 : K = 2
      · subst hK2
        by_cases hzq : q = 0
        · subst hzq
          go_wp2_with fail
          refine (D3.pdelete_run P ls _ s _ (by rw [HN.out]; omega) (by have h := HS.out; have : 2 ^ ls.length ≤ 2 ^ 10 := Nat.pow_le_pow_right (by omega) (by rw [HN.out]; omega); omega) HPA1.out.ml (by rw [HN.out]; exact HOL.out)).mono ?_
          rintro e Wd ⟨vd, rfl, hmd, hbd⟩
          obtain ⟨Ad, cd, rfl⟩ := hmd.slice
          have hdl : (D3.delM s ls).length = n := by rw [D3.delM_len, HN.out]
          rw [hdl] at hmd ⊢
          have HDL2 := Lib.hid hdl
          have hrd := (hbd.block _ (Array.getElem?_eq_some_iff.1 HRB1.out).1).trans HRB1.out
          have hba := balloc (bref Wd) (.cells #[.slice Ad n cd] 27)
          have HKD := Lib.hid (show (Wd.alloc (.cells #[.slice Ad n cd] 27)).heap[Wd.heap.size]? = some (.cells #[.slice Ad n cd] 27 (0, 0)) from alloc_at rfl)
          have HRD := Lib.hid ((hba.block _ (Array.getElem?_eq_some_iff.1 hrd).1).trans hrd)
          have HMD := Lib.hid ((hmd.both (w' := Wd) (Q := fun _ => True) (fun _ _ _ => rfl) (fun _ _ _ => trivial)).below hba)
          have HBD := Lib.hid (HPA1.out.to (bstep hbd hba)).bel
          clear hbd hmd hdl hrd hba l1 h1
          go_upto_region 12 with fail
          generalize (Wd.alloc (.cells #[.slice Ad n cd] 27)) = WD at *
          generalize Wd.heap.size = db at *
          have d0 : WD.cell? ⟨db, 0, none⟩ = some (.slice Ad n cd) := cell_of_row _ _ 0 _ _ (0, 0) HKD.out
          have hrb := HRD.out
          have z0_WD : WD.cell? ⟨g + 2, 0, none⟩ = some (.int .i64 2) := cell_of_row _ _ 0 _ _ (0, 0) hrb
          have z1_WD : WD.cell? ⟨g + 2, 1, none⟩ = some (.int .i64 0) := cell_of_row _ _ 1 _ _ (0, 0) hrb
          have z2_WD : WD.cell? ⟨g + 2, 2, none⟩ = some (.int .i64 X) := cell_of_row _ _ 2 _ _ (0, 0) hrb
          have z3_WD : WD.cell? ⟨g + 2, 3, none⟩ = some (.int .i64 Y) := cell_of_row _ _ 3 _ _ (0, 0) hrb
          have z4_WD : WD.cell? ⟨g + 2, 4, none⟩ = some (.slice Ar 0 cr) := cell_of_row _ _ 4 _ _ (0, 0) hrb
          clear hrb z0_W1x z1_W1x z2_W1x z3_W1x z4_W1x
          by_cases hz : bits .and .i64 X Y = 0
          · have HZ := Lib.hid hz
            go_wp2_with fail
            refine (quorumI_run _ (D3.delM s ls) _ X _ (by rw [HDL2.out]; omega) HMD.out).mono ?_
            rintro e We ⟨q1, rfl, hq1, hbe⟩
            have HQ1 := Lib.hid hq1
            have HBE := Lib.hid (bstep HBD.out hbe)
            have HMD2 := Lib.hid (HMD.out.below hbe)
            have e0 := (hbe.cell (cell_lt d0)).trans d0
            have z3_We := (hbe.cell (cell_lt z3_WD)).trans z3_WD
            clear hbe hq1 d0 z0_WD z1_WD z2_WD z3_WD z4_WD
            cases q1
            · go_wp2_with fail
              go_ret
              exact ⟨⟨false, a, rfl, HOF.out, fun h => by cases h⟩, HBE.out⟩
            · go_wp2_with fail
              refine (quorumI_run _ (D3.delM s ls) _ Y _ (by rw [HDL2.out]; omega) HMD2.out).mono ?_
              rintro e Wf ⟨q2, rfl, hq2, hbf⟩
              have HBF := Lib.hid (bstep HBE.out hbf)
              have HF := Lib.hid (show q2 = true → a = 0 from fun h => by
                obtain ⟨t, rfl, ht, h1⟩ := HQ1.out (by first | rfl | trivial)
                obtain ⟨p, rfl, hp, h2⟩ := hq2 h
                have h3 := HZ.out
                rw [i64_and_nat t p (by omega) (by omega)] at h3
                refine of_none HOF.out (fun hin => hin t ⟨h1, p, hp, h2.1, fun k hk => ?_, h2.2.2⟩)
                have h5 := h2.2.1 k hk
                rw [Nat.testBit_and, h5, Bool.and_true, outS_bit, decide_eq_true (declS_bit h5)]
                have h6 := congrArg (fun z => z.testBit k) (show t &&& p = 0 by omega)
                simp only [Nat.testBit_and, Nat.zero_testBit, hk, Bool.and_true] at h6
                rw [h6]; rfl)
              clear hbf hq2 e0 z3_We hz
              go_wp2_with fail
              go_ret
              exact ⟨⟨q2, a, rfl, HOF.out, fun h => iff_of_false (by decide) (by rw [HF.out h]; simp)⟩, HBF.out⟩
          · go_wp2_with fail
            go_ret
            exact ⟨⟨false, a, rfl, HOF.out, fun h => by cases h⟩, HBD.out⟩
        · have hzi : ¬ (q : Int) = 0 := by omega
          go_wp2_with fail
          go_ret
          exact ⟨⟨false, a, rfl, HOF.out, fun h => by cases h⟩, HPA1.out.bel⟩
      · by_cases hzX : X = 0
        · subst hzX
          by_cases hzY : Y = 0
          · subst hzY
            by_cases hK4 : K = 4
            · subst hK4
              have hpa := HPA1.out
              have HKE := Lib.hid (show ∀ W W', W.cell? ⟨g, 0, none⟩ = some (.slice A n c) ∧ W.cell? ⟨g + 1, 0, none⟩ = some (.slice B n d) ∧ W.cell? ⟨g + 2, 4, none⟩ = some (.slice Ar q cr) ∧ PA P Q w g (.slice A n c) (.slice B n d) ls hs W → Below W.heap.size W W' →
                W'.cell? ⟨g, 0, none⟩ = some (.slice A n c) ∧ W'.cell? ⟨g + 1, 0, none⟩ = some (.slice B n d) ∧ W'.cell? ⟨g + 2, 4, none⟩ = some (.slice Ar q cr) ∧ PA P Q w g (.slice A n c) (.slice B n d) ls hs W' from fun W W' h hb =>
                  ⟨(hb.cell (cell_lt h.1)).trans h.1, (hb.cell (cell_lt h.2.1)).trans h.2.1, (hb.cell (cell_lt h.2.2.1)).trans h.2.2.1, h.2.2.2.to hb⟩)
              have hS := Lib.hid (HKE.out _ _ ⟨l1, h1, z4_W1x, hpa⟩ (bdrew (bref W1x)))
              go_upto_region 16 with fail
              clear hpa z0_W1x z1_W1x z2_W1x z3_W1x z4_W1x l1 h1
              go_region_held3 (fun W => W.cell? ⟨g, 0, none⟩ = some (.slice A n c) ∧ W.cell? ⟨g + 1, 0, none⟩ = some (.slice B n d) ∧ W.cell? ⟨g + 2, 4, none⟩ = some (.slice Ar q cr) ∧ PA P Q w g (.slice A n c) (.slice B n d) ls hs W) (first | exact hS.out | exact hSK | go_keep)
                (first
                  | (go_at_call 77; refine (inaround_run P ls _ s v (by have := HV.out; rw [HN.out] at this; omega) _ (by rw [HN.out]; omega) HS.out (by exact (show _ ∧ _ ∧ _ ∧ PA P Q w g (.slice A n c) (.slice B n d) ls hs _ from by assumption).2.2.2.ml) (by rw [HN.out]; exact HOL.out)).mono ?_; rintro e WK ⟨⟨vL, L, rfl, hnL, hL⟩, hbK⟩; have hSK := HKE.out _ _ (by assumption) hbK; have HNL := Lib.hid hnL; have HL := Lib.hid hL; clear hbK hnL hL)
                  | (go_at_call 80; refine (inrefuted_run P Q ls hs _ _ L rs vL (.slice Ar q cr) _ _ _ HNL.out (HR1.out _ (by exact (show _ ∧ _ ∧ _ ∧ PA P Q w g (.slice A n c) (.slice B n d) ls hs _ from by assumption).2.2.2.bel)) (fun t ht => ((HL.out.2.2 t).1 ht).1) HL.out.2.1 (by rw [HN.out]; exact hl) (by exact (show _ ∧ _ ∧ _ ∧ PA P Q w g (.slice A n c) (.slice B n d) ls hs _ from by assumption).2.2.2.ml) (by exact (show _ ∧ _ ∧ _ ∧ PA P Q w g (.slice A n c) (.slice B n d) ls hs _ from by assumption).2.2.2.mh) HP.out).mono ?_; rintro e WL ⟨⟨b, rfl, hb1, _⟩, hbK⟩; have hSK := HKE.out _ _ (by assumption) hbK; have HB1 := Lib.hid hb1; clear hbK hb1))
              all_goals
                have HPZ := Lib.hid hSK.2.2.2.bel
                have HF := Lib.hid (show b = true → a.testBit v = false from fun h => by
                  cases hav : a.testBit v
                  · rfl
                  · rcases HOF.out with ⟨_, h0⟩ | ⟨hin, L0, hL0, ha⟩
                    · rw [h0] at hav; simp at hav
                    · rw [ha, outS_bit, Bool.and_eq_true, Bool.not_eq_true'] at hav
                      have hil := (inT_iff (by rw [HN.out]; omega) (by have h := HS.out; have : 2 ^ ls.length ≤ 2 ^ 10 := Nat.pow_le_pow_right (by omega) (by rw [HN.out]; omega); omega) HP.out.okl).1 hin
                      have hm := bf_mem (pairF HP.out (by rw [HN.out]; omega)) HS.out hil (allL_of HP.out (by rw [HN.out]; omega) hL0)
                      obtain ⟨m1, m2, m3⟩ := (hL0.2.2 _).1 hm
                      exact absurd (HB1.out h _ ((HL.out.2.2 _).2 ⟨m1, m2, hav.2⟩)) (refok_no HP.out (by rw [HN.out]; omega) m3))
                clear hSK
                go_wp2_with fail
                go_ret
                exact ⟨⟨b, a, rfl, HOF.out, fun h => iff_of_false (by decide) (by rw [HF.out h]; simp)⟩, HPZ.out⟩
            · by_cases hK3 : K = 3
              · subst hK3
                by_cases hzq : q = 0
                · subst hzq
                  have hs10 : s < 1024 := by have h := HS.out; have : 2 ^ ls.length ≤ 2 ^ 10 := Nat.pow_le_pow_right (by omega) (by rw [HN.out]; omega); omega
                  go_wp2_with fail
                  refine (has_run _ _ _).mono ?_
                  rintro e W4x ⟨rfl, rfl⟩
                  rw [hasB_bit hs10 (by have := HV.out; rw [HN.out] at this; omega)]
                  have HF := Lib.hid (show s.testBit v = true → a.testBit v = false from fun h => by
                    have h2 := congrArg (fun z => z.testBit v) (of_ill HP.out (by rw [HN.out]; omega) HS.out HOF.out)
                    simp only [Nat.testBit_and, Nat.zero_testBit, h, Bool.and_true] at h2
                    exact h2)
                  generalize s.testBit v = u at HF ⊢
                  clear z0_W1x z1_W1x z2_W1x z3_W1x z4_W1x
                  go_wp2_with fail
                  go_ret
                  exact ⟨⟨u, a, rfl, HOF.out, fun h => iff_of_false (by decide) (by rw [HF.out h]; simp)⟩, HPA1.out.bel⟩
                · have hzi : ¬ (q : Int) = 0 := by omega
                  go_wp2_with fail
                  go_ret
                  exact ⟨⟨false, a, rfl, HOF.out, fun h => by cases h⟩, HPA1.out.bel⟩
              · by_cases hzq : q = 0
                · subst hzq
                  go_wp2_with fail
                  go_ret
                  exact ⟨⟨false, a, rfl, HOF.out, fun h => by cases h⟩, HPA1.out.bel⟩
                · have hzi : ¬ (q : Int) = 0 := by omega
                  go_wp2_with fail
                  all_goals
                    go_ret
                    exact ⟨⟨false, a, rfl, HOF.out, fun h => by cases h⟩, HPA1.out.bel⟩
          · go_wp2_with fail
            go_ret
            exact ⟨⟨false, a, rfl, HOF.out, fun h => by cases h⟩, HPA1.out.bel⟩
        · go_wp2_with fail
          go_ret
          exact ⟨⟨false, a, rfl, HOF.out, fun h => by cases h⟩, HPA1.out.bel⟩
    · go_wp2_with fail
      go_ret
      exact ⟨⟨false, a, rfl, HOF.out, fun h => by cases h⟩, HPA1.out.bel⟩
end Go.Proofs.YtacpfcckilnbfaaGreat
