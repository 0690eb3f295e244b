/- Contracts of dispensable sets: Check at any numbers, and the reference's. -/
import Derived.Test.YtacpfcckilnbfaaGreatDisp5
import Derived.Test.YtacpfcckilnbfaaGreatB6
namespace Go.Proofs.YtacpfcckilnbfaaGreat
set_option linter.unusedVariables false
set_option linter.unusedSimpArgs false
open Go.RowKit

theorem quorumI_run (P : Nat → Prop) (ms : List Mem) (v : Value) (s : Int) (w : World) (hl : ms.length ≤ 10) (h : MemsAt P 3 w v ms) :
    Calls Tryz.prog 61 #[.agg #[v], .int .i64 s] w fun e w' => ∃ b : Bool, e = .returned (.bool b) ∧ (b = true → ∃ t : Nat, s = (t : Int) ∧ t < 1024 ∧ IsQ 3 ms t) ∧ Below w.heap.size w w' := by
  cases hs : setB s
  · obtain ⟨A, c, rfl⟩ := h.slice
    have HB := Lib.hid (balloc (bref w) (.cells #[.slice A ms.length c] 27))
    have HS := Lib.hid hs
    clear h hs
    go_enter Tryz.func61, Tryz.ntmps61
    go_upto_region 1 with fail
    generalize w.alloc (.cells #[.slice A ms.length c] 27) = W1 at *
    go_wp2_with fail
    refine (setValid_run _ _).mono ?_
    rintro e w2 ⟨rfl, rfl⟩
    rw [HS.out]
    go_wp2_with fail
    go_ret
    exact ⟨false, rfl, (fun h => by cases h), HB.out⟩
  · obtain ⟨h0, h1⟩ := setB_iff.1 hs
    obtain ⟨t, rfl⟩ := Int.eq_ofNat_of_zero_le h0
    refine (quorum_run P 3 ms v t w hl (by omega) h).mono ?_
    rintro e w' ⟨b, rfl, hb, hbel⟩
    exact ⟨b, rfl, fun hx => ⟨t, rfl, by omega, hb.1 hx⟩, hbel⟩
set_option maxRecDepth 100000 in
set_option maxHeartbeats 4000000 in
theorem dplacksI_run (P : Nat → Prop) (ms : List Mem) (v : Value) (k : Int) (s : Nat) (w : World) (hl : ms.length ≤ 10) (hs : s < 2 ^ ms.length) (h : MemsAt P 3 w v ms) :
    Calls Tryz.prog 58 #[.agg #[v], .int .i64 k, .int .i64 (s : Int)] w fun e w' => ∃ b : Bool, e = .returned (.bool b) ∧ (b = true → ∃ j : Nat, k = (j : Int) ∧ j < ms.length ∧ lackB ms s j = true) ∧ Below w.heap.size w w' := by
  by_cases hk : 0 ≤ k ∧ k < (ms.length : Int)
  · obtain ⟨j, rfl⟩ := Int.eq_ofNat_of_zero_le hk.1
    refine (dplacks_run P ms v j s w hl (by omega) hs h).mono ?_
    rintro e w' ⟨rfl, hb⟩
    exact ⟨_, rfl, fun hx => ⟨j, rfl, by omega, hx⟩, hb⟩
  · obtain ⟨A, c, rfl⟩ := h.slice
    have hb1 : Below w.heap.size w (w.alloc (.cells #[.slice A ms.length c] 27)) := balloc (bref w) _
    have k0 : (w.alloc (.cells #[.slice A ms.length c] 27)).heap[w.heap.size]? = some (.cells #[.slice A ms.length c] 27 (0, 0)) := alloc_at rfl
    have hp2 : 2 ^ ms.length ≤ 2 ^ 10 := Nat.pow_le_pow_right (by omega) hl
    have han : bits .andNot .i64 ((2 ^ ms.length - 1 : Nat) : Int) (s : Int) = ((outS ms.length s : Nat) : Int) := andNot_nat (2 ^ ms.length - 1) s (by omega) (by omega)
    have HMR := Lib.hid (fun W => dpmembers_run A ms.length c hl W)
    have HHB := Lib.hid (show hasB ((outS ms.length s : Nat) : Int) k = false from by
      cases hh : hasB ((outS ms.length s : Nat) : Int) k
      · rfl
      · have hn : nodeB k = true := by
          unfold hasB at hh
          rw [Bool.and_eq_true, Bool.and_eq_true] at hh
          first | exact hh.2.1 | exact hh.1.2
        obtain ⟨h0, h1⟩ := nodeB_iff.1 hn
        obtain ⟨j, rfl⟩ := Int.eq_ofNat_of_zero_le h0
        rw [hasB_bit (outS_lt ms.length s hl) (by omega), outS_bit, Bool.and_eq_true, decide_eq_true_iff] at hh
        exact absurd ⟨h0, by omega⟩ hk)
    generalize outS ms.length s = r at han HHB
    obtain ⟨M, hM⟩ : ∃ M, 2 ^ ms.length - 1 = M := ⟨_, rfl⟩
    rw [hM] at han HMR
    have HB := Lib.hid hb1
    have K0 := Lib.hid k0
    clear h hb1 k0 hp2 hs hM hk
    go_enter Tryz.func58, Tryz.ntmps58
    go_upto_region 1 with fail
    generalize w.alloc (.cells #[.slice A ms.length c] 27) = W1 at *
    generalize hg : w.heap.size = g at *
    have HG := Lib.hid hg
    clear hg
    have c0 : W1.cell? ⟨g, 0, none⟩ = some (.slice A ms.length c) := cell_of_row _ _ 0 _ _ (0, 0) K0.out
    have HBw := Lib.hid (show Below w.heap.size w W1 by rw [HG.out]; exact HB.out)
    go_wp2_with fail
    refine (HMR.out _).mono ?_
    rintro e W2 ⟨rfl, hb2⟩
    have HB2 := Lib.hid (bstep HBw.out hb2)
    clear hb2 c0
    go_wp2_with fail
    refine (has_run _ _ _).mono ?_
    rintro e W3 ⟨rfl, rfl⟩
    rw [HHB.out]
    go_wp2_with fail
    go_ret
    exact ⟨false, rfl, (fun h => by cases h), HB2.out⟩
/-- A refutation that is right. -/
def RefOk (s : Nat) (ls hs : List Mem) : Prop := (∃ k, k < ls.length ∧ lackB hs s k = true) ∨ ∃ t q : Nat, IsQ 3 (D3.delM s ls) t ∧ IsQ 3 (D3.delM s ls) q ∧ t &&& q = 0

set_option maxRecDepth 100000 in
set_option maxHeartbeats 4000000 in
theorem dpcheckI_run (P Q : Nat → Prop) (ls hs : List Mem) (vl vh : Value) (s : Nat) (x0 x1 x2 : Int) (hsx : s < 2 ^ ls.length) (w : World) (hl : ls.length ≤ 7) (h1 : MemsAt P 3 w vl ls) (h2 : MemsAt Q 3 w vh hs) (hp : PairM ls hs) :
    Calls Tryz.prog 25 #[.agg #[vl], .agg #[vh], .int .i64 (s : Int), .agg #[.int .i64 x0, .int .i64 x1, .int .i64 x2]] w fun e w' => (∃ b : Bool, e = .returned (.bool b) ∧ (b = true → RefOk s ls hs)) ∧ Below w.heap.size w w' := by
  have HS := Lib.hid hsx
  clear hsx
  obtain ⟨A, c, rfl⟩ := h1.slice
  obtain ⟨B, d, rfl⟩ := h2.slice
  have hlen := hp.len
  have hokl := hp.okl
  have hokh := hp.okh
  have hdec := hp.decl
  have HDL := Lib.hid (fun W (h : MemsAt P 3 W (.slice A ls.length c) ls) => declared_run P 3 ls _ W (by omega) h)
  have HDH := Lib.hid (fun W (h : MemsAt Q 3 W (.slice B hs.length d) hs) => declared_run Q 3 hs _ W (by omega) h)
  rw [hdec] at HDH
  rw [hlen] at h2 HDH hokh ⊢
  obtain ⟨n, hn⟩ : ∃ n, ls.length = n := ⟨_, rfl⟩
  have HN := Lib.hid hn
  have HNH := Lib.hid hlen
  rw [hn] at HNH
  have HD := Lib.hid (fun k (h : (declS ls ls.length).testBit k = true) => declS_bit h)
  have HDM := Lib.hid (fun k (h : (declS ls ls.length).testBit k = true) => declS_memD h)
  have hDl : declS ls ls.length < 1024 := declS_lt ls _ (by omega)
  generalize declS ls ls.length = D at HDL HDH hDl HD HDM
  rw [hn] at h1 h2 HDL HDH hokl hokh hl HD ⊢
  have HP := Lib.hid hp
  have HOL := Lib.hid hokl
  have HOH := Lib.hid hokh
  have hpn := PA.new h1 h2
  have hz2 : ((w.alloc (.cells #[.slice A n c] 27)).alloc (.cells #[.slice B n d] 27)).heap.size = w.heap.size + 2 := by rw [alloc_sz, alloc_sz]
  have HPA := Lib.hid (hpn.to (balloc (bref _) (.cells #[.int .i64 x0, .int .i64 x1, .int .i64 x2] 42)))
  have HRB := Lib.hid (show (((w.alloc (.cells #[.slice A n c] 27)).alloc (.cells #[.slice B n d] 27)).alloc (.cells #[.int .i64 x0, .int .i64 x1, .int .i64 x2] 42)).heap[w.heap.size + 2]? = some (.cells #[.int .i64 x0, .int .i64 x1, .int .i64 x2] 42) from alloc_at hz2)
  clear hpn
  clear h1 h2 hp hokl hokh hn hdec hlen
  go_enter Tryz.func25, Tryz.ntmps25
  go_upto_region 1 with fail
  generalize (((w.alloc (.cells #[.slice A n c] 27)).alloc (.cells #[.slice B n d] 27)).alloc (.cells #[.int .i64 x0, .int .i64 x1, .int .i64 x2] 42)) = W1 at *
  clear hz2
  generalize hg : w.heap.size = g at HPA HRB ⊢
  have HG := Lib.hid hg
  clear hg
  have l0 := HPA.out.cs.1
  have h0 := HPA.out.cs.2.1
  go_wp2_with fail
  refine (dpvpair_run P Q ls hs _ _ s HS.out _ (by rw [HN.out]; exact hl) HPA.out.ml HPA.out.mh HP.out).mono ?_
  rintro e W1x ⟨rfl, hbx⟩
  have HPA1 := Lib.hid (HPA.out.to hbx)
  have HBZ := Lib.hid hbx
  clear hbx l0 h0
  have l1 := HPA1.out.cs.1
  have h1 := HPA1.out.cs.2.1
  have HRB1 := Lib.hid ((HBZ.out.block _ (Array.getElem?_eq_some_iff.1 HRB.out).1).trans HRB.out)
  have hrb := HRB1.out
  have z0_W1x : W1x.cell? ⟨g + 2, 0, none⟩ = some (.int .i64 x0) := cell_of_row _ _ 0 _ _ (0, 0) hrb
  have z1_W1x : W1x.cell? ⟨g + 2, 1, none⟩ = some (.int .i64 x1) := cell_of_row _ _ 1 _ _ (0, 0) hrb
  have z2_W1x : W1x.cell? ⟨g + 2, 2, none⟩ = some (.int .i64 x2) := cell_of_row _ _ 2 _ _ (0, 0) hrb
  clear hrb
  by_cases hx0 : x0 = -1
  · subst hx0
    go_wp2_with fail
    refine (D3.pdelete_run P ls _ s _ (by rw [HN.out]; omega) (by have h := HS.out; have : 2 ^ ls.length ≤ 2 ^ 10 := Nat.pow_le_pow_right (by omega) (by rw [HN.out]; omega); omega) HPA1.out.ml (by rw [HN.out]; exact HOL.out)).mono ?_
    rintro e Wd ⟨vd, rfl, hmd, hbd⟩
    obtain ⟨Ad, cd, rfl⟩ := hmd.slice
    have hdl : (D3.delM s ls).length = n := by rw [D3.delM_len, HN.out]
    rw [hdl] at hmd ⊢
    have HDL2 := Lib.hid hdl
    have hrd := (hbd.block _ (Array.getElem?_eq_some_iff.1 HRB1.out).1).trans HRB1.out
    have hba := balloc (bref Wd) (.cells #[.slice Ad n cd] 27)
    have HKD := Lib.hid (show (Wd.alloc (.cells #[.slice Ad n cd] 27)).heap[Wd.heap.size]? = some (.cells #[.slice Ad n cd] 27 (0, 0)) from alloc_at rfl)
    have HRD := Lib.hid ((hba.block _ (Array.getElem?_eq_some_iff.1 hrd).1).trans hrd)
    have HMD := Lib.hid ((hmd.both (w' := Wd) (Q := fun _ => True) (fun _ _ _ => rfl) (fun _ _ _ => trivial)).below hba)
    have HBD := Lib.hid (HPA1.out.to (bstep hbd hba)).bel
    clear hbd hmd hdl hrd hba l1 h1
    go_upto_region 6 with fail
    generalize (Wd.alloc (.cells #[.slice Ad n cd] 27)) = WD at *
    generalize Wd.heap.size = db at *
    have d0 : WD.cell? ⟨db, 0, none⟩ = some (.slice Ad n cd) := cell_of_row _ _ 0 _ _ (0, 0) HKD.out
    have hrb := HRD.out
    have z0_WD : WD.cell? ⟨g + 2, 0, none⟩ = some (.int .i64 (-1)) := cell_of_row _ _ 0 _ _ (0, 0) hrb
    have z1_WD : WD.cell? ⟨g + 2, 1, none⟩ = some (.int .i64 x1) := cell_of_row _ _ 1 _ _ (0, 0) hrb
    have z2_WD : WD.cell? ⟨g + 2, 2, none⟩ = some (.int .i64 x2) := cell_of_row _ _ 2 _ _ (0, 0) hrb
    clear hrb
    by_cases hz : bits .and .i64 x1 x2 = 0
    · have HZ := Lib.hid hz
      go_wp2_with fail
      refine (quorumI_run _ (D3.delM s ls) _ x1 _ (by rw [HDL2.out]; omega) HMD.out).mono ?_
      rintro e We ⟨q1, rfl, hq1, hbe⟩
      have HQ1 := Lib.hid hq1
      have HBE := Lib.hid (bstep HBD.out hbe)
      have HMD2 := Lib.hid (HMD.out.below hbe)
      have e0 := (hbe.cell (cell_lt d0)).trans d0
      have z2_We := (hbe.cell (cell_lt z2_WD)).trans z2_WD
      clear hbe hq1 d0 z0_WD z1_WD z2_WD
      cases q1
      · go_wp2_with fail
        go_ret
        exact ⟨⟨false, rfl, fun h => by cases h⟩, HBE.out⟩
      · go_wp2_with fail
        refine (quorumI_run _ (D3.delM s ls) _ x2 _ (by rw [HDL2.out]; omega) HMD2.out).mono ?_
        rintro e Wf ⟨q2, rfl, hq2, hbf⟩
        have HBF := Lib.hid (bstep HBE.out hbf)
        have HF := Lib.hid (show q2 = true → RefOk s ls hs from fun h => by
          obtain ⟨t, rfl, ht, h1⟩ := HQ1.out (by first | rfl | trivial)
          obtain ⟨q, rfl, hq, h2⟩ := hq2 h
          refine .inr ⟨t, q, h1, h2, ?_⟩
          have h3 := HZ.out
          rw [i64_and_nat t q (by omega) (by omega)] at h3
          omega)
        clear hbf hq2 e0 z2_We hz
        go_wp2_with fail
        go_ret
        exact ⟨⟨q2, rfl, HF.out⟩, HBF.out⟩
    · go_wp2_with fail
      go_ret
      exact ⟨⟨false, rfl, fun h => by cases h⟩, HBD.out⟩
  · by_cases hx1 : x1 = 0
    · subst hx1
      by_cases hx2 : x2 = 0
      · subst hx2
        go_wp2_with fail
        refine (dplacksI_run Q hs _ x0 s _ (by rw [HNH.out]; omega) (by rw [HP.out.len]; exact HS.out) HPA1.out.mh).mono ?_
        rintro e W7 ⟨b, rfl, hb, hb7⟩
        have HBW := Lib.hid (HPA1.out.to hb7).bel
        have HF := Lib.hid (show b = true → RefOk s ls hs from fun h => by
          obtain ⟨j, _, h1, h2⟩ := hb h
          exact .inl ⟨j, by rw [← HP.out.len]; exact h1, h2⟩)
        clear hb7 hb
        go_wp2_with fail
        go_ret
        exact ⟨⟨b, rfl, HF.out⟩, HBW.out⟩
      · have HBW := Lib.hid HPA1.out.bel
        go_wp2_with fail
        go_ret
        exact ⟨⟨false, rfl, fun h => by cases h⟩, HBW.out⟩
    · have HBW := Lib.hid HPA1.out.bel
      go_wp2_with fail
      go_ret
      exact ⟨⟨false, rfl, fun h => by cases h⟩, HBW.out⟩
end Go.Proofs.YtacpfcckilnbfaaGreat
