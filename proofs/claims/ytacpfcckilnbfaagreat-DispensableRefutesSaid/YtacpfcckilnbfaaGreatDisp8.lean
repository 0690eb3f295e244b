/- Contracts of dispensable sets: Check where it accepts; the reference's. -/
import Derived.Test.YtacpfcckilnbfaaGreatDisp7
namespace Go.Proofs.YtacpfcckilnbfaaGreat
set_option linter.unusedVariables false
set_option linter.unusedSimpArgs false
open Go.RowKit


set_option maxRecDepth 100000 in
set_option maxHeartbeats 4000000 in
theorem dpcheckT_run (P Q : Nat → Prop) (ls hs : List Mem) (vl vh : Value) (s a b : Nat) (ha10 : a < 1024) (hb10 : b < 1024) (hqa : IsQ 3 (D3.delM s ls) a) (hqb : IsQ 3 (D3.delM s ls) b) (hab : a &&& b = 0) (hsx : s < 2 ^ ls.length) (w : World) (hl : ls.length ≤ 7) (h1 : MemsAt P 3 w vl ls) (h2 : MemsAt Q 3 w vh hs) (hp : PairM ls hs) :
    Calls Tryz.prog 25 #[.agg #[vl], .agg #[vh], .int .i64 (s : Int), .agg #[.int .i64 (-1), .int .i64 (a : Int), .int .i64 (b : Int)]] w fun e w' => e = .returned (.bool true) ∧ Below w.heap.size w w' := by
  have HS := Lib.hid hsx
  have HQA := Lib.hid hqa
  have HQB := Lib.hid hqb
  have hz : bits .and .i64 (a : Int) (b : Int) = 0 := by rw [i64_and_nat a b (by omega) (by omega), hab]; rfl
  clear hsx hqa hqb hab
  obtain ⟨A, c, rfl⟩ := h1.slice
  obtain ⟨B, d, rfl⟩ := h2.slice
  have hlen := hp.len
  have hokl := hp.okl
  have hokh := hp.okh
  have hdec := hp.decl
  have HDL := Lib.hid (fun W (h : MemsAt P 3 W (.slice A ls.length c) ls) => declared_run P 3 ls _ W (by omega) h)
  have HDH := Lib.hid (fun W (h : MemsAt Q 3 W (.slice B hs.length d) hs) => declared_run Q 3 hs _ W (by omega) h)
  rw [hdec] at HDH
  rw [hlen] at h2 HDH hokh ⊢
  obtain ⟨n, hn⟩ : ∃ n, ls.length = n := ⟨_, rfl⟩
  have HN := Lib.hid hn
  have HNH := Lib.hid hlen
  rw [hn] at HNH
  have HD := Lib.hid (fun k (h : (declS ls ls.length).testBit k = true) => declS_bit h)
  have HDM := Lib.hid (fun k (h : (declS ls ls.length).testBit k = true) => declS_memD h)
  have hDl : declS ls ls.length < 1024 := declS_lt ls _ (by omega)
  generalize declS ls ls.length = D at HDL HDH hDl HD HDM
  rw [hn] at h1 h2 HDL HDH hokl hokh hl HD ⊢
  have HP := Lib.hid hp
  have HOL := Lib.hid hokl
  have HOH := Lib.hid hokh
  have hpn := PA.new h1 h2
  have hz2 : ((w.alloc (.cells #[.slice A n c] 27)).alloc (.cells #[.slice B n d] 27)).heap.size = w.heap.size + 2 := by rw [alloc_sz, alloc_sz]
  have HPA := Lib.hid (hpn.to (balloc (bref _) (.cells #[.int .i64 (-1), .int .i64 (a : Int), .int .i64 (b : Int)] 42)))
  have HRB := Lib.hid (show (((w.alloc (.cells #[.slice A n c] 27)).alloc (.cells #[.slice B n d] 27)).alloc (.cells #[.int .i64 (-1), .int .i64 (a : Int), .int .i64 (b : Int)] 42)).heap[w.heap.size + 2]? = some (.cells #[.int .i64 (-1), .int .i64 (a : Int), .int .i64 (b : Int)] 42) from alloc_at hz2)
  clear hpn
  clear h1 h2 hp hokl hokh hn hdec hlen
  go_enter Tryz.func25, Tryz.ntmps25
  go_upto_region 1 with fail
  generalize (((w.alloc (.cells #[.slice A n c] 27)).alloc (.cells #[.slice B n d] 27)).alloc (.cells #[.int .i64 (-1), .int .i64 (a : Int), .int .i64 (b : Int)] 42)) = W1 at *
  clear hz2
  generalize hg : w.heap.size = g at HPA HRB ⊢
  have HG := Lib.hid hg
  clear hg
  have l0 := HPA.out.cs.1
  have h0 := HPA.out.cs.2.1
  go_wp2_with fail
  refine (dpvpair_run P Q ls hs _ _ s HS.out _ (by rw [HN.out]; exact hl) HPA.out.ml HPA.out.mh HP.out).mono ?_
  rintro e W1x ⟨rfl, hbx⟩
  have HPA1 := Lib.hid (HPA.out.to hbx)
  have HBZ := Lib.hid hbx
  clear hbx l0 h0
  have l1 := HPA1.out.cs.1
  have h1 := HPA1.out.cs.2.1
  have HRB1 := Lib.hid ((HBZ.out.block _ (Array.getElem?_eq_some_iff.1 HRB.out).1).trans HRB.out)
  have hrb := HRB1.out
  have z0_W1x : W1x.cell? ⟨g + 2, 0, none⟩ = some (.int .i64 (-1)) := cell_of_row _ _ 0 _ _ (0, 0) hrb
  have z1_W1x : W1x.cell? ⟨g + 2, 1, none⟩ = some (.int .i64 (a : Int)) := cell_of_row _ _ 1 _ _ (0, 0) hrb
  have z2_W1x : W1x.cell? ⟨g + 2, 2, none⟩ = some (.int .i64 (b : Int)) := cell_of_row _ _ 2 _ _ (0, 0) hrb
  clear hrb
  go_wp2_with fail
  refine (D3.pdelete_run P ls _ s _ (by rw [HN.out]; omega) (by have h := HS.out; have : 2 ^ ls.length ≤ 2 ^ 10 := Nat.pow_le_pow_right (by omega) (by rw [HN.out]; omega); omega) HPA1.out.ml (by rw [HN.out]; exact HOL.out)).mono ?_
  rintro e Wd ⟨vd, rfl, hmd, hbd⟩
  obtain ⟨Ad, cd, rfl⟩ := hmd.slice
  have hdl : (D3.delM s ls).length = n := by rw [D3.delM_len, HN.out]
  rw [hdl] at hmd ⊢
  have HDL2 := Lib.hid hdl
  have hrd := (hbd.block _ (Array.getElem?_eq_some_iff.1 HRB1.out).1).trans HRB1.out
  have hba := balloc (bref Wd) (.cells #[.slice Ad n cd] 27)
  have HKD := Lib.hid (show (Wd.alloc (.cells #[.slice Ad n cd] 27)).heap[Wd.heap.size]? = some (.cells #[.slice Ad n cd] 27 (0, 0)) from alloc_at rfl)
  have HRD := Lib.hid ((hba.block _ (Array.getElem?_eq_some_iff.1 hrd).1).trans hrd)
  have HMD := Lib.hid ((hmd.both (w' := Wd) (Q := fun _ => True) (fun _ _ _ => rfl) (fun _ _ _ => trivial)).below hba)
  have HBD := Lib.hid (HPA1.out.to (bstep hbd hba)).bel
  clear hbd hmd hdl hrd hba l1 h1
  go_upto_region 6 with fail
  generalize (Wd.alloc (.cells #[.slice Ad n cd] 27)) = WD at *
  generalize Wd.heap.size = db at *
  have d0 : WD.cell? ⟨db, 0, none⟩ = some (.slice Ad n cd) := cell_of_row _ _ 0 _ _ (0, 0) HKD.out
  have hrb := HRD.out
  have z0_WD : WD.cell? ⟨g + 2, 0, none⟩ = some (.int .i64 (-1)) := cell_of_row _ _ 0 _ _ (0, 0) hrb
  have z1_WD : WD.cell? ⟨g + 2, 1, none⟩ = some (.int .i64 (a : Int)) := cell_of_row _ _ 1 _ _ (0, 0) hrb
  have z2_WD : WD.cell? ⟨g + 2, 2, none⟩ = some (.int .i64 (b : Int)) := cell_of_row _ _ 2 _ _ (0, 0) hrb
  clear hrb
  go_wp2_with fail
  refine (quorum_run _ 3 (D3.delM s ls) _ a _ (by rw [HDL2.out]; omega) ha10 HMD.out).mono ?_
  rintro e We ⟨q1, rfl, hq1, hbe⟩
  obtain rfl : q1 = true := hq1.2 HQA.out
  have HBE := Lib.hid (bstep HBD.out hbe)
  have HMD2 := Lib.hid (HMD.out.below hbe)
  have e0 := (hbe.cell (cell_lt d0)).trans d0
  have z1_We := (hbe.cell (cell_lt z1_WD)).trans z1_WD
  have z2_We := (hbe.cell (cell_lt z2_WD)).trans z2_WD
  clear hbe hq1 d0 z0_WD z1_WD z2_WD
  go_wp2_with fail
  refine (quorum_run _ 3 (D3.delM s ls) _ b _ (by rw [HDL2.out]; omega) hb10 HMD2.out).mono ?_
  rintro e Wf ⟨q2, rfl, hq2, hbf⟩
  obtain rfl : q2 = true := hq2.2 HQB.out
  have HBF := Lib.hid (bstep HBE.out hbf)
  have z1_Wf := (hbf.cell (cell_lt z1_We)).trans z1_We
  have z2_Wf := (hbf.cell (cell_lt z2_We)).trans z2_We
  clear hbf hq2 e0 z1_We z2_We
  go_wp2_with fail
  go_ret
  exact ⟨rfl, HBF.out⟩

set_option maxRecDepth 100000 in
set_option maxHeartbeats 4000000 in
theorem rdcheckT_run (P Q : Nat → Prop) (ls hs : List Mem) (vl vh : Value) (s a b : Nat) (ha10 : a < 1024) (hb10 : b < 1024) (hqa : IsQ 3 (D3.delM s ls) a) (hqb : IsQ 3 (D3.delM s ls) b) (hab : a &&& b = 0) (hsx : s < 2 ^ ls.length) (w : World) (hl : ls.length ≤ 7) (h1 : MemsAt P 3 w vl ls) (h2 : MemsAt Q 3 w vh hs) (hp : PairM ls hs) :
    Calls Tryz.prog 24 #[.agg #[vl], .agg #[vh], .int .i64 (s : Int), .agg #[.int .i64 (-1), .int .i64 (a : Int), .int .i64 (b : Int)]] w fun e w' => e = .returned (.bool true) ∧ Below w.heap.size w w' := by
  have HS := Lib.hid hsx
  have HQA := Lib.hid hqa
  have HQB := Lib.hid hqb
  have hz : bits .and .i64 (a : Int) (b : Int) = 0 := by rw [i64_and_nat a b (by omega) (by omega), hab]; rfl
  clear hsx hqa hqb hab
  obtain ⟨A, c, rfl⟩ := h1.slice
  obtain ⟨B, d, rfl⟩ := h2.slice
  have hlen := hp.len
  have hokl := hp.okl
  have hokh := hp.okh
  have hdec := hp.decl
  have HDL := Lib.hid (fun W (h : MemsAt P 3 W (.slice A ls.length c) ls) => declared_run P 3 ls _ W (by omega) h)
  have HDH := Lib.hid (fun W (h : MemsAt Q 3 W (.slice B hs.length d) hs) => declared_run Q 3 hs _ W (by omega) h)
  rw [hdec] at HDH
  rw [hlen] at h2 HDH hokh ⊢
  obtain ⟨n, hn⟩ : ∃ n, ls.length = n := ⟨_, rfl⟩
  have HN := Lib.hid hn
  have HNH := Lib.hid hlen
  rw [hn] at HNH
  have HD := Lib.hid (fun k (h : (declS ls ls.length).testBit k = true) => declS_bit h)
  have HDM := Lib.hid (fun k (h : (declS ls ls.length).testBit k = true) => declS_memD h)
  have hDl : declS ls ls.length < 1024 := declS_lt ls _ (by omega)
  generalize declS ls ls.length = D at HDL HDH hDl HD HDM
  rw [hn] at h1 h2 HDL HDH hokl hokh hl HD ⊢
  have HP := Lib.hid hp
  have HOL := Lib.hid hokl
  have HOH := Lib.hid hokh
  have hpn := PA.new h1 h2
  have hz2 : ((w.alloc (.cells #[.slice A n c] 27)).alloc (.cells #[.slice B n d] 27)).heap.size = w.heap.size + 2 := by rw [alloc_sz, alloc_sz]
  have HPA := Lib.hid (hpn.to (balloc (bref _) (.cells #[.int .i64 (-1), .int .i64 (a : Int), .int .i64 (b : Int)] 42)))
  have HRB := Lib.hid (show (((w.alloc (.cells #[.slice A n c] 27)).alloc (.cells #[.slice B n d] 27)).alloc (.cells #[.int .i64 (-1), .int .i64 (a : Int), .int .i64 (b : Int)] 42)).heap[w.heap.size + 2]? = some (.cells #[.int .i64 (-1), .int .i64 (a : Int), .int .i64 (b : Int)] 42) from alloc_at hz2)
  clear hpn
  clear h1 h2 hp hokl hokh hn hdec hlen
  go_enter Tryz.func24, Tryz.ntmps24
  go_upto_region 1 with fail
  generalize (((w.alloc (.cells #[.slice A n c] 27)).alloc (.cells #[.slice B n d] 27)).alloc (.cells #[.int .i64 (-1), .int .i64 (a : Int), .int .i64 (b : Int)] 42)) = W1 at *
  clear hz2
  generalize hg : w.heap.size = g at HPA HRB ⊢
  have HG := Lib.hid hg
  clear hg
  have l0 := HPA.out.cs.1
  have h0 := HPA.out.cs.2.1
  go_wp2_with fail
  refine (rdbegin_run P Q ls hs _ _ s HS.out _ (by rw [HN.out]; exact hl) HPA.out.ml HPA.out.mh HP.out).mono ?_
  rintro e W1x ⟨rfl, hbx⟩
  have HPA1 := Lib.hid (HPA.out.to hbx)
  have HBZ := Lib.hid hbx
  clear hbx l0 h0
  have l1 := HPA1.out.cs.1
  have h1 := HPA1.out.cs.2.1
  have HRB1 := Lib.hid ((HBZ.out.block _ (Array.getElem?_eq_some_iff.1 HRB.out).1).trans HRB.out)
  have hrb := HRB1.out
  have z0_W1x : W1x.cell? ⟨g + 2, 0, none⟩ = some (.int .i64 (-1)) := cell_of_row _ _ 0 _ _ (0, 0) hrb
  have z1_W1x : W1x.cell? ⟨g + 2, 1, none⟩ = some (.int .i64 (a : Int)) := cell_of_row _ _ 1 _ _ (0, 0) hrb
  have z2_W1x : W1x.cell? ⟨g + 2, 2, none⟩ = some (.int .i64 (b : Int)) := cell_of_row _ _ 2 _ _ (0, 0) hrb
  clear hrb
  go_wp2_with fail
  refine (D3.rdelete_run P ls _ s _ (by rw [HN.out]; omega) (by have h := HS.out; have : 2 ^ ls.length ≤ 2 ^ 10 := Nat.pow_le_pow_right (by omega) (by rw [HN.out]; omega); omega) HPA1.out.ml (by rw [HN.out]; exact HOL.out)).mono ?_
  rintro e Wd ⟨vd, rfl, hmd, hbd⟩
  obtain ⟨Ad, cd, rfl⟩ := hmd.slice
  have hdl : (D3.delM s ls).length = n := by rw [D3.delM_len, HN.out]
  rw [hdl] at hmd ⊢
  have HDL2 := Lib.hid hdl
  have hrd := (hbd.block _ (Array.getElem?_eq_some_iff.1 HRB1.out).1).trans HRB1.out
  have hba := balloc (bref Wd) (.cells #[.slice Ad n cd] 27)
  have HKD := Lib.hid (show (Wd.alloc (.cells #[.slice Ad n cd] 27)).heap[Wd.heap.size]? = some (.cells #[.slice Ad n cd] 27 (0, 0)) from alloc_at rfl)
  have HRD := Lib.hid ((hba.block _ (Array.getElem?_eq_some_iff.1 hrd).1).trans hrd)
  have HMD := Lib.hid ((hmd.both (w' := Wd) (Q := fun _ => True) (fun _ _ _ => rfl) (fun _ _ _ => trivial)).below hba)
  have HBD := Lib.hid (HPA1.out.to (bstep hbd hba)).bel
  clear hbd hmd hdl hrd hba l1 h1
  go_upto_region 6 with fail
  generalize (Wd.alloc (.cells #[.slice Ad n cd] 27)) = WD at *
  generalize Wd.heap.size = db at *
  have d0 : WD.cell? ⟨db, 0, none⟩ = some (.slice Ad n cd) := cell_of_row _ _ 0 _ _ (0, 0) HKD.out
  have hrb := HRD.out
  have z0_WD : WD.cell? ⟨g + 2, 0, none⟩ = some (.int .i64 (-1)) := cell_of_row _ _ 0 _ _ (0, 0) hrb
  have z1_WD : WD.cell? ⟨g + 2, 1, none⟩ = some (.int .i64 (a : Int)) := cell_of_row _ _ 1 _ _ (0, 0) hrb
  have z2_WD : WD.cell? ⟨g + 2, 2, none⟩ = some (.int .i64 (b : Int)) := cell_of_row _ _ 2 _ _ (0, 0) hrb
  clear hrb
  go_wp2_with fail
  refine (rquorum_run _ 3 (D3.delM s ls) _ a _ (by rw [HDL2.out]; omega) ha10 HMD.out).mono ?_
  rintro e We ⟨q1, rfl, hq1, hbe⟩
  obtain rfl : q1 = true := hq1.2 HQA.out
  have HBE := Lib.hid (bstep HBD.out hbe)
  have HMD2 := Lib.hid (HMD.out.below hbe)
  have e0 := (hbe.cell (cell_lt d0)).trans d0
  have z1_We := (hbe.cell (cell_lt z1_WD)).trans z1_WD
  have z2_We := (hbe.cell (cell_lt z2_WD)).trans z2_WD
  clear hbe hq1 d0 z0_WD z1_WD z2_WD
  go_wp2_with fail
  refine (rquorum_run _ 3 (D3.delM s ls) _ b _ (by rw [HDL2.out]; omega) hb10 HMD2.out).mono ?_
  rintro e Wf ⟨q2, rfl, hq2, hbf⟩
  obtain rfl : q2 = true := hq2.2 HQB.out
  have HBF := Lib.hid (bstep HBE.out hbf)
  have z1_Wf := (hbf.cell (cell_lt z1_We)).trans z1_We
  have z2_Wf := (hbf.cell (cell_lt z2_We)).trans z2_We
  clear hbf hq2 e0 z1_We z2_We
  go_wp2_with fail
  go_ret
  exact ⟨rfl, HBF.out⟩

set_option maxRecDepth 100000 in
set_option maxHeartbeats 4000000 in
theorem rdstuck_run (P : Nat → Prop) (ms : List Mem) (v : Value) (k s : Nat) (w : World) (hl : ms.length ≤ 10) (hk : k < ms.length) (hs : s < 2 ^ ms.length) (h : MemsAt P 3 w v ms) :
    Calls Tryz.prog 60 #[.agg #[v], .int .i64 (s : Int), .int .i64 (k : Int)] w fun e w' => e = .returned (.bool (lackB ms s k)) ∧ Below w.heap.size w w' := by
  obtain ⟨A, c, rfl⟩ := h.slice
  have hb1 : Below w.heap.size w (w.alloc (.cells #[.slice A ms.length c] 27)) := balloc (bref w) _
  have k0 : (w.alloc (.cells #[.slice A ms.length c] 27)).heap[w.heap.size]? = some (.cells #[.slice A ms.length c] 27 (0, 0)) := alloc_at rfl
  have hp2 : 2 ^ ms.length ≤ 2 ^ 10 := Nat.pow_le_pow_right (by omega) hl
  have hs10 : s < 1024 := by omega
  have hO := outS_sub ms.length s hl (by omega)
  have HMR := Lib.hid (fun W => rdmembers_run A ms.length c hl W)
  obtain ⟨M, hM⟩ : ∃ M, 2 ^ ms.length - 1 = M := ⟨_, rfl⟩
  rw [hM] at hO HMR
  clear hM
  have hrl := outS_lt ms.length s hl
  have HHB := Lib.hid (show hasB (s : Int) (k : Int) = s.testBit k from hasB_bit hs10 (by omega))
  have HLB := Lib.hid (show lackB ms s k = (!s.testBit k && (!(ms.getD k (false, .mk 0 [] [])).1 || !satB 3 (trOf ms k) ((outS ms.length s : Nat) : Int))) from rfl)
  generalize outS ms.length s = r at hO hrl HLB
  have H := Lib.hid (h.below hb1)
  have HB := Lib.hid hb1
  have K0 := Lib.hid k0
  have hkn : (k : Int) < (ms.length : Int) := by omega
  have hk0 : ¬ (k : Int) < 0 := by omega
  clear h hb1 k0 hp2 hs
  go_enter Tryz.func60, Tryz.ntmps60
  go_upto_region 1 with fail
  generalize w.alloc (.cells #[.slice A ms.length c] 27) = W1 at *
  generalize hg : w.heap.size = g at *
  have HG := Lib.hid hg
  clear hg
  have c0 : W1.cell? ⟨g, 0, none⟩ = some (.slice A ms.length c) := cell_of_row _ _ 0 _ _ (0, 0) K0.out
  have HBw := Lib.hid (show Below w.heap.size w W1 by rw [HG.out]; exact HB.out)
  go_wp2_with fail
  refine (rhas_run _ _ _).mono ?_
  rintro e W3 ⟨rfl, rfl⟩
  rw [HHB.out]
  obtain ⟨q, hq⟩ : ∃ q, s.testBit k = q := ⟨_, rfl⟩
  rw [hq] at HLB ⊢
  cases q
  · obtain ⟨A', c', hA', hL⟩ := H.out
    injection hA' with q1 q2 q3
    subst q1
    obtain ⟨m, hm⟩ : ∃ m, ms[k]? = some m := ⟨_, List.getElem?_eq_getElem hk⟩
    obtain ⟨b, off, y0, y1, y2, rfl, _, d0, d1, d2, d3, hT⟩ := hL k m hm
    have e1 : ms.getD k (false, .mk 0 [] []) = m := by rw [List.getD_eq_getElem?_getD, hm]; rfl
    have HLB2 := Lib.hid (show lackB ms s k = (!m.1 || !satB 3 m.2 (r : Int)) from by rw [HLB.out]; unfold trOf; rw [e1]; rfl)
    obtain ⟨dc, T⟩ := m
    obtain ⟨t, a1, n1, x1, a2, n2, x2, rfl, rfl, rfl⟩ := hT.form
    have HT := Lib.hid hT
    have HKE := Lib.hid (show ∀ W W', W.cell? ⟨g, 0, none⟩ = some (.slice (some ⟨b, off, none⟩) ms.length c) ∧ W.cell? ⟨b, off + k * 4, none⟩ = some (.bool dc) ∧ W.cell? ⟨b, off + k * 4 + 1, none⟩ = some (.int .i64 t) ∧ W.cell? ⟨b, off + k * 4 + 2, none⟩ = some (.slice a1 n1 x1) ∧ W.cell? ⟨b, off + k * 4 + 3, none⟩ = some (.slice a2 n2 x2) ∧ (TAt P 3 W (.int .i64 t) (.slice a1 n1 x1) (.slice a2 n2 x2) T ∧ Below w.heap.size w W) → Below W.heap.size W W' →
      W'.cell? ⟨g, 0, none⟩ = some (.slice (some ⟨b, off, none⟩) ms.length c) ∧ W'.cell? ⟨b, off + k * 4, none⟩ = some (.bool dc) ∧ W'.cell? ⟨b, off + k * 4 + 1, none⟩ = some (.int .i64 t) ∧ W'.cell? ⟨b, off + k * 4 + 2, none⟩ = some (.slice a1 n1 x1) ∧ W'.cell? ⟨b, off + k * 4 + 3, none⟩ = some (.slice a2 n2 x2) ∧ (TAt P 3 W' (.int .i64 t) (.slice a1 n1 x1) (.slice a2 n2 x2) T ∧ Below w.heap.size w W') from fun W W' h hb =>
        ⟨(hb.cell (cell_lt h.1)).trans h.1, (hb.cell (cell_lt h.2.1)).trans h.2.1, (hb.cell (cell_lt h.2.2.1)).trans h.2.2.1, (hb.cell (cell_lt h.2.2.2.1)).trans h.2.2.2.1, (hb.cell (cell_lt h.2.2.2.2.1)).trans h.2.2.2.2.1, h.2.2.2.2.2.1.below hb, bstep h.2.2.2.2.2.2 hb⟩)
    have hS := Lib.hid (HKE.out _ _ ⟨c0, d0, d1, d2, d3, HT.out, HBw.out⟩ (bdrew (bref W1)))
    clear hL hT hm e1 q2 q3 hq
    cases dc
    · have HF := Lib.hid (show lackB ms s k = true from by rw [HLB2.out]; rfl)
      go_upto_region 3 with fail
      go_region
      all_goals
        have HBZ := Lib.hid hS.out.2.2.2.2.2.2
        go_wp2_with fail
        go_ret
        exact ⟨by rw [HF.out]; rfl, HBZ.out⟩
    · have HF := Lib.hid (show lackB ms s k = !satB 3 T (r : Int) from by rw [HLB2.out]; rfl)
      go_upto_region 3 with fail
      go_region_held3 (fun W => W.cell? ⟨g, 0, none⟩ = some (.slice (some ⟨b, off, none⟩) ms.length c) ∧ W.cell? ⟨b, off + k * 4, none⟩ = some (.bool true) ∧ W.cell? ⟨b, off + k * 4 + 1, none⟩ = some (.int .i64 t) ∧ W.cell? ⟨b, off + k * 4 + 2, none⟩ = some (.slice a1 n1 x1) ∧ W.cell? ⟨b, off + k * 4 + 3, none⟩ = some (.slice a2 n2 x2) ∧ (TAt P 3 W (.int .i64 t) (.slice a1 n1 x1) (.slice a2 n2 x2) T ∧ Below w.heap.size w W)) (first | exact hS.out | exact hSK | exact HKE.out _ _ (by assumption) hbK | go_keep)
        (first
          | (go_at_call 70; refine (HMR.out _).mono ?_; rintro e WK ⟨rfl, hbK⟩; have hSK := HKE.out _ _ (by assumption) hbK)
          | (go_at_call 63; refine (rsat_run P 3 T _ _ _ r _ hrl (by exact (show _ ∧ _ ∧ _ ∧ _ ∧ _ ∧ (TAt P 3 _ (.int .i64 t) (.slice a1 n1 x1) (.slice a2 n2 x2) T ∧ _) from by assumption).2.2.2.2.2.1)).mono ?_; rintro e WL ⟨rfl, hbK⟩; have hSK := HKE.out _ _ (by assumption) hbK))
      all_goals
        have HBZ := Lib.hid hSK.2.2.2.2.2.2
        go_wp2_with fail
        go_ret
        exact ⟨by rw [HF.out]; rfl, HBZ.out⟩
  · have HF := Lib.hid (show lackB ms s k = false from by rw [HLB.out]; rfl)
    go_wp2_with fail
    go_ret
    exact ⟨by rw [HF.out]; rfl, HBw.out⟩

set_option maxRecDepth 100000 in
set_option maxHeartbeats 4000000 in
theorem rdcheckN_run (P Q : Nat → Prop) (ls hs : List Mem) (vl vh : Value) (k s : Nat) (hkx : k < ls.length) (hlk : lackB hs s k = true) (hsx : s < 2 ^ ls.length) (w : World) (hl : ls.length ≤ 7) (h1 : MemsAt P 3 w vl ls) (h2 : MemsAt Q 3 w vh hs) (hp : PairM ls hs) :
    Calls Tryz.prog 24 #[.agg #[vl], .agg #[vh], .int .i64 (s : Int), .agg #[.int .i64 (k : Int), .int .i64 0, .int .i64 0]] w fun e w' => e = .returned (.bool true) ∧ Below w.heap.size w w' := by
  have HS := Lib.hid hsx
  have HK := Lib.hid hkx
  have HLK := Lib.hid hlk
  clear hsx hkx hlk
  obtain ⟨A, c, rfl⟩ := h1.slice
  obtain ⟨B, d, rfl⟩ := h2.slice
  have hlen := hp.len
  have hokl := hp.okl
  have hokh := hp.okh
  have hdec := hp.decl
  have HDL := Lib.hid (fun W (h : MemsAt P 3 W (.slice A ls.length c) ls) => declared_run P 3 ls _ W (by omega) h)
  have HDH := Lib.hid (fun W (h : MemsAt Q 3 W (.slice B hs.length d) hs) => declared_run Q 3 hs _ W (by omega) h)
  rw [hdec] at HDH
  rw [hlen] at h2 HDH hokh ⊢
  obtain ⟨n, hn⟩ : ∃ n, ls.length = n := ⟨_, rfl⟩
  have HN := Lib.hid hn
  have HNH := Lib.hid hlen
  rw [hn] at HNH
  have HD := Lib.hid (fun k (h : (declS ls ls.length).testBit k = true) => declS_bit h)
  have HDM := Lib.hid (fun k (h : (declS ls ls.length).testBit k = true) => declS_memD h)
  have hDl : declS ls ls.length < 1024 := declS_lt ls _ (by omega)
  generalize declS ls ls.length = D at HDL HDH hDl HD HDM
  rw [hn] at h1 h2 HDL HDH hokl hokh hl HD ⊢
  have HP := Lib.hid hp
  have HOL := Lib.hid hokl
  have HOH := Lib.hid hokh
  have hpn := PA.new h1 h2
  have hz2 : ((w.alloc (.cells #[.slice A n c] 27)).alloc (.cells #[.slice B n d] 27)).heap.size = w.heap.size + 2 := by rw [alloc_sz, alloc_sz]
  have HPA := Lib.hid (hpn.to (balloc (bref _) (.cells #[.int .i64 (k : Int), .int .i64 0, .int .i64 0] 42)))
  have HRB := Lib.hid (show (((w.alloc (.cells #[.slice A n c] 27)).alloc (.cells #[.slice B n d] 27)).alloc (.cells #[.int .i64 (k : Int), .int .i64 0, .int .i64 0] 42)).heap[w.heap.size + 2]? = some (.cells #[.int .i64 (k : Int), .int .i64 0, .int .i64 0] 42) from alloc_at hz2)
  clear hpn
  clear h1 h2 hp hokl hokh hn hdec hlen
  go_enter Tryz.func24, Tryz.ntmps24
  go_upto_region 1 with fail
  generalize (((w.alloc (.cells #[.slice A n c] 27)).alloc (.cells #[.slice B n d] 27)).alloc (.cells #[.int .i64 (k : Int), .int .i64 0, .int .i64 0] 42)) = W1 at *
  clear hz2
  generalize hg : w.heap.size = g at HPA HRB ⊢
  have HG := Lib.hid hg
  clear hg
  have l0 := HPA.out.cs.1
  have h0 := HPA.out.cs.2.1
  go_wp2_with fail
  refine (rdbegin_run P Q ls hs _ _ s HS.out _ (by rw [HN.out]; exact hl) HPA.out.ml HPA.out.mh HP.out).mono ?_
  rintro e W1x ⟨rfl, hbx⟩
  have HPA1 := Lib.hid (HPA.out.to hbx)
  have HBZ := Lib.hid hbx
  clear hbx l0 h0
  have l1 := HPA1.out.cs.1
  have h1 := HPA1.out.cs.2.1
  have HRB1 := Lib.hid ((HBZ.out.block _ (Array.getElem?_eq_some_iff.1 HRB.out).1).trans HRB.out)
  have hrb := HRB1.out
  have z0_W1x : W1x.cell? ⟨g + 2, 0, none⟩ = some (.int .i64 (k : Int)) := cell_of_row _ _ 0 _ _ (0, 0) hrb
  have z1_W1x : W1x.cell? ⟨g + 2, 1, none⟩ = some (.int .i64 0) := cell_of_row _ _ 1 _ _ (0, 0) hrb
  have z2_W1x : W1x.cell? ⟨g + 2, 2, none⟩ = some (.int .i64 0) := cell_of_row _ _ 2 _ _ (0, 0) hrb
  have hkk : ¬ (k : Int) = -1 := by omega
  clear hrb
  go_wp2_with fail
  refine (rdstuck_run Q hs _ k s _ (by rw [HNH.out]; omega) (by rw [HP.out.len]; exact HK.out) (by rw [HP.out.len]; exact HS.out) HPA1.out.mh).mono ?_
  rintro e W7 ⟨rfl, hb7⟩
  rw [HLK.out]
  have HBW := Lib.hid (HPA1.out.to hb7).bel
  have z1_W7 := (hb7.cell (cell_lt z1_W1x)).trans z1_W1x
  have z2_W7 := (hb7.cell (cell_lt z2_W1x)).trans z2_W1x
  clear hb7 z0_W1x z1_W1x z2_W1x
  go_wp2_with fail
  go_ret
  exact ⟨rfl, HBW.out⟩
end Go.Proofs.YtacpfcckilnbfaaGreat
