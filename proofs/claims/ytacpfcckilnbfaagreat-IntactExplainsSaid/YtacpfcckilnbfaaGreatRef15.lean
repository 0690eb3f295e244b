/- The reference's Check of explanations: where it accepts. -/
import Derived.Test.YtacpfcckilnbfaaGreatInCheckT
namespace Go.Proofs.YtacpfcckilnbfaaGreat
set_option linter.unusedVariables false
set_option linter.unusedSimpArgs false
open Go.RowKit

set_option maxRecDepth 100000 in
set_option maxHeartbeats 400000 in
theorem rfmembers_run (A : Option Addr) (n c : Nat) (hn : n ≤ 10) (w : World) : Calls Tryz.prog 110 #[.agg #[.slice A n c]] w fun e w' => e = .returned (.int .i64 ((2 ^ n - 1 : Nat) : Int)) ∧ Below w.heap.size w w' := by
  have hp := pow11 n (by omega)
  have hp1 : 1 ≤ 2 ^ n := Nat.one_le_pow _ _ (by omega)
  have hp2 : 2 ^ n ≤ 2 ^ 10 := Nat.pow_le_pow_right (by omega) hn
  obtain ⟨N, hN⟩ : ∃ N, 2 ^ n = N := ⟨_, rfl⟩
  rw [hN] at hp hp1 hp2 ⊢
  clear hN
  have hw1 : wrap64 ((N : Int) - 1) = (N : Int) - 1 := by unfold wrap64; omega
  have hn64 : (n : Int) < 64 := by omega
  have HE := Lib.hid (show ((N - 1 : Nat) : Int) = (N : Int) - 1 by omega)
  go_enter Tryz.func110, Tryz.ntmps110
  go_wp2_with fail
  go_ret
  exact ⟨by rw [HE.out]; rfl, balloc (bref _) _⟩


set_option maxRecDepth 100000 in
set_option maxHeartbeats 4000000 in
theorem rfbegin_run (P Q : Nat → Prop) (ls hs : List Mem) (vl vh : Value) (s : Nat) (hsx : s < 2 ^ ls.length) (w : World) (hl : ls.length ≤ 7) (h1 : MemsAt P 3 w vl ls) (h2 : MemsAt Q 3 w vh hs) (hp : PairM ls hs) :
    Calls Tryz.prog 78 #[.agg #[vl], .agg #[vh], .int .i64 (s : Int)] w fun e w' => e = .returned (.int .i64 0) ∧ Below w.heap.size w w' := by
  have HS := Lib.hid hsx
  clear hsx
  obtain ⟨A, c, rfl⟩ := h1.slice
  obtain ⟨B, d, rfl⟩ := h2.slice
  have hlen := hp.len
  have hokl := hp.okl
  have hokh := hp.okh
  have hdec := hp.decl
  have HDL := Lib.hid (fun W (h : MemsAt P 3 W (.slice A ls.length c) ls) => declared_run P 3 ls _ W (by omega) h)
  have HDH := Lib.hid (fun W (h : MemsAt Q 3 W (.slice B hs.length d) hs) => declared_run Q 3 hs _ W (by omega) h)
  rw [hdec] at HDH
  rw [hlen] at h2 HDH hokh ⊢
  obtain ⟨n, hn⟩ : ∃ n, ls.length = n := ⟨_, rfl⟩
  have HN := Lib.hid hn
  have HNH := Lib.hid hlen
  rw [hn] at HNH
  have HD := Lib.hid (fun k (h : (declS ls ls.length).testBit k = true) => declS_bit h)
  have HDM := Lib.hid (fun k (h : (declS ls ls.length).testBit k = true) => declS_memD h)
  have hDl : declS ls ls.length < 1024 := declS_lt ls _ (by omega)
  generalize declS ls ls.length = D at HDL HDH hDl HD HDM
  rw [hn] at h1 h2 HDL HDH hokl hokh hl HD ⊢
  have HP := Lib.hid hp
  have HOL := Lib.hid hokl
  have HOH := Lib.hid hokh
  have HPA := Lib.hid (PA.new h1 h2)
  clear h1 h2 hp hokl hokh hn hdec hlen
  go_enter Tryz.func78, Tryz.ntmps78
  go_upto_region 1 with fail
  generalize ((w.alloc (.cells #[.slice A n c] 27)).alloc (.cells #[.slice B n d] 27)) = W1 at *
  generalize w.heap.size = g at HPA ⊢
  have l0 := HPA.out.cs.1
  have h0 := HPA.out.cs.2.1
  go_wp2_with fail
  refine (rdvalid_run P Q ls hs _ _ _ (by rw [HN.out]; exact hl) HPA.out.ml HPA.out.mh HP.out).mono ?_
  rintro e W1x ⟨rfl, hbx⟩
  have HPA1 := Lib.hid (HPA.out.to hbx)
  clear hbx l0 h0
  have l1 := HPA1.out.cs.1
  have h1 := HPA1.out.cs.2.1
  have hsM : ¬ (((2 ^ n - 1 : Nat) : Int) < (s : Int)) := by have h := HS.out; rw [HN.out] at h; omega
  have hs0 : ¬ (s : Int) < 0 := by omega
  have HMR := Lib.hid (fun W => rfmembers_run A n c (by omega) W)
  generalize 2 ^ n - 1 = M at hsM HMR
  go_wp2_with fail
  refine (HMR.out _).mono ?_
  rintro e W2x ⟨rfl, hb2⟩
  have HB2 := Lib.hid (HPA1.out.to hb2).bel
  clear hb2 l1 h1
  go_wp2_with fail
  go_ret
  exact ⟨rfl, HB2.out⟩

set_option maxRecDepth 100000 in
set_option maxHeartbeats 8000000 in
theorem rincheckT1_run (P Q : Nat → Prop) (ls hs : List Mem) (vl vh : Value) (s v : Nat) (a S : Nat) (Ar : Option Addr) (cr : Nat) (hsx : s < 2 ^ ls.length) (hvx : v < ls.length) (hSo : S = outS ls.length a) (ha : OfIs s ls hs a) (hav : a.testBit v = true) (w : World) (hl : ls.length ≤ 7) (h1 : MemsAt P 3 w vl ls) (h2 : MemsAt Q 3 w vh hs) (hp : PairM ls hs) :
    Calls Tryz.prog 40 #[.agg #[vl], .agg #[vh], .int .i64 (s : Int), .int .i64 (v : Int), .agg #[.int .i64 1, .int .i64 (S : Int), .int .i64 0, .int .i64 0, .slice Ar 0 cr]] w fun e w' => e = .returned (.bool true) ∧ Below w.heap.size w w' := by
  have HS := Lib.hid hsx
  have HV := Lib.hid hvx
  clear hsx hvx
  have HNN := Lib.hid hSo
  clear hSo
  have HA := Lib.hid ha
  have HVB := Lib.hid hav
  clear ha hav
  obtain ⟨A, c, rfl⟩ := h1.slice
  obtain ⟨B, d, rfl⟩ := h2.slice
  have hlen := hp.len
  have hokl := hp.okl
  have hokh := hp.okh
  have hdec := hp.decl
  have HDL := Lib.hid (fun W (h : MemsAt P 3 W (.slice A ls.length c) ls) => declared_run P 3 ls _ W (by omega) h)
  have HDH := Lib.hid (fun W (h : MemsAt Q 3 W (.slice B hs.length d) hs) => declared_run Q 3 hs _ W (by omega) h)
  rw [hdec] at HDH
  rw [hlen] at h2 HDH hokh ⊢
  obtain ⟨n, hn⟩ : ∃ n, ls.length = n := ⟨_, rfl⟩
  have HN := Lib.hid hn
  have HNH := Lib.hid hlen
  rw [hn] at HNH
  have HD := Lib.hid (fun k (h : (declS ls ls.length).testBit k = true) => declS_bit h)
  have HDM := Lib.hid (fun k (h : (declS ls ls.length).testBit k = true) => declS_memD h)
  have hDl : declS ls ls.length < 1024 := declS_lt ls _ (by omega)
  generalize declS ls ls.length = D at HDL HDH hDl HD HDM
  rw [hn] at h1 h2 HDL HDH hokl hokh hl HD ⊢
  have HP := Lib.hid hp
  have HOL := Lib.hid hokl
  have HOH := Lib.hid hokh
  have hpn := PA.new h1 h2
  have hz2 : ((w.alloc (.cells #[.slice A n c] 27)).alloc (.cells #[.slice B n d] 27)).heap.size = w.heap.size + 2 := by rw [alloc_sz, alloc_sz]
  have HPA := Lib.hid (hpn.to (balloc (bref _) (.cells #[.int .i64 1, .int .i64 (S : Int), .int .i64 0, .int .i64 0, .slice Ar 0 cr] 61)))
  have HRB := Lib.hid (show (((w.alloc (.cells #[.slice A n c] 27)).alloc (.cells #[.slice B n d] 27)).alloc (.cells #[.int .i64 1, .int .i64 (S : Int), .int .i64 0, .int .i64 0, .slice Ar 0 cr] 61)).heap[w.heap.size + 2]? = some (.cells #[.int .i64 1, .int .i64 (S : Int), .int .i64 0, .int .i64 0, .slice Ar 0 cr] 61) from alloc_at hz2)
  clear hpn
  clear h1 h2 hp hokl hokh hn hdec hlen
  go_enter Tryz.func40, Tryz.ntmps40
  go_upto_region 1 with fail
  generalize (((w.alloc (.cells #[.slice A n c] 27)).alloc (.cells #[.slice B n d] 27)).alloc (.cells #[.int .i64 1, .int .i64 (S : Int), .int .i64 0, .int .i64 0, .slice Ar 0 cr] 61)) = W1 at *
  clear hz2
  generalize hg : w.heap.size = g at HPA HRB ⊢
  have HG := Lib.hid hg
  clear hg
  have l0 := HPA.out.cs.1
  have h0 := HPA.out.cs.2.1
  go_wp2_with fail
  refine (rfbegin_run P Q ls hs _ _ s HS.out _ (by rw [HN.out]; exact hl) HPA.out.ml HPA.out.mh HP.out).mono ?_
  rintro e W1x ⟨rfl, hbx⟩
  have HPA1 := Lib.hid (HPA.out.to hbx)
  have HBZ := Lib.hid hbx
  clear hbx l0 h0
  have l1 := HPA1.out.cs.1
  have h1 := HPA1.out.cs.2.1
  have HRB1 := Lib.hid ((HBZ.out.block _ (Array.getElem?_eq_some_iff.1 HRB.out).1).trans HRB.out)
  have hvn : (v : Int) < (n : Int) := by have := HV.out; rw [HN.out] at this; omega
  have hv0 : ¬ (v : Int) < 0 := by omega
  have hrb := HRB1.out
  have z0_W1x : W1x.cell? ⟨g + 2, 0, none⟩ = some (.int .i64 1) := cell_of_row _ _ 0 _ _ (0, 0) hrb
  have z1_W1x : W1x.cell? ⟨g + 2, 1, none⟩ = some (.int .i64 (S : Int)) := cell_of_row _ _ 1 _ _ (0, 0) hrb
  have z2_W1x : W1x.cell? ⟨g + 2, 2, none⟩ = some (.int .i64 0) := cell_of_row _ _ 2 _ _ (0, 0) hrb
  have z3_W1x : W1x.cell? ⟨g + 2, 3, none⟩ = some (.int .i64 0) := cell_of_row _ _ 3 _ _ (0, 0) hrb
  have z4_W1x : W1x.cell? ⟨g + 2, 4, none⟩ = some (.slice Ar 0 cr) := cell_of_row _ _ 4 _ _ (0, 0) hrb
  clear hrb
  have HG := Lib.hid (of_good HP.out (by rw [HN.out]; omega) HS.out HA.out HVB.out)
  have hs10 : s < 1024 := by have h := HS.out; have : 2 ^ ls.length ≤ 2 ^ 10 := Nat.pow_le_pow_right (by omega) (by rw [HN.out]; omega); omega
  have ht10 : S < 1024 := by rw [HNN.out]; exact outS_lt _ a (by rw [HN.out]; omega)
  have hand : bits .and .i64 (S : Int) (s : Int) = (s : Int) := by
    rw [i64_and_nat S s (by omega) (by omega), show S &&& s = s by rw [Nat.and_comm]; exact and_self_sub.2 (by rw [HNN.out]; exact HG.out.2.2.2.2.1)]
  have HHB := Lib.hid (show hasB (S : Int) (v : Int) = false from by rw [hasB_bit ht10 (by have := HV.out; rw [HN.out] at this; omega), HNN.out]; exact HG.out.2.2.2.2.2)
  have HG2 := Lib.hid (show S < 2 ^ ls.length ∧ AvT hs S ∧ InT (D3.delM S ls) from by rw [HNN.out]; exact ⟨HG.out.1, HG.out.2.1, HG.out.2.2.1⟩)
  go_wp2_with fail
  refine (rdints_run P ls _ s _ (by rw [HN.out]; omega) HS.out HPA1.out.ml (by rw [HN.out]; exact HOL.out)).mono ?_
  rintro e W2x ⟨⟨y, rfl, hy⟩, hb2⟩
  obtain rfl : y = true := hy.2 HG.out.2.2.2.1
  have HPA2 := Lib.hid (HPA1.out.to hb2)
  have y1_2 := (hb2.cell (cell_lt z1_W1x)).trans z1_W1x
  clear hb2 hy z0_W1x z1_W1x z2_W1x z3_W1x z4_W1x l1 h1
  have l2 := HPA2.out.cs.1
  have h2 := HPA2.out.cs.2.1
  go_wp2_with fail
  refine (rdIs_run P Q ls hs _ _ S HG2.out.1 _ (by rw [HN.out]; exact hl) HPA2.out.ml HPA2.out.mh HP.out).mono ?_
  rintro e W3x ⟨⟨bi, rfl, hbi⟩, hb3⟩
  obtain rfl : bi = true := hbi.2 HG2.out.2
  have HPA3 := Lib.hid (HPA2.out.to hb3)
  have y1_3 := (hb3.cell (cell_lt y1_2)).trans y1_2
  clear hb3 hbi y1_2 l2 h2
  go_wp2_with fail
  refine (rhas_run _ _ _).mono ?_
  rintro e W4x ⟨rfl, rfl⟩
  rw [HHB.out]
  clear y1_3
  go_wp2_with fail
  go_ret
  exact ⟨rfl, HPA3.out.bel⟩

set_option maxRecDepth 100000 in
set_option maxHeartbeats 8000000 in
theorem rincheckT2_run (P Q : Nat → Prop) (ls hs : List Mem) (vl vh : Value) (s v : Nat) (p r : Nat) (Ar : Option Addr) (cr : Nat) (hsx : s < 2 ^ ls.length) (hvx : v < ls.length) (hp10 : p < 1024) (hr10 : r < 1024) (hqp : IsQ 3 (D3.delM s ls) p) (hqr : IsQ 3 (D3.delM s ls) r) (hpr : p &&& r = 0) (w : World) (hl : ls.length ≤ 7) (h1 : MemsAt P 3 w vl ls) (h2 : MemsAt Q 3 w vh hs) (hp : PairM ls hs) :
    Calls Tryz.prog 40 #[.agg #[vl], .agg #[vh], .int .i64 (s : Int), .int .i64 (v : Int), .agg #[.int .i64 2, .int .i64 0, .int .i64 (p : Int), .int .i64 (r : Int), .slice Ar 0 cr]] w fun e w' => e = .returned (.bool true) ∧ Below w.heap.size w w' := by
  have HS := Lib.hid hsx
  have HV := Lib.hid hvx
  clear hsx hvx
  have HQP := Lib.hid hqp
  have HQR := Lib.hid hqr
  have hz : bits .and .i64 (p : Int) (r : Int) = 0 := by rw [i64_and_nat p r (by omega) (by omega), hpr]; rfl
  clear hqp hqr hpr
  obtain ⟨A, c, rfl⟩ := h1.slice
  obtain ⟨B, d, rfl⟩ := h2.slice
  have hlen := hp.len
  have hokl := hp.okl
  have hokh := hp.okh
  have hdec := hp.decl
  have HDL := Lib.hid (fun W (h : MemsAt P 3 W (.slice A ls.length c) ls) => declared_run P 3 ls _ W (by omega) h)
  have HDH := Lib.hid (fun W (h : MemsAt Q 3 W (.slice B hs.length d) hs) => declared_run Q 3 hs _ W (by omega) h)
  rw [hdec] at HDH
  rw [hlen] at h2 HDH hokh ⊢
  obtain ⟨n, hn⟩ : ∃ n, ls.length = n := ⟨_, rfl⟩
  have HN := Lib.hid hn
  have HNH := Lib.hid hlen
  rw [hn] at HNH
  have HD := Lib.hid (fun k (h : (declS ls ls.length).testBit k = true) => declS_bit h)
  have HDM := Lib.hid (fun k (h : (declS ls ls.length).testBit k = true) => declS_memD h)
  have hDl : declS ls ls.length < 1024 := declS_lt ls _ (by omega)
  generalize declS ls ls.length = D at HDL HDH hDl HD HDM
  rw [hn] at h1 h2 HDL HDH hokl hokh hl HD ⊢
  have HP := Lib.hid hp
  have HOL := Lib.hid hokl
  have HOH := Lib.hid hokh
  have hpn := PA.new h1 h2
  have hz2 : ((w.alloc (.cells #[.slice A n c] 27)).alloc (.cells #[.slice B n d] 27)).heap.size = w.heap.size + 2 := by rw [alloc_sz, alloc_sz]
  have HPA := Lib.hid (hpn.to (balloc (bref _) (.cells #[.int .i64 2, .int .i64 0, .int .i64 (p : Int), .int .i64 (r : Int), .slice Ar 0 cr] 61)))
  have HRB := Lib.hid (show (((w.alloc (.cells #[.slice A n c] 27)).alloc (.cells #[.slice B n d] 27)).alloc (.cells #[.int .i64 2, .int .i64 0, .int .i64 (p : Int), .int .i64 (r : Int), .slice Ar 0 cr] 61)).heap[w.heap.size + 2]? = some (.cells #[.int .i64 2, .int .i64 0, .int .i64 (p : Int), .int .i64 (r : Int), .slice Ar 0 cr] 61) from alloc_at hz2)
  clear hpn
  clear h1 h2 hp hokl hokh hn hdec hlen
  go_enter Tryz.func40, Tryz.ntmps40
  go_upto_region 1 with fail
  generalize (((w.alloc (.cells #[.slice A n c] 27)).alloc (.cells #[.slice B n d] 27)).alloc (.cells #[.int .i64 2, .int .i64 0, .int .i64 (p : Int), .int .i64 (r : Int), .slice Ar 0 cr] 61)) = W1 at *
  clear hz2
  generalize hg : w.heap.size = g at HPA HRB ⊢
  have HG := Lib.hid hg
  clear hg
  have l0 := HPA.out.cs.1
  have h0 := HPA.out.cs.2.1
  go_wp2_with fail
  refine (rfbegin_run P Q ls hs _ _ s HS.out _ (by rw [HN.out]; exact hl) HPA.out.ml HPA.out.mh HP.out).mono ?_
  rintro e W1x ⟨rfl, hbx⟩
  have HPA1 := Lib.hid (HPA.out.to hbx)
  have HBZ := Lib.hid hbx
  clear hbx l0 h0
  have l1 := HPA1.out.cs.1
  have h1 := HPA1.out.cs.2.1
  have HRB1 := Lib.hid ((HBZ.out.block _ (Array.getElem?_eq_some_iff.1 HRB.out).1).trans HRB.out)
  have hvn : (v : Int) < (n : Int) := by have := HV.out; rw [HN.out] at this; omega
  have hv0 : ¬ (v : Int) < 0 := by omega
  have hrb := HRB1.out
  have z0_W1x : W1x.cell? ⟨g + 2, 0, none⟩ = some (.int .i64 2) := cell_of_row _ _ 0 _ _ (0, 0) hrb
  have z1_W1x : W1x.cell? ⟨g + 2, 1, none⟩ = some (.int .i64 0) := cell_of_row _ _ 1 _ _ (0, 0) hrb
  have z2_W1x : W1x.cell? ⟨g + 2, 2, none⟩ = some (.int .i64 (p : Int)) := cell_of_row _ _ 2 _ _ (0, 0) hrb
  have z3_W1x : W1x.cell? ⟨g + 2, 3, none⟩ = some (.int .i64 (r : Int)) := cell_of_row _ _ 3 _ _ (0, 0) hrb
  have z4_W1x : W1x.cell? ⟨g + 2, 4, none⟩ = some (.slice Ar 0 cr) := cell_of_row _ _ 4 _ _ (0, 0) hrb
  clear hrb
  go_wp2_with fail
  refine (D3.rdelete_run P ls _ s _ (by rw [HN.out]; omega) (by have h := HS.out; have : 2 ^ ls.length ≤ 2 ^ 10 := Nat.pow_le_pow_right (by omega) (by rw [HN.out]; omega); omega) HPA1.out.ml (by rw [HN.out]; exact HOL.out)).mono ?_
  rintro e Wd ⟨vd, rfl, hmd, hbd⟩
  obtain ⟨Ad, cd, rfl⟩ := hmd.slice
  have hdl : (D3.delM s ls).length = n := by rw [D3.delM_len, HN.out]
  rw [hdl] at hmd ⊢
  have HDL2 := Lib.hid hdl
  have hrd := (hbd.block _ (Array.getElem?_eq_some_iff.1 HRB1.out).1).trans HRB1.out
  have hba := balloc (bref Wd) (.cells #[.slice Ad n cd] 27)
  have HKD := Lib.hid (show (Wd.alloc (.cells #[.slice Ad n cd] 27)).heap[Wd.heap.size]? = some (.cells #[.slice Ad n cd] 27 (0, 0)) from alloc_at rfl)
  have HRD := Lib.hid ((hba.block _ (Array.getElem?_eq_some_iff.1 hrd).1).trans hrd)
  have HMD := Lib.hid ((hmd.both (w' := Wd) (Q := fun _ => True) (fun _ _ _ => rfl) (fun _ _ _ => trivial)).below hba)
  have HBD := Lib.hid (HPA1.out.to (bstep hbd hba)).bel
  clear hbd hmd hdl hrd hba l1 h1
  go_upto_region 12 with fail
  generalize (Wd.alloc (.cells #[.slice Ad n cd] 27)) = WD at *
  generalize Wd.heap.size = db at *
  have d0 : WD.cell? ⟨db, 0, none⟩ = some (.slice Ad n cd) := cell_of_row _ _ 0 _ _ (0, 0) HKD.out
  have hrb := HRD.out
  have z0_WD : WD.cell? ⟨g + 2, 0, none⟩ = some (.int .i64 2) := cell_of_row _ _ 0 _ _ (0, 0) hrb
  have z1_WD : WD.cell? ⟨g + 2, 1, none⟩ = some (.int .i64 0) := cell_of_row _ _ 1 _ _ (0, 0) hrb
  have z2_WD : WD.cell? ⟨g + 2, 2, none⟩ = some (.int .i64 (p : Int)) := cell_of_row _ _ 2 _ _ (0, 0) hrb
  have z3_WD : WD.cell? ⟨g + 2, 3, none⟩ = some (.int .i64 (r : Int)) := cell_of_row _ _ 3 _ _ (0, 0) hrb
  have z4_WD : WD.cell? ⟨g + 2, 4, none⟩ = some (.slice Ar 0 cr) := cell_of_row _ _ 4 _ _ (0, 0) hrb
  clear hrb z0_W1x z1_W1x z2_W1x z3_W1x z4_W1x
  go_wp2_with fail
  refine (rquorum_run _ 3 (D3.delM s ls) _ p _ (by rw [HDL2.out]; omega) hp10 HMD.out).mono ?_
  rintro e We ⟨q1, rfl, hq1, hbe⟩
  obtain rfl : q1 = true := hq1.2 HQP.out
  have HBE := Lib.hid (bstep HBD.out hbe)
  have HMD2 := Lib.hid (HMD.out.below hbe)
  have e0 := (hbe.cell (cell_lt d0)).trans d0
  have z3_We := (hbe.cell (cell_lt z3_WD)).trans z3_WD
  have z2_We := (hbe.cell (cell_lt z2_WD)).trans z2_WD
  clear hbe hq1 d0 z0_WD z1_WD z2_WD z3_WD z4_WD
  go_wp2_with fail
  refine (rquorum_run _ 3 (D3.delM s ls) _ r _ (by rw [HDL2.out]; omega) hr10 HMD2.out).mono ?_
  rintro e Wf ⟨q2, rfl, hq2, hbf⟩
  obtain rfl : q2 = true := hq2.2 HQR.out
  have HBF := Lib.hid (bstep HBE.out hbf)
  have z3_Wf := (hbf.cell (cell_lt z3_We)).trans z3_We
  have z2_Wf := (hbf.cell (cell_lt z2_We)).trans z2_We
  clear hbf hq2 e0 z3_We z2_We
  go_wp2_with fail
  go_ret
  exact ⟨rfl, HBF.out⟩

set_option maxRecDepth 100000 in
set_option maxHeartbeats 8000000 in
theorem rincheckT3_run (P Q : Nat → Prop) (ls hs : List Mem) (vl vh : Value) (s v : Nat) (Ar : Option Addr) (cr : Nat) (hsx : s < 2 ^ ls.length) (hvx : v < ls.length) (hsv : s.testBit v = true) (w : World) (hl : ls.length ≤ 7) (h1 : MemsAt P 3 w vl ls) (h2 : MemsAt Q 3 w vh hs) (hp : PairM ls hs) :
    Calls Tryz.prog 40 #[.agg #[vl], .agg #[vh], .int .i64 (s : Int), .int .i64 (v : Int), .agg #[.int .i64 3, .int .i64 0, .int .i64 0, .int .i64 0, .slice Ar 0 cr]] w fun e w' => e = .returned (.bool true) ∧ Below w.heap.size w w' := by
  have HS := Lib.hid hsx
  have HV := Lib.hid hvx
  clear hsx hvx
  have HSV := Lib.hid hsv
  clear hsv
  obtain ⟨A, c, rfl⟩ := h1.slice
  obtain ⟨B, d, rfl⟩ := h2.slice
  have hlen := hp.len
  have hokl := hp.okl
  have hokh := hp.okh
  have hdec := hp.decl
  have HDL := Lib.hid (fun W (h : MemsAt P 3 W (.slice A ls.length c) ls) => declared_run P 3 ls _ W (by omega) h)
  have HDH := Lib.hid (fun W (h : MemsAt Q 3 W (.slice B hs.length d) hs) => declared_run Q 3 hs _ W (by omega) h)
  rw [hdec] at HDH
  rw [hlen] at h2 HDH hokh ⊢
  obtain ⟨n, hn⟩ : ∃ n, ls.length = n := ⟨_, rfl⟩
  have HN := Lib.hid hn
  have HNH := Lib.hid hlen
  rw [hn] at HNH
  have HD := Lib.hid (fun k (h : (declS ls ls.length).testBit k = true) => declS_bit h)
  have HDM := Lib.hid (fun k (h : (declS ls ls.length).testBit k = true) => declS_memD h)
  have hDl : declS ls ls.length < 1024 := declS_lt ls _ (by omega)
  generalize declS ls ls.length = D at HDL HDH hDl HD HDM
  rw [hn] at h1 h2 HDL HDH hokl hokh hl HD ⊢
  have HP := Lib.hid hp
  have HOL := Lib.hid hokl
  have HOH := Lib.hid hokh
  have hpn := PA.new h1 h2
  have hz2 : ((w.alloc (.cells #[.slice A n c] 27)).alloc (.cells #[.slice B n d] 27)).heap.size = w.heap.size + 2 := by rw [alloc_sz, alloc_sz]
  have HPA := Lib.hid (hpn.to (balloc (bref _) (.cells #[.int .i64 3, .int .i64 0, .int .i64 0, .int .i64 0, .slice Ar 0 cr] 61)))
  have HRB := Lib.hid (show (((w.alloc (.cells #[.slice A n c] 27)).alloc (.cells #[.slice B n d] 27)).alloc (.cells #[.int .i64 3, .int .i64 0, .int .i64 0, .int .i64 0, .slice Ar 0 cr] 61)).heap[w.heap.size + 2]? = some (.cells #[.int .i64 3, .int .i64 0, .int .i64 0, .int .i64 0, .slice Ar 0 cr] 61) from alloc_at hz2)
  clear hpn
  clear h1 h2 hp hokl hokh hn hdec hlen
  go_enter Tryz.func40, Tryz.ntmps40
  go_upto_region 1 with fail
  generalize (((w.alloc (.cells #[.slice A n c] 27)).alloc (.cells #[.slice B n d] 27)).alloc (.cells #[.int .i64 3, .int .i64 0, .int .i64 0, .int .i64 0, .slice Ar 0 cr] 61)) = W1 at *
  clear hz2
  generalize hg : w.heap.size = g at HPA HRB ⊢
  have HG := Lib.hid hg
  clear hg
  have l0 := HPA.out.cs.1
  have h0 := HPA.out.cs.2.1
  go_wp2_with fail
  refine (rfbegin_run P Q ls hs _ _ s HS.out _ (by rw [HN.out]; exact hl) HPA.out.ml HPA.out.mh HP.out).mono ?_
  rintro e W1x ⟨rfl, hbx⟩
  have HPA1 := Lib.hid (HPA.out.to hbx)
  have HBZ := Lib.hid hbx
  clear hbx l0 h0
  have l1 := HPA1.out.cs.1
  have h1 := HPA1.out.cs.2.1
  have HRB1 := Lib.hid ((HBZ.out.block _ (Array.getElem?_eq_some_iff.1 HRB.out).1).trans HRB.out)
  have hvn : (v : Int) < (n : Int) := by have := HV.out; rw [HN.out] at this; omega
  have hv0 : ¬ (v : Int) < 0 := by omega
  have hrb := HRB1.out
  have z0_W1x : W1x.cell? ⟨g + 2, 0, none⟩ = some (.int .i64 3) := cell_of_row _ _ 0 _ _ (0, 0) hrb
  have z1_W1x : W1x.cell? ⟨g + 2, 1, none⟩ = some (.int .i64 0) := cell_of_row _ _ 1 _ _ (0, 0) hrb
  have z2_W1x : W1x.cell? ⟨g + 2, 2, none⟩ = some (.int .i64 0) := cell_of_row _ _ 2 _ _ (0, 0) hrb
  have z3_W1x : W1x.cell? ⟨g + 2, 3, none⟩ = some (.int .i64 0) := cell_of_row _ _ 3 _ _ (0, 0) hrb
  have z4_W1x : W1x.cell? ⟨g + 2, 4, none⟩ = some (.slice Ar 0 cr) := cell_of_row _ _ 4 _ _ (0, 0) hrb
  clear hrb
  have hs10 : s < 1024 := by have h := HS.out; have : 2 ^ ls.length ≤ 2 ^ 10 := Nat.pow_le_pow_right (by omega) (by rw [HN.out]; omega); omega
  go_wp2_with fail
  refine (rhas_run _ _ _).mono ?_
  rintro e W4x ⟨rfl, rfl⟩
  rw [hasB_bit hs10 (by have := HV.out; rw [HN.out] at this; omega), HSV.out]
  clear z0_W1x z1_W1x z2_W1x z3_W1x z4_W1x
  go_wp2_with fail
  go_ret
  exact ⟨rfl, HPA1.out.bel⟩
end Go.Proofs.YtacpfcckilnbfaaGreat
