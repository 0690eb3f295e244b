/- intact.Explain: its first three results. -/
import Derived.Test.YtacpfcckilnbfaaGreatInCheckT
namespace Go.Proofs.YtacpfcckilnbfaaGreat
set_option linter.unusedVariables false
set_option linter.unusedSimpArgs false
open Go.RowKit

theorem set5_row {W : World} {r : Nat} {a0 a1 a2 a3 a4 : Value} {t : TypeId} (u0 u1 u2 u3 u4 : Value) (h : W.heap[r]? = some (.cells #[a0, a1, a2, a3, a4] t (0, 0))) : (((((W.setCell ⟨r, 0, none⟩ u0).setCell ⟨r, 1, none⟩ u1).setCell ⟨r, 2, none⟩ u2).setCell ⟨r, 3, none⟩ u3).setCell ⟨r, 4, none⟩ u4).heap[r]? = some (.cells #[u0, u1, u2, u3, u4] t (0, 0)) := by
  simp [World.setCell, Array.getElem?_modify, h]

set_option maxRecDepth 100000 in
set_option maxHeartbeats 8000000 in
theorem inexplain1_run (P Q : Nat → Prop) (ls hs : List Mem) (vl vh : Value) (s v a : Nat) (hsx : s < 2 ^ ls.length) (hvx : v < ls.length) (ha : OfIs s ls hs a) (hav : a.testBit v = true) (w : World) (hl : ls.length ≤ 7) (h1 : MemsAt P 3 w vl ls) (h2 : MemsAt Q 3 w vh hs) (hp : PairM ls hs) :
    Calls Tryz.prog 39 #[.agg #[vl], .agg #[vh], .int .i64 (s : Int), .int .i64 (v : Int)] w fun e w' => e = .returned (.tuple #[.agg #[.int .i64 1, .int .i64 ((outS ls.length a : Nat) : Int), .int .i64 0, .int .i64 0, .slice none 0 0], .int .i64 0]) ∧ Below w.heap.size w w' := by
  have HS := Lib.hid hsx
  have HV := Lib.hid hvx
  have HA := Lib.hid ha
  clear hsx hvx ha
  have HAV := Lib.hid hav
  clear hav
  obtain ⟨A, c, rfl⟩ := h1.slice
  obtain ⟨B, d, rfl⟩ := h2.slice
  have hlen := hp.len
  have hokl := hp.okl
  have hokh := hp.okh
  have hdec := hp.decl
  have HDL := Lib.hid (fun W (h : MemsAt P 3 W (.slice A ls.length c) ls) => declared_run P 3 ls _ W (by omega) h)
  have HDH := Lib.hid (fun W (h : MemsAt Q 3 W (.slice B hs.length d) hs) => declared_run Q 3 hs _ W (by omega) h)
  rw [hdec] at HDH
  rw [hlen] at h2 HDH hokh ⊢
  obtain ⟨n, hn⟩ : ∃ n, ls.length = n := ⟨_, rfl⟩
  have HN := Lib.hid hn
  have HNH := Lib.hid hlen
  rw [hn] at HNH
  have HD := Lib.hid (fun k (h : (declS ls ls.length).testBit k = true) => declS_bit h)
  have HDM := Lib.hid (fun k (h : (declS ls ls.length).testBit k = true) => declS_memD h)
  have hDl : declS ls ls.length < 1024 := declS_lt ls _ (by omega)
  generalize declS ls ls.length = D at HDL HDH hDl HD HDM
  rw [hn] at h1 h2 HDL HDH hokl hokh hl HD ⊢
  have HP := Lib.hid hp
  have HOL := Lib.hid hokl
  have HOH := Lib.hid hokh
  have hpn := PA.new h1 h2
  have hz2 : ((w.alloc (.cells #[.slice A n c] 27)).alloc (.cells #[.slice B n d] 27)).heap.size = w.heap.size + 2 := by rw [alloc_sz, alloc_sz]
  have HPA := Lib.hid (hpn.to (balloc (bref _) (.cells #[.int .i64 0, .int .i64 0, .int .i64 0, .int .i64 0, .slice none 0 0] 61)))
  have HRB := Lib.hid (show (((w.alloc (.cells #[.slice A n c] 27)).alloc (.cells #[.slice B n d] 27)).alloc (.cells #[.int .i64 0, .int .i64 0, .int .i64 0, .int .i64 0, .slice none 0 0] 61)).heap[w.heap.size + 2]? = some (.cells #[.int .i64 0, .int .i64 0, .int .i64 0, .int .i64 0, .slice none 0 0] 61) from alloc_at hz2)
  clear hpn
  clear h1 h2 hp hokl hokh hn hdec hlen
  go_enter Tryz.func39, Tryz.ntmps39
  go_upto_region 1 with fail
  generalize (((w.alloc (.cells #[.slice A n c] 27)).alloc (.cells #[.slice B n d] 27)).alloc (.cells #[.int .i64 0, .int .i64 0, .int .i64 0, .int .i64 0, .slice none 0 0] 61)) = W1 at *
  clear hz2
  generalize hg : w.heap.size = g at HPA HRB ⊢
  have HG := Lib.hid hg
  clear hg
  have l0 := HPA.out.cs.1
  have h0 := HPA.out.cs.2.1
  go_wp2_with fail
  refine (inof_run P Q ls hs _ _ s HS.out _ (by rw [HN.out]; exact hl) HPA.out.ml HPA.out.mh HP.out).mono ?_
  rintro e W1x ⟨⟨a', rfl, hof⟩, hbx⟩
  have HPA1 := Lib.hid (HPA.out.to hbx)
  obtain rfl := of_uniq HP.out (by rw [HN.out]; omega) HA.out hof
  clear hof
  have HBZ := Lib.hid hbx
  clear hbx l0 h0
  have l1 := HPA1.out.cs.1
  have h1 := HPA1.out.cs.2.1
  have HRB1 := Lib.hid ((HBZ.out.block _ (Array.getElem?_eq_some_iff.1 HRB.out).1).trans HRB.out)
  have hvn : (v : Int) < (n : Int) := by have := HV.out; rw [HN.out] at this; omega
  have hv0 : ¬ (v : Int) < 0 := by omega
  have hal := HA.out.lt
  have hN7 : 2 ^ ls.length ≤ 2 ^ 10 := Nat.pow_le_pow_right (by omega) (by rw [HN.out]; omega)
  have ha10 : a < 1024 := by omega
  have HHA := Lib.hid (show hasB (a : Int) (v : Int) = a.testBit v from hasB_bit ha10 (by have := HV.out; rw [HN.out] at this; omega))
  clear hal hN7
  go_wp2_with fail
  refine (has_run _ _ _).mono ?_
  rintro e W2x ⟨rfl, rfl⟩
  rw [HHA.out, HAV.out]
  have han : bits .andNot .i64 ((2 ^ n - 1 : Nat) : Int) (a : Int) = ((outS n a : Nat) : Int) := andNot_nat (2 ^ n - 1) a (by have : 2 ^ n ≤ 2 ^ 7 := Nat.pow_le_pow_right (by omega) hl; omega) ha10
  obtain ⟨S, hSe⟩ : ∃ S, outS n a = S := ⟨_, rfl⟩
  have HSE := Lib.hid hSe
  rw [hSe] at han
  clear hSe
  have HMR := Lib.hid (fun W => inmembers_run A n c (by omega) W)
  generalize 2 ^ n - 1 = M at han HMR
  go_wp2_with fail
  refine (HMR.out _).mono ?_
  rintro e W3x ⟨rfl, hb3⟩
  have HB3 := Lib.hid (HPA1.out.to hb3).bel
  have HRBZ := Lib.hid ((hb3.block _ (Array.getElem?_eq_some_iff.1 HRB1.out).1).trans HRB1.out)
  clear hb3 l1 h1
  have hrb := HRBZ.out
  have z0 : W3x.cell? ⟨g + 2, 0, none⟩ = some (.int .i64 0) := cell_of_row _ _ 0 _ _ (0, 0) hrb
  have zf0 : W3x.frozen? ⟨g + 2, 0, none⟩ = false := by simp [World.frozen?, hrb]
  have z1 : W3x.cell? ⟨g + 2, 1, none⟩ = some (.int .i64 0) := cell_of_row _ _ 1 _ _ (0, 0) hrb
  have zf1 : W3x.frozen? ⟨g + 2, 1, none⟩ = false := by simp [World.frozen?, hrb]
  have z2 : W3x.cell? ⟨g + 2, 2, none⟩ = some (.int .i64 0) := cell_of_row _ _ 2 _ _ (0, 0) hrb
  have zf2 : W3x.frozen? ⟨g + 2, 2, none⟩ = false := by simp [World.frozen?, hrb]
  have z3 : W3x.cell? ⟨g + 2, 3, none⟩ = some (.int .i64 0) := cell_of_row _ _ 3 _ _ (0, 0) hrb
  have zf3 : W3x.frozen? ⟨g + 2, 3, none⟩ = false := by simp [World.frozen?, hrb]
  have z4 : W3x.cell? ⟨g + 2, 4, none⟩ = some (.slice none 0 0) := cell_of_row _ _ 4 _ _ (0, 0) hrb
  have zf4 : W3x.frozen? ⟨g + 2, 4, none⟩ = false := by simp [World.frozen?, hrb]
  have hset := set5_row (.int .i64 1) (.int .i64 (S : Int)) (.int .i64 0) (.int .i64 0) (.slice none 0 0) hrb
  have Q0 := Lib.hid (cell_of_row _ _ 0 _ _ (0, 0) hset : (((((W3x.setCell ⟨g + 2, 0, none⟩ (.int .i64 1)).setCell ⟨g + 2, 1, none⟩ (.int .i64 (S : Int))).setCell ⟨g + 2, 2, none⟩ (.int .i64 0)).setCell ⟨g + 2, 3, none⟩ (.int .i64 0)).setCell ⟨g + 2, 4, none⟩ (.slice none 0 0)).cell? ⟨g + 2, 0, none⟩ = some (.int .i64 1))
  have Q1 := Lib.hid (cell_of_row _ _ 1 _ _ (0, 0) hset : (((((W3x.setCell ⟨g + 2, 0, none⟩ (.int .i64 1)).setCell ⟨g + 2, 1, none⟩ (.int .i64 (S : Int))).setCell ⟨g + 2, 2, none⟩ (.int .i64 0)).setCell ⟨g + 2, 3, none⟩ (.int .i64 0)).setCell ⟨g + 2, 4, none⟩ (.slice none 0 0)).cell? ⟨g + 2, 1, none⟩ = some (.int .i64 (S : Int)))
  have Q2 := Lib.hid (cell_of_row _ _ 2 _ _ (0, 0) hset : (((((W3x.setCell ⟨g + 2, 0, none⟩ (.int .i64 1)).setCell ⟨g + 2, 1, none⟩ (.int .i64 (S : Int))).setCell ⟨g + 2, 2, none⟩ (.int .i64 0)).setCell ⟨g + 2, 3, none⟩ (.int .i64 0)).setCell ⟨g + 2, 4, none⟩ (.slice none 0 0)).cell? ⟨g + 2, 2, none⟩ = some (.int .i64 0))
  have Q3 := Lib.hid (cell_of_row _ _ 3 _ _ (0, 0) hset : (((((W3x.setCell ⟨g + 2, 0, none⟩ (.int .i64 1)).setCell ⟨g + 2, 1, none⟩ (.int .i64 (S : Int))).setCell ⟨g + 2, 2, none⟩ (.int .i64 0)).setCell ⟨g + 2, 3, none⟩ (.int .i64 0)).setCell ⟨g + 2, 4, none⟩ (.slice none 0 0)).cell? ⟨g + 2, 3, none⟩ = some (.int .i64 0))
  have Q4 := Lib.hid (cell_of_row _ _ 4 _ _ (0, 0) hset : (((((W3x.setCell ⟨g + 2, 0, none⟩ (.int .i64 1)).setCell ⟨g + 2, 1, none⟩ (.int .i64 (S : Int))).setCell ⟨g + 2, 2, none⟩ (.int .i64 0)).setCell ⟨g + 2, 3, none⟩ (.int .i64 0)).setCell ⟨g + 2, 4, none⟩ (.slice none 0 0)).cell? ⟨g + 2, 4, none⟩ = some (.slice none 0 0))
  have HFB := Lib.hid (show Below w.heap.size w (((((W3x.setCell ⟨g + 2, 0, none⟩ (.int .i64 1)).setCell ⟨g + 2, 1, none⟩ (.int .i64 (S : Int))).setCell ⟨g + 2, 2, none⟩ (.int .i64 0)).setCell ⟨g + 2, 3, none⟩ (.int .i64 0)).setCell ⟨g + 2, 4, none⟩ (.slice none 0 0)) from by
    have hG := HG.out
    exact (bset (bset (bset (bset (bset HB3.out (p := ⟨g + 2, 0, none⟩) (by show w.heap.size ≤ g + 2; omega) _) (p := ⟨g + 2, 1, none⟩) (by show w.heap.size ≤ g + 2; omega) _) (p := ⟨g + 2, 2, none⟩) (by show w.heap.size ≤ g + 2; omega) _) (p := ⟨g + 2, 3, none⟩) (by show w.heap.size ≤ g + 2; omega) _) (p := ⟨g + 2, 4, none⟩) (by show w.heap.size ≤ g + 2; omega) _))
  clear hset hrb
  go_wp2_with fail
  have q0 := Q0.out
  have q1 := Q1.out
  have q2 := Q2.out
  have q3 := Q3.out
  have q4 := Q4.out
  refine bodyPost_ret (v := .tuple #[.agg #[.int .i64 1, .int .i64 (S : Int), .int .i64 0, .int .i64 0, .slice none 0 0], .int .i64 0]) ?_ rfl ⟨by rw [HSE.out], HFB.out⟩
  simp [results, Tryz.results39, go_sem, q0, q1, q2, q3, q4]

set_option maxRecDepth 100000 in
set_option maxHeartbeats 8000000 in
theorem inexplain3_run (P Q : Nat → Prop) (ls hs : List Mem) (vl vh : Value) (s v a : Nat) (hsx : s < 2 ^ ls.length) (hvx : v < ls.length) (ha : OfIs s ls hs a) (hav : a.testBit v = false) (hin : InT (D3.delM s ls)) (hsv : s.testBit v = true) (w : World) (hl : ls.length ≤ 7) (h1 : MemsAt P 3 w vl ls) (h2 : MemsAt Q 3 w vh hs) (hp : PairM ls hs) :
    Calls Tryz.prog 39 #[.agg #[vl], .agg #[vh], .int .i64 (s : Int), .int .i64 (v : Int)] w fun e w' => e = .returned (.tuple #[.agg #[.int .i64 3, .int .i64 0, .int .i64 0, .int .i64 0, .slice none 0 0], .int .i64 0]) ∧ Below w.heap.size w w' := by
  have HS := Lib.hid hsx
  have HV := Lib.hid hvx
  have HA := Lib.hid ha
  clear hsx hvx ha
  have HAV := Lib.hid hav
  have HIN := Lib.hid hin
  have HSV := Lib.hid hsv
  clear hav hin hsv
  obtain ⟨A, c, rfl⟩ := h1.slice
  obtain ⟨B, d, rfl⟩ := h2.slice
  have hlen := hp.len
  have hokl := hp.okl
  have hokh := hp.okh
  have hdec := hp.decl
  have HDL := Lib.hid (fun W (h : MemsAt P 3 W (.slice A ls.length c) ls) => declared_run P 3 ls _ W (by omega) h)
  have HDH := Lib.hid (fun W (h : MemsAt Q 3 W (.slice B hs.length d) hs) => declared_run Q 3 hs _ W (by omega) h)
  rw [hdec] at HDH
  rw [hlen] at h2 HDH hokh ⊢
  obtain ⟨n, hn⟩ : ∃ n, ls.length = n := ⟨_, rfl⟩
  have HN := Lib.hid hn
  have HNH := Lib.hid hlen
  rw [hn] at HNH
  have HD := Lib.hid (fun k (h : (declS ls ls.length).testBit k = true) => declS_bit h)
  have HDM := Lib.hid (fun k (h : (declS ls ls.length).testBit k = true) => declS_memD h)
  have hDl : declS ls ls.length < 1024 := declS_lt ls _ (by omega)
  generalize declS ls ls.length = D at HDL HDH hDl HD HDM
  rw [hn] at h1 h2 HDL HDH hokl hokh hl HD ⊢
  have HP := Lib.hid hp
  have HOL := Lib.hid hokl
  have HOH := Lib.hid hokh
  have hpn := PA.new h1 h2
  have hz2 : ((w.alloc (.cells #[.slice A n c] 27)).alloc (.cells #[.slice B n d] 27)).heap.size = w.heap.size + 2 := by rw [alloc_sz, alloc_sz]
  have HPA := Lib.hid (hpn.to (balloc (bref _) (.cells #[.int .i64 0, .int .i64 0, .int .i64 0, .int .i64 0, .slice none 0 0] 61)))
  have HRB := Lib.hid (show (((w.alloc (.cells #[.slice A n c] 27)).alloc (.cells #[.slice B n d] 27)).alloc (.cells #[.int .i64 0, .int .i64 0, .int .i64 0, .int .i64 0, .slice none 0 0] 61)).heap[w.heap.size + 2]? = some (.cells #[.int .i64 0, .int .i64 0, .int .i64 0, .int .i64 0, .slice none 0 0] 61) from alloc_at hz2)
  clear hpn
  clear h1 h2 hp hokl hokh hn hdec hlen
  go_enter Tryz.func39, Tryz.ntmps39
  go_upto_region 1 with fail
  generalize (((w.alloc (.cells #[.slice A n c] 27)).alloc (.cells #[.slice B n d] 27)).alloc (.cells #[.int .i64 0, .int .i64 0, .int .i64 0, .int .i64 0, .slice none 0 0] 61)) = W1 at *
  clear hz2
  generalize hg : w.heap.size = g at HPA HRB ⊢
  have HG := Lib.hid hg
  clear hg
  have l0 := HPA.out.cs.1
  have h0 := HPA.out.cs.2.1
  go_wp2_with fail
  refine (inof_run P Q ls hs _ _ s HS.out _ (by rw [HN.out]; exact hl) HPA.out.ml HPA.out.mh HP.out).mono ?_
  rintro e W1x ⟨⟨a', rfl, hof⟩, hbx⟩
  have HPA1 := Lib.hid (HPA.out.to hbx)
  obtain rfl := of_uniq HP.out (by rw [HN.out]; omega) HA.out hof
  clear hof
  have HBZ := Lib.hid hbx
  clear hbx l0 h0
  have l1 := HPA1.out.cs.1
  have h1 := HPA1.out.cs.2.1
  have HRB1 := Lib.hid ((HBZ.out.block _ (Array.getElem?_eq_some_iff.1 HRB.out).1).trans HRB.out)
  have hvn : (v : Int) < (n : Int) := by have := HV.out; rw [HN.out] at this; omega
  have hv0 : ¬ (v : Int) < 0 := by omega
  have hal := HA.out.lt
  have hN7 : 2 ^ ls.length ≤ 2 ^ 10 := Nat.pow_le_pow_right (by omega) (by rw [HN.out]; omega)
  have ha10 : a < 1024 := by omega
  have HHA := Lib.hid (show hasB (a : Int) (v : Int) = a.testBit v from hasB_bit ha10 (by have := HV.out; rw [HN.out] at this; omega))
  clear hal hN7
  go_wp2_with fail
  refine (has_run _ _ _).mono ?_
  rintro e W2x ⟨rfl, rfl⟩
  rw [HHA.out, HAV.out]
  have hs10 : s < 1024 := by have h := HS.out; have : 2 ^ ls.length ≤ 2 ^ 10 := Nat.pow_le_pow_right (by omega) (by rw [HN.out]; omega); omega
  have HHS := Lib.hid (show hasB (s : Int) (v : Int) = true from by rw [hasB_bit hs10 (by have := HV.out; rw [HN.out] at this; omega)]; exact HSV.out)
  go_wp2_with fail
  refine (inints_run P ls _ s _ (by rw [HN.out]; omega) HS.out HPA1.out.ml (by rw [HN.out]; exact HOL.out)).mono ?_
  rintro e W3x ⟨⟨y, rfl, hy⟩, hb3⟩
  obtain rfl : y = true := hy.2 HIN.out
  have HB3 := Lib.hid (HPA1.out.to hb3).bel
  have HRBZ := Lib.hid ((hb3.block _ (Array.getElem?_eq_some_iff.1 HRB1.out).1).trans HRB1.out)
  clear hb3 hy l1 h1
  go_wp2_with fail
  refine (has_run _ _ _).mono ?_
  rintro e W4x ⟨rfl, rfl⟩
  rw [HHS.out]
  have hrb := HRBZ.out
  have z0 : W3x.cell? ⟨g + 2, 0, none⟩ = some (.int .i64 0) := cell_of_row _ _ 0 _ _ (0, 0) hrb
  have zf0 : W3x.frozen? ⟨g + 2, 0, none⟩ = false := by simp [World.frozen?, hrb]
  have z1 : W3x.cell? ⟨g + 2, 1, none⟩ = some (.int .i64 0) := cell_of_row _ _ 1 _ _ (0, 0) hrb
  have zf1 : W3x.frozen? ⟨g + 2, 1, none⟩ = false := by simp [World.frozen?, hrb]
  have z2 : W3x.cell? ⟨g + 2, 2, none⟩ = some (.int .i64 0) := cell_of_row _ _ 2 _ _ (0, 0) hrb
  have zf2 : W3x.frozen? ⟨g + 2, 2, none⟩ = false := by simp [World.frozen?, hrb]
  have z3 : W3x.cell? ⟨g + 2, 3, none⟩ = some (.int .i64 0) := cell_of_row _ _ 3 _ _ (0, 0) hrb
  have zf3 : W3x.frozen? ⟨g + 2, 3, none⟩ = false := by simp [World.frozen?, hrb]
  have z4 : W3x.cell? ⟨g + 2, 4, none⟩ = some (.slice none 0 0) := cell_of_row _ _ 4 _ _ (0, 0) hrb
  have zf4 : W3x.frozen? ⟨g + 2, 4, none⟩ = false := by simp [World.frozen?, hrb]
  have hset := set5_row (.int .i64 3) (.int .i64 0) (.int .i64 0) (.int .i64 0) (.slice none 0 0) hrb
  have Q0 := Lib.hid (cell_of_row _ _ 0 _ _ (0, 0) hset : (((((W3x.setCell ⟨g + 2, 0, none⟩ (.int .i64 3)).setCell ⟨g + 2, 1, none⟩ (.int .i64 0)).setCell ⟨g + 2, 2, none⟩ (.int .i64 0)).setCell ⟨g + 2, 3, none⟩ (.int .i64 0)).setCell ⟨g + 2, 4, none⟩ (.slice none 0 0)).cell? ⟨g + 2, 0, none⟩ = some (.int .i64 3))
  have Q1 := Lib.hid (cell_of_row _ _ 1 _ _ (0, 0) hset : (((((W3x.setCell ⟨g + 2, 0, none⟩ (.int .i64 3)).setCell ⟨g + 2, 1, none⟩ (.int .i64 0)).setCell ⟨g + 2, 2, none⟩ (.int .i64 0)).setCell ⟨g + 2, 3, none⟩ (.int .i64 0)).setCell ⟨g + 2, 4, none⟩ (.slice none 0 0)).cell? ⟨g + 2, 1, none⟩ = some (.int .i64 0))
  have Q2 := Lib.hid (cell_of_row _ _ 2 _ _ (0, 0) hset : (((((W3x.setCell ⟨g + 2, 0, none⟩ (.int .i64 3)).setCell ⟨g + 2, 1, none⟩ (.int .i64 0)).setCell ⟨g + 2, 2, none⟩ (.int .i64 0)).setCell ⟨g + 2, 3, none⟩ (.int .i64 0)).setCell ⟨g + 2, 4, none⟩ (.slice none 0 0)).cell? ⟨g + 2, 2, none⟩ = some (.int .i64 0))
  have Q3 := Lib.hid (cell_of_row _ _ 3 _ _ (0, 0) hset : (((((W3x.setCell ⟨g + 2, 0, none⟩ (.int .i64 3)).setCell ⟨g + 2, 1, none⟩ (.int .i64 0)).setCell ⟨g + 2, 2, none⟩ (.int .i64 0)).setCell ⟨g + 2, 3, none⟩ (.int .i64 0)).setCell ⟨g + 2, 4, none⟩ (.slice none 0 0)).cell? ⟨g + 2, 3, none⟩ = some (.int .i64 0))
  have Q4 := Lib.hid (cell_of_row _ _ 4 _ _ (0, 0) hset : (((((W3x.setCell ⟨g + 2, 0, none⟩ (.int .i64 3)).setCell ⟨g + 2, 1, none⟩ (.int .i64 0)).setCell ⟨g + 2, 2, none⟩ (.int .i64 0)).setCell ⟨g + 2, 3, none⟩ (.int .i64 0)).setCell ⟨g + 2, 4, none⟩ (.slice none 0 0)).cell? ⟨g + 2, 4, none⟩ = some (.slice none 0 0))
  have HFB := Lib.hid (show Below w.heap.size w (((((W3x.setCell ⟨g + 2, 0, none⟩ (.int .i64 3)).setCell ⟨g + 2, 1, none⟩ (.int .i64 0)).setCell ⟨g + 2, 2, none⟩ (.int .i64 0)).setCell ⟨g + 2, 3, none⟩ (.int .i64 0)).setCell ⟨g + 2, 4, none⟩ (.slice none 0 0)) from by
    have hG := HG.out
    exact (bset (bset (bset (bset (bset HB3.out (p := ⟨g + 2, 0, none⟩) (by show w.heap.size ≤ g + 2; omega) _) (p := ⟨g + 2, 1, none⟩) (by show w.heap.size ≤ g + 2; omega) _) (p := ⟨g + 2, 2, none⟩) (by show w.heap.size ≤ g + 2; omega) _) (p := ⟨g + 2, 3, none⟩) (by show w.heap.size ≤ g + 2; omega) _) (p := ⟨g + 2, 4, none⟩) (by show w.heap.size ≤ g + 2; omega) _))
  clear hset hrb
  go_wp2_with fail
  have q0 := Q0.out
  have q1 := Q1.out
  have q2 := Q2.out
  have q3 := Q3.out
  have q4 := Q4.out
  refine bodyPost_ret (v := .tuple #[.agg #[.int .i64 3, .int .i64 0, .int .i64 0, .int .i64 0, .slice none 0 0], .int .i64 0]) ?_ rfl ⟨rfl, HFB.out⟩
  simp [results, Tryz.results39, go_sem, q0, q1, q2, q3, q4]

def Ex2 (s : Nat) (ls : List Mem) (e : Ending) : Prop := ∃ p r : Nat, p < 1024 ∧ r < 1024 ∧ IsQ 3 (D3.delM s ls) p ∧ IsQ 3 (D3.delM s ls) r ∧ p &&& r = 0 ∧ e = .returned (.tuple #[.agg #[.int .i64 2, .int .i64 0, .int .i64 (p : Int), .int .i64 (r : Int), .slice none 0 0], .int .i64 0])

set_option maxRecDepth 100000 in
set_option maxHeartbeats 8000000 in
theorem inexplain2_run (P Q : Nat → Prop) (ls hs : List Mem) (vl vh : Value) (s v a : Nat) (hsx : s < 2 ^ ls.length) (hvx : v < ls.length) (ha : OfIs s ls hs a) (hav : a.testBit v = false) (hin : ¬ InT (D3.delM s ls)) (w : World) (hl : ls.length ≤ 7) (h1 : MemsAt P 3 w vl ls) (h2 : MemsAt Q 3 w vh hs) (hp : PairM ls hs) :
    Calls Tryz.prog 39 #[.agg #[vl], .agg #[vh], .int .i64 (s : Int), .int .i64 (v : Int)] w fun e w' => Ex2 s ls e ∧ Below w.heap.size w w' := by
  have HS := Lib.hid hsx
  have HV := Lib.hid hvx
  have HA := Lib.hid ha
  clear hsx hvx ha
  have HAV := Lib.hid hav
  have HIN := Lib.hid hin
  clear hav hin
  obtain ⟨A, c, rfl⟩ := h1.slice
  obtain ⟨B, d, rfl⟩ := h2.slice
  have hlen := hp.len
  have hokl := hp.okl
  have hokh := hp.okh
  have hdec := hp.decl
  have HDL := Lib.hid (fun W (h : MemsAt P 3 W (.slice A ls.length c) ls) => declared_run P 3 ls _ W (by omega) h)
  have HDH := Lib.hid (fun W (h : MemsAt Q 3 W (.slice B hs.length d) hs) => declared_run Q 3 hs _ W (by omega) h)
  rw [hdec] at HDH
  rw [hlen] at h2 HDH hokh ⊢
  obtain ⟨n, hn⟩ : ∃ n, ls.length = n := ⟨_, rfl⟩
  have HN := Lib.hid hn
  have HNH := Lib.hid hlen
  rw [hn] at HNH
  have HD := Lib.hid (fun k (h : (declS ls ls.length).testBit k = true) => declS_bit h)
  have HDM := Lib.hid (fun k (h : (declS ls ls.length).testBit k = true) => declS_memD h)
  have hDl : declS ls ls.length < 1024 := declS_lt ls _ (by omega)
  generalize declS ls ls.length = D at HDL HDH hDl HD HDM
  rw [hn] at h1 h2 HDL HDH hokl hokh hl HD ⊢
  have HP := Lib.hid hp
  have HOL := Lib.hid hokl
  have HOH := Lib.hid hokh
  have hpn := PA.new h1 h2
  have hz2 : ((w.alloc (.cells #[.slice A n c] 27)).alloc (.cells #[.slice B n d] 27)).heap.size = w.heap.size + 2 := by rw [alloc_sz, alloc_sz]
  have HPA := Lib.hid (hpn.to (balloc (bref _) (.cells #[.int .i64 0, .int .i64 0, .int .i64 0, .int .i64 0, .slice none 0 0] 61)))
  have HRB := Lib.hid (show (((w.alloc (.cells #[.slice A n c] 27)).alloc (.cells #[.slice B n d] 27)).alloc (.cells #[.int .i64 0, .int .i64 0, .int .i64 0, .int .i64 0, .slice none 0 0] 61)).heap[w.heap.size + 2]? = some (.cells #[.int .i64 0, .int .i64 0, .int .i64 0, .int .i64 0, .slice none 0 0] 61) from alloc_at hz2)
  clear hpn
  clear h1 h2 hp hokl hokh hn hdec hlen
  go_enter Tryz.func39, Tryz.ntmps39
  go_upto_region 1 with fail
  generalize (((w.alloc (.cells #[.slice A n c] 27)).alloc (.cells #[.slice B n d] 27)).alloc (.cells #[.int .i64 0, .int .i64 0, .int .i64 0, .int .i64 0, .slice none 0 0] 61)) = W1 at *
  clear hz2
  generalize hg : w.heap.size = g at HPA HRB ⊢
  have HG := Lib.hid hg
  clear hg
  have l0 := HPA.out.cs.1
  have h0 := HPA.out.cs.2.1
  go_wp2_with fail
  refine (inof_run P Q ls hs _ _ s HS.out _ (by rw [HN.out]; exact hl) HPA.out.ml HPA.out.mh HP.out).mono ?_
  rintro e W1x ⟨⟨a', rfl, hof⟩, hbx⟩
  have HPA1 := Lib.hid (HPA.out.to hbx)
  obtain rfl := of_uniq HP.out (by rw [HN.out]; omega) HA.out hof
  clear hof
  have HBZ := Lib.hid hbx
  clear hbx l0 h0
  have l1 := HPA1.out.cs.1
  have h1 := HPA1.out.cs.2.1
  have HRB1 := Lib.hid ((HBZ.out.block _ (Array.getElem?_eq_some_iff.1 HRB.out).1).trans HRB.out)
  have hvn : (v : Int) < (n : Int) := by have := HV.out; rw [HN.out] at this; omega
  have hv0 : ¬ (v : Int) < 0 := by omega
  have hal := HA.out.lt
  have hN7 : 2 ^ ls.length ≤ 2 ^ 10 := Nat.pow_le_pow_right (by omega) (by rw [HN.out]; omega)
  have ha10 : a < 1024 := by omega
  have HHA := Lib.hid (show hasB (a : Int) (v : Int) = a.testBit v from hasB_bit ha10 (by have := HV.out; rw [HN.out] at this; omega))
  clear hal hN7
  go_wp2_with fail
  refine (has_run _ _ _).mono ?_
  rintro e W2x ⟨rfl, rfl⟩
  rw [HHA.out, HAV.out]
  have hs10 : s < 1024 := by have h := HS.out; have : 2 ^ ls.length ≤ 2 ^ 10 := Nat.pow_le_pow_right (by omega) (by rw [HN.out]; omega); omega
  go_wp2_with fail
  refine (inints_run P ls _ s _ (by rw [HN.out]; omega) HS.out HPA1.out.ml (by rw [HN.out]; exact HOL.out)).mono ?_
  rintro e W3x ⟨⟨y, rfl, hy⟩, hb3⟩
  obtain rfl : y = false := Bool.eq_false_iff.2 (fun h => HIN.out (hy.1 h))
  have HPA3 := Lib.hid (HPA1.out.to hb3)
  have HRB3 := Lib.hid ((hb3.block _ (Array.getElem?_eq_some_iff.1 HRB1.out).1).trans HRB1.out)
  clear hb3 hy l1 h1
  have l3 := HPA3.out.cs.1
  go_wp2_with fail
  refine (D3.pdelete_run P ls _ s _ (by rw [HN.out]; omega) hs10 HPA3.out.ml (by rw [HN.out]; exact HOL.out)).mono ?_
  rintro e Wd ⟨vd, rfl, hmd, hbd⟩
  have HMD := Lib.hid hmd
  have HBD := Lib.hid hbd
  clear hbd hmd l3
  go_wp2_with fail
  refine (D3.disjoint12_run _ (D3.delM s ls) _ _ (by rw [D3.delM_len, HN.out]; omega) HMD.out (D3.delM_ok (by rw [HN.out]; exact HOL.out))).mono ?_
  rintro e We ⟨hdj, hbe⟩
  have HBW := Lib.hid (HPA3.out.to (bstep HBD.out hbe)).bel
  have HRBZ := Lib.hid (((bstep HBD.out hbe).block _ (Array.getElem?_eq_some_iff.1 HRB3.out).1).trans HRB3.out)
  clear hbe
  rcases hdj with ⟨i, p, r, rfl, hi, hap, hgr, hb10, _⟩ | ⟨rfl, hno⟩
  · have HR := Lib.hid (show Ex2 s ls (.returned (.tuple #[.agg #[.int .i64 2, .int .i64 0, .int .i64 (p : Int), .int .i64 (r : Int), .slice none 0 0], .int .i64 0])) from by
      have hll : (D3.delM s ls).length ≤ 10 := by rw [D3.delM_len, HN.out]; omega
      refine ⟨p, r, Nat.lt_of_lt_of_le (sub_lt hap.1.2.1) (pow_1024 hll), hb10, hap.1, ⟨(apart_gr hb10 hgr).1 hap.2, fun k hk => ?_, hgr.closed⟩, ?_, rfl⟩
      · have := hgr.sub k hk
        rw [Nat.testBit_and, Bool.and_eq_true] at this; exact this.2
      · apply Nat.eq_of_testBit_eq
        intro k
        rw [Nat.testBit_and, Nat.zero_testBit]
        cases hbk : r.testBit k
        · rw [Bool.and_false]
        · have := hgr.sub k hbk
          rw [Nat.testBit_and, Bool.and_eq_true, outS_bit, Bool.and_eq_true, Bool.not_eq_true'] at this
          rw [this.1.2]; rfl)
    clear hap hgr hb10 hi
    have hrb := HRBZ.out
    have z0 : We.cell? ⟨g + 2, 0, none⟩ = some (.int .i64 0) := cell_of_row _ _ 0 _ _ (0, 0) hrb
    have zf0 : We.frozen? ⟨g + 2, 0, none⟩ = false := by simp [World.frozen?, hrb]
    have z1 : We.cell? ⟨g + 2, 1, none⟩ = some (.int .i64 0) := cell_of_row _ _ 1 _ _ (0, 0) hrb
    have zf1 : We.frozen? ⟨g + 2, 1, none⟩ = false := by simp [World.frozen?, hrb]
    have z2 : We.cell? ⟨g + 2, 2, none⟩ = some (.int .i64 0) := cell_of_row _ _ 2 _ _ (0, 0) hrb
    have zf2 : We.frozen? ⟨g + 2, 2, none⟩ = false := by simp [World.frozen?, hrb]
    have z3 : We.cell? ⟨g + 2, 3, none⟩ = some (.int .i64 0) := cell_of_row _ _ 3 _ _ (0, 0) hrb
    have zf3 : We.frozen? ⟨g + 2, 3, none⟩ = false := by simp [World.frozen?, hrb]
    have z4 : We.cell? ⟨g + 2, 4, none⟩ = some (.slice none 0 0) := cell_of_row _ _ 4 _ _ (0, 0) hrb
    have zf4 : We.frozen? ⟨g + 2, 4, none⟩ = false := by simp [World.frozen?, hrb]
    have hset := set5_row (.int .i64 2) (.int .i64 0) (.int .i64 (p : Int)) (.int .i64 (r : Int)) (.slice none 0 0) hrb
    have Q0 := Lib.hid (cell_of_row _ _ 0 _ _ (0, 0) hset : (((((We.setCell ⟨g + 2, 0, none⟩ (.int .i64 2)).setCell ⟨g + 2, 1, none⟩ (.int .i64 0)).setCell ⟨g + 2, 2, none⟩ (.int .i64 (p : Int))).setCell ⟨g + 2, 3, none⟩ (.int .i64 (r : Int))).setCell ⟨g + 2, 4, none⟩ (.slice none 0 0)).cell? ⟨g + 2, 0, none⟩ = some (.int .i64 2))
    have Q1 := Lib.hid (cell_of_row _ _ 1 _ _ (0, 0) hset : (((((We.setCell ⟨g + 2, 0, none⟩ (.int .i64 2)).setCell ⟨g + 2, 1, none⟩ (.int .i64 0)).setCell ⟨g + 2, 2, none⟩ (.int .i64 (p : Int))).setCell ⟨g + 2, 3, none⟩ (.int .i64 (r : Int))).setCell ⟨g + 2, 4, none⟩ (.slice none 0 0)).cell? ⟨g + 2, 1, none⟩ = some (.int .i64 0))
    have Q2 := Lib.hid (cell_of_row _ _ 2 _ _ (0, 0) hset : (((((We.setCell ⟨g + 2, 0, none⟩ (.int .i64 2)).setCell ⟨g + 2, 1, none⟩ (.int .i64 0)).setCell ⟨g + 2, 2, none⟩ (.int .i64 (p : Int))).setCell ⟨g + 2, 3, none⟩ (.int .i64 (r : Int))).setCell ⟨g + 2, 4, none⟩ (.slice none 0 0)).cell? ⟨g + 2, 2, none⟩ = some (.int .i64 (p : Int)))
    have Q3 := Lib.hid (cell_of_row _ _ 3 _ _ (0, 0) hset : (((((We.setCell ⟨g + 2, 0, none⟩ (.int .i64 2)).setCell ⟨g + 2, 1, none⟩ (.int .i64 0)).setCell ⟨g + 2, 2, none⟩ (.int .i64 (p : Int))).setCell ⟨g + 2, 3, none⟩ (.int .i64 (r : Int))).setCell ⟨g + 2, 4, none⟩ (.slice none 0 0)).cell? ⟨g + 2, 3, none⟩ = some (.int .i64 (r : Int)))
    have Q4 := Lib.hid (cell_of_row _ _ 4 _ _ (0, 0) hset : (((((We.setCell ⟨g + 2, 0, none⟩ (.int .i64 2)).setCell ⟨g + 2, 1, none⟩ (.int .i64 0)).setCell ⟨g + 2, 2, none⟩ (.int .i64 (p : Int))).setCell ⟨g + 2, 3, none⟩ (.int .i64 (r : Int))).setCell ⟨g + 2, 4, none⟩ (.slice none 0 0)).cell? ⟨g + 2, 4, none⟩ = some (.slice none 0 0))
    have HFB := Lib.hid (show Below w.heap.size w (((((We.setCell ⟨g + 2, 0, none⟩ (.int .i64 2)).setCell ⟨g + 2, 1, none⟩ (.int .i64 0)).setCell ⟨g + 2, 2, none⟩ (.int .i64 (p : Int))).setCell ⟨g + 2, 3, none⟩ (.int .i64 (r : Int))).setCell ⟨g + 2, 4, none⟩ (.slice none 0 0)) from by
      have hG := HG.out
      exact (bset (bset (bset (bset (bset HBW.out (p := ⟨g + 2, 0, none⟩) (by show w.heap.size ≤ g + 2; omega) _) (p := ⟨g + 2, 1, none⟩) (by show w.heap.size ≤ g + 2; omega) _) (p := ⟨g + 2, 2, none⟩) (by show w.heap.size ≤ g + 2; omega) _) (p := ⟨g + 2, 3, none⟩) (by show w.heap.size ≤ g + 2; omega) _) (p := ⟨g + 2, 4, none⟩) (by show w.heap.size ≤ g + 2; omega) _))
    clear hset hrb
    go_wp2_with fail
    have q0 := Q0.out
    have q1 := Q1.out
    have q2 := Q2.out
    have q3 := Q3.out
    have q4 := Q4.out
    refine bodyPost_ret (v := .tuple #[.agg #[.int .i64 2, .int .i64 0, .int .i64 (p : Int), .int .i64 (r : Int), .slice none 0 0], .int .i64 0]) ?_ rfl ⟨HR.out, HFB.out⟩
    simp [results, Tryz.results39, go_sem, q0, q1, q2, q3, q4]
  · exact absurd (fun t ht => hno t (apart_lt (by rw [D3.delM_len, HN.out]; omega) ht) ht) HIN.out
end Go.Proofs.YtacpfcckilnbfaaGreat
