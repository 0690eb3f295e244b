/- The contract of intact.Follows. -/
import Derived.Test.YtacpfcckilnbfaaGreatIntact
import Derived.Test.YtacpfcckilnbfaaGreatB6
namespace Go.Proofs.YtacpfcckilnbfaaGreat
set_option linter.unusedVariables false
set_option linter.unusedSimpArgs false
open Go.RowKit

/-- What Follows returns. -/
def FolIs (s x : Nat) (ls hs : List Mem) (e : Ending) : Prop := ∃ a, OfIs s ls hs a ∧
  ((∃ k : Nat, a.testBit k = true ∧ x.testBit k = false ∧ k < 10 ∧ blkM 3 ls (a &&& x) k = true ∧ e = .returned (.tuple #[.int .i64 (k : Int), .bool true, .int .i64 0])) ∨
   ((∀ k : Nat, a.testBit k = true → x.testBit k = false → blkM 3 ls (a &&& x) k = false) ∧ e = .returned (.tuple #[.int .i64 (-1), .bool false, .int .i64 0])))
theorem nodL_get {t j : Nat} (h : j < (nodL t 10).length) : ∃ k : Nat, (nodL t 10).getD j 0 = (k : Int) ∧ k < 10 ∧ t.testBit k = true :=
  (nodL_mem t 10 ((nodL t 10).getD j 0)).1 (by rw [List.getD_eq_getElem?_getD, List.getElem?_eq_getElem h]; exact List.getElem_mem _)
theorem nodL_pos {t k : Nat} (hk : k < 10) (h : t.testBit k = true) : ∃ j, j < (nodL t 10).length ∧ (nodL t 10).getD j 0 = (k : Int) := by
  obtain ⟨j, hj, e⟩ := List.getElem_of_mem ((nodL_mem t 10 (k : Int)).2 ⟨k, rfl, hk, h⟩)
  exact ⟨j, hj, by rw [List.getD_eq_getElem?_getD, List.getElem?_eq_getElem hj, ← e]; rfl⟩

set_option maxRecDepth 100000 in
set_option maxHeartbeats 4000000 in
theorem infol_run (P Q : Nat → Prop) (ls hs : List Mem) (vl vh : Value) (s x : Nat) (hsx : s < 2 ^ ls.length) (hxx : x < 2 ^ ls.length) (w : World) (hl : ls.length ≤ 7) (h1 : MemsAt P 3 w vl ls) (h2 : MemsAt Q 3 w vh hs) (hp : PairM ls hs) :
    Calls Tryz.prog 37 #[.agg #[vl], .agg #[vh], .int .i64 (s : Int), .int .i64 (x : Int)] w fun e w' => FolIs s x ls hs e ∧ Below w.heap.size w w' := by
  have HS := Lib.hid hsx
  have HXS := Lib.hid hxx
  clear hsx hxx
  obtain ⟨A, c, rfl⟩ := h1.slice
  obtain ⟨B, d, rfl⟩ := h2.slice
  have hlen := hp.len
  have hokl := hp.okl
  have hokh := hp.okh
  have hdec := hp.decl
  have HDL := Lib.hid (fun W (h : MemsAt P 3 W (.slice A ls.length c) ls) => declared_run P 3 ls _ W (by omega) h)
  have HDH := Lib.hid (fun W (h : MemsAt Q 3 W (.slice B hs.length d) hs) => declared_run Q 3 hs _ W (by omega) h)
  rw [hdec] at HDH
  rw [hlen] at h2 HDH hokh ⊢
  obtain ⟨n, hn⟩ : ∃ n, ls.length = n := ⟨_, rfl⟩
  have HN := Lib.hid hn
  have HNH := Lib.hid hlen
  rw [hn] at HNH
  have HD := Lib.hid (fun k (h : (declS ls ls.length).testBit k = true) => declS_bit h)
  have HDM := Lib.hid (fun k (h : (declS ls ls.length).testBit k = true) => declS_memD h)
  have hDl : declS ls ls.length < 1024 := declS_lt ls _ (by omega)
  generalize declS ls ls.length = D at HDL HDH hDl HD HDM
  rw [hn] at h1 h2 HDL HDH hokl hokh hl HD ⊢
  have HP := Lib.hid hp
  have HOL := Lib.hid hokl
  have HOH := Lib.hid hokh
  have HPA := Lib.hid (PA.new h1 h2)
  clear h1 h2 hp hokl hokh hn hdec hlen
  go_enter Tryz.func37, Tryz.ntmps37
  go_upto_region 1 with fail
  generalize ((w.alloc (.cells #[.slice A n c] 27)).alloc (.cells #[.slice B n d] 27)) = W1 at *
  generalize w.heap.size = g at HPA ⊢
  have l0 := HPA.out.cs.1
  have h0 := HPA.out.cs.2.1
  go_wp2_with fail
  refine (inof_run P Q ls hs _ _ s HS.out _ (by rw [HN.out]; exact hl) HPA.out.ml HPA.out.mh HP.out).mono ?_
  rintro e W1x ⟨⟨a, rfl, hof⟩, hbx⟩
  have HPA1 := Lib.hid (HPA.out.to hbx)
  clear hbx l0 h0
  have l1 := HPA1.out.cs.1
  have h1 := HPA1.out.cs.2.1
  have HOF := Lib.hid hof
  clear hof
  have hp10 : 2 ^ n ≤ 2 ^ 7 := Nat.pow_le_pow_right (by omega) (by omega)
  have hxl := HXS.out
  have hal := HOF.out.lt
  rw [HN.out] at hxl hal
  have hx10 : x < 1024 := by omega
  have ha10 : a < 1024 := by omega
  have hx0 : ¬ (x : Int) < 0 := by omega
  have han0 : bits .andNot .i64 (x : Int) ((2 ^ n - 1 : Nat) : Int) = 0 := by
    have h := andNot_nat x (2 ^ n - 1) hx10 (by omega)
    rw [h, show x ^^^ (x &&& (2 ^ n - 1)) = 0 from minS_zero hxl]; rfl
  have han : bits .andNot .i64 (a : Int) (x : Int) = ((minS a x : Nat) : Int) := andNot_nat a x ha10 hx10
  have hmn : minS a x < 1024 := minS_lt ha10
  have hand := i64_and_nat a x (by omega) (by omega)
  have hax : a &&& x < 1024 := and_ltL ha10
  have HRES := Lib.hid (show ∀ e, ((∃ k : Nat, (minS a x).testBit k = true ∧ k < 10 ∧ blkM 3 ls (a &&& x) k = true ∧ e = .returned (.tuple #[.int .i64 (k : Int), .bool true, .int .i64 0])) ∨
     ((∀ k : Nat, (minS a x).testBit k = true → blkM 3 ls (a &&& x) k = false) ∧ e = .returned (.tuple #[.int .i64 (-1), .bool false, .int .i64 0]))) → FolIs s x ls hs e from fun e h => ⟨a, HOF.out, by
      rcases h with ⟨k, h1, h2, h3, h4⟩ | ⟨h1, h2⟩
      · rw [minS_bit, Bool.and_eq_true, Bool.not_eq_true'] at h1
        exact .inl ⟨k, h1.1, h1.2, h2, h3, h4⟩
      · exact .inr ⟨fun k hk1 hk2 => h1 k (by rw [minS_bit, hk1, hk2]; rfl), h2⟩⟩)
  obtain ⟨M, hM⟩ : ∃ M, 2 ^ n - 1 = M := ⟨_, rfl⟩
  have HMM := Lib.hid hM
  rw [hM] at han0
  generalize minS a x = y at han hmn HRES
  generalize a &&& x = z at hand hax HRES
  clear hp10 hxl hal hM
  go_wp2_with fail
  refine (inmembers_run A n c (by omega) _).mono ?_
  rintro e W2x ⟨rfl, hb2⟩
  rw [HMM.out]
  have HPA2 := Lib.hid (HPA1.out.to hb2)
  clear hb2 l1 h1
  go_wp2_with fail
  refine (pnodes_run y _ hmn).mono ?_
  rintro e W3x ⟨vn, rfl, hnv, hb3⟩
  have HPA3 := Lib.hid (HPA2.out.to hb3)
  obtain ⟨Nn, cn, rfl⟩ := hnv.slice
  obtain ⟨m, hm⟩ : ∃ m, (nodL y 10).length = m := ⟨_, rfl⟩
  have hm10 := nodL_len y 10
  rw [hm] at hnv hm10 ⊢
  have HNV := Lib.hid hnv
  have HMm := Lib.hid hm
  clear hb3 hnv hm
  go_wp2_with fail
  go_loopw [39] (fun t W => ∃ j : Nat, j ≤ m ∧ t = .int .i64 (j : Int) ∧ Hid (∀ i, i < j → ∀ k : Nat, (nodL y 10).getD i 0 = (k : Int) → blkM 3 ls z k = false) ∧ Hid (Below W3x.heap.size W3x W)) (fun t _ => m - (intOf t).toNat)
  case atStart => exact ⟨0, Nat.zero_le _, rfl, Lib.hid (fun i hi => absurd hi (by omega)), Lib.hid (bref _)⟩
  case round =>
    obtain ⟨j, hj, rfl, hNo, hBe⟩ := hrel
    by_cases hlt : j < m
    · obtain ⟨An, cn', hAn, hcl⟩ := HNV.out.below hBe.out
      injection hAn with q1 q2 q3
      subst q1
      obtain ⟨bn, on, hbn, _, hcn⟩ := hcl j (by rw [HMm.out]; exact hlt)
      subst hbn
      obtain ⟨k, hkk, hk10, hkb⟩ := nodL_get (t := y) (by rw [HMm.out]; exact hlt)
      rw [hkk] at hcn
      have HKK := Lib.hid hkk
      have HKB := Lib.hid hkb
      have hpa := HPA3.out.to hBe.out
      have l0 := hpa.cs.1
      have HPAR := Lib.hid hpa
      clear hcl hkk hkb hpa q2 q3
      go_wp2_with fail
      clear hcn
      refine (blocks_run P 3 ls _ k z _ (by rw [HN.out]; omega) hax hk10 HPAR.out.ml).mono ?_
      rintro e W7 ⟨rfl, hb7⟩
      obtain ⟨bb, hbb⟩ : ∃ bb, blkM 3 ls z k = bb := ⟨_, rfl⟩
      have HBB := Lib.hid hbb
      rw [hbb]
      have HB7 := Lib.hid (bstep hBe.out hb7)
      have HBW := Lib.hid (HPAR.out.to hb7).bel
      clear hb7 hbb l0
      cases bb
      · have HN1 := Lib.hid (show ∀ i, i < j + 1 → ∀ k : Nat, (nodL y 10).getD i 0 = (k : Int) → blkM 3 ls z k = false from fun i hi k' hk' => by
          rcases Nat.lt_or_ge i j with h | h
          · exact hNo.out i h k' hk'
          · obtain rfl : i = j := by omega
            rw [HKK.out] at hk'
            obtain rfl := Int.ofNat.inj hk'
            exact HBB.out)
        go_wp2_with fail
        go_roundw
        case rel => exact ⟨j + 1, hlt, by go_num, HN1, HB7⟩
        case measure => simp [intOf]; omega
      · have HF := Lib.hid (HRES.out _ (.inl ⟨k, HKB.out, hk10, HBB.out, rfl⟩))
        go_wp2_with fail
        go_ret3
        exact ⟨HF.out, HBW.out⟩
    · obtain rfl : j = m := by omega
      have HBW := Lib.hid (HPA3.out.to hBe.out).bel
      have HNA := Lib.hid (show ∀ k : Nat, y.testBit k = true → blkM 3 ls z k = false from fun k hk => by
        by_cases hk10 : k < 10
        · obtain ⟨i, hi, e⟩ := nodL_pos hk10 hk
          exact hNo.out i (by rw [← HMm.out]; exact hi) k e
        · rw [Nat.testBit_lt_two_pow (Nat.lt_of_lt_of_le hmn (Nat.pow_le_pow_right (n := 2) (by decide) (show 10 ≤ k by omega)))] at hk
          cases hk)
      have HF := Lib.hid (HRES.out _ (.inr ⟨HNA.out, rfl⟩))
      go_wp2_with fail
      go_ret3
      exact ⟨HF.out, HBW.out⟩
end Go.Proofs.YtacpfcckilnbfaaGreat
