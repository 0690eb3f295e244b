/- What the laws of this seat share: part 5. -/
import Derived.Test.YtnfdacfhhkahhaaB4

namespace Go.Proofs.Ytnfdacfhhkahhaa
set_option linter.unusedVariables false
set_option linter.unusedSimpArgs false
open Go.RowKit

/-- What the reference's Of returns. -/
def ROfIs (s : Nat) (ls hs : List Mem) (a : Nat) : Prop := (¬ InT (D3.delM s ls) ∧ a = 0) ∨ (InT (D3.delM s ls) ∧ ∃ L, RAllIs s ls hs L ∧ a = outS ls.length (bfold ls.length L))
theorem ROfIs.lt {s : Nat} {ls hs : List Mem} {a : Nat} (h : ROfIs s ls hs a) : a < 2 ^ ls.length := by
  rcases h with ⟨_, rfl⟩ | ⟨_, L, _, rfl⟩
  · exact Nat.two_pow_pos _
  · exact outS_lt2 _ _
theorem rallL_of {ls hs : List Mem} {s : Nat} {L : List Nat} (hp : PairM ls hs) (hl : ls.length ≤ 10) (h : RAllIs s ls hs L) : AllL (fOf ls) (fOf hs) (declS ls ls.length) ls.length s L := fun t => by
  have p10 := pow_1024 hl
  rw [h.2 t]
  constructor
  · rintro ⟨h1, h2, h3⟩; exact ⟨h1, h2, (good_iff hp hl (by omega)).1 h3⟩
  · rintro ⟨h1, h2, h3⟩; exact ⟨h1, h2, (good_iff hp hl (by omega)).2 h3⟩
theorem rof_quorum {ls hs : List Mem} {s a : Nat} (hp : PairM ls hs) (hl : ls.length ≤ 10) (hs2 : s < 2 ^ ls.length) (h : ROfIs s ls hs a) (h0 : a ≠ 0) : QB (fOf hs) (declS ls ls.length) 0 a ∧ QB (fOf ls) (declS ls ls.length) 0 a := by
  have p10 := pow_1024 hl
  rcases h with ⟨_, h2⟩ | ⟨h1, L, h2, rfl⟩
  · exact absurd h2 h0
  · have h3 := int_quorum (pairF hp hl) hs2 ((inT_iff hl (by omega) hp.okl).1 h1) (rallL_of hp hl h2) h0
    exact ⟨h3, quorum_low (pairF hp hl) h3⟩
theorem rof_blocks {ls hs : List Mem} {s a k x : Nat} (hp : PairM ls hs) (hl : ls.length ≤ 10) (hs2 : s < 2 ^ ls.length) (h : ROfIs s ls hs a) (hk : a.testBit k = true) (hx : x < 1024) (hd : ∀ j, a.testBit j = true → x.testBit j = false) : blkM 3 ls x k = false ∧ blkM 3 hs x k = false := by
  have h0 : a ≠ 0 := by rintro rfl; simp at hk
  have h1 := rof_quorum hp hl hs2 h h0
  exact ⟨blk_no hl rfl h1.2 hk hx hd, blk_no (by rw [hp.len]; exact hl) hp.decl h1.1 hk hx hd⟩
set_option maxRecDepth 100000 in
set_option maxHeartbeats 400000 in
theorem rfmembers_run (A : Option Addr) (n c : Nat) (hn : n ≤ 10) (w : World) : Calls Try.prog 45 #[.agg #[.slice A n c]] w fun e w' => e = .returned (.int .i64 ((2 ^ n - 1 : Nat) : Int)) ∧ Below w.heap.size w w' := by
  have hp := pow11 n (by omega)
  have hp1 : 1 ≤ 2 ^ n := Nat.one_le_pow _ _ (by omega)
  have hp2 : 2 ^ n ≤ 2 ^ 10 := Nat.pow_le_pow_right (by omega) hn
  obtain ⟨N, hN⟩ : ∃ N, 2 ^ n = N := ⟨_, rfl⟩
  rw [hN] at hp hp1 hp2 ⊢
  clear hN
  have hw1 : wrap64 ((N : Int) - 1) = (N : Int) - 1 := by unfold wrap64; omega
  have hn64 : (n : Int) < 64 := by omega
  have HE := Lib.hid (show ((N - 1 : Nat) : Int) = (N : Int) - 1 by omega)
  go_enter Try.func45, Try.ntmps45
  go_wp2_with fail
  go_ret
  exact ⟨by rw [HE.out]; rfl, balloc (bref _) _⟩


set_option maxRecDepth 100000 in
set_option maxHeartbeats 4000000 in
theorem rfbegin_run (P Q : Nat → Prop) (ls hs : List Mem) (vl vh : Value) (s : Nat) (hsx : s < 2 ^ ls.length) (w : World) (hl : ls.length ≤ 7) (h1 : MemsAt P 3 w vl ls) (h2 : MemsAt Q 3 w vh hs) (hp : PairM ls hs) :
    Calls Try.prog 65 #[.agg #[vl], .agg #[vh], .int .i64 (s : Int)] w fun e w' => e = .returned (.int .i64 0) ∧ Below w.heap.size w w' := by
  have HS := Lib.hid hsx
  clear hsx
  obtain ⟨A, c, rfl⟩ := h1.slice
  obtain ⟨B, d, rfl⟩ := h2.slice
  have hlen := hp.len
  have hokl := hp.okl
  have hokh := hp.okh
  have hdec := hp.decl
  have HDL := Lib.hid (fun W (h : MemsAt P 3 W (.slice A ls.length c) ls) => declared_run P 3 ls _ W (by omega) h)
  have HDH := Lib.hid (fun W (h : MemsAt Q 3 W (.slice B hs.length d) hs) => declared_run Q 3 hs _ W (by omega) h)
  rw [hdec] at HDH
  rw [hlen] at h2 HDH hokh ⊢
  obtain ⟨n, hn⟩ : ∃ n, ls.length = n := ⟨_, rfl⟩
  have HN := Lib.hid hn
  have HNH := Lib.hid hlen
  rw [hn] at HNH
  have HD := Lib.hid (fun k (h : (declS ls ls.length).testBit k = true) => declS_bit h)
  have HDM := Lib.hid (fun k (h : (declS ls ls.length).testBit k = true) => declS_memD h)
  have hDl : declS ls ls.length < 1024 := declS_lt ls _ (by omega)
  generalize declS ls ls.length = D at HDL HDH hDl HD HDM
  rw [hn] at h1 h2 HDL HDH hokl hokh hl HD ⊢
  have HP := Lib.hid hp
  have HOL := Lib.hid hokl
  have HOH := Lib.hid hokh
  have HPA := Lib.hid (PA.new h1 h2)
  clear h1 h2 hp hokl hokh hn hdec hlen
  go_enter Try.func65, Try.ntmps65
  go_upto_region 1 with fail
  generalize ((w.alloc (.cells #[.slice A n c] 27)).alloc (.cells #[.slice B n d] 27)) = W1 at *
  generalize w.heap.size = g at HPA ⊢
  have l0 := HPA.out.cs.1
  have h0 := HPA.out.cs.2.1
  go_wp2_with fail
  refine (rdvalid_run P Q ls hs _ _ _ (by rw [HN.out]; exact hl) HPA.out.ml HPA.out.mh HP.out).mono ?_
  rintro e W1x ⟨rfl, hbx⟩
  have HPA1 := Lib.hid (HPA.out.to hbx)
  clear hbx l0 h0
  have l1 := HPA1.out.cs.1
  have h1 := HPA1.out.cs.2.1
  have hsM : ¬ (((2 ^ n - 1 : Nat) : Int) < (s : Int)) := by have h := HS.out; rw [HN.out] at h; omega
  have hs0 : ¬ (s : Int) < 0 := by omega
  have HMR := Lib.hid (fun W => rfmembers_run A n c (by omega) W)
  generalize 2 ^ n - 1 = M at hsM HMR
  go_wp2_with fail
  refine (HMR.out _).mono ?_
  rintro e W2x ⟨rfl, hb2⟩
  have HB2 := Lib.hid (HPA1.out.to hb2).bel
  clear hb2 l1 h1
  go_wp2_with fail
  go_ret
  exact ⟨rfl, HB2.out⟩
def BefIs (s : Nat) (ls hs : List Mem) (b : Nat) : Prop := (¬ InT (D3.delM s ls) ∧ b = 2 ^ ls.length - 1) ∨ (InT (D3.delM s ls) ∧ ∃ L, RAllIs s ls hs L ∧ b = bfold ls.length L)
theorem outS_num {n b : Nat} (hn : n ≤ 10) (hb : b ≤ 2 ^ n - 1) : 2 ^ n - 1 - b = outS n b := by
  have h := outS_sub n b hn hb
  have hp2 : 2 ^ n ≤ 2 ^ 10 := Nat.pow_le_pow_right (by omega) hn
  rw [IntKind.wrap_i64] at h
  omega
theorem BefIs.of {s : Nat} {ls hs : List Mem} {b : Nat} (hl : ls.length ≤ 10) (h : BefIs s ls hs b) : b < 2 ^ ls.length ∧ ROfIs s ls hs (2 ^ ls.length - 1 - b) := by
  have h1 : 1 ≤ 2 ^ ls.length := Nat.one_le_two_pow
  rcases h with ⟨h2, rfl⟩ | ⟨h2, L, h3, rfl⟩
  · exact ⟨by omega, .inl ⟨h2, by omega⟩⟩
  · have h4 := bf_lt ls.length L
    exact ⟨h4, .inr ⟨h2, L, h3, outS_num hl (by omega)⟩⟩

set_option maxRecDepth 100000 in
set_option maxHeartbeats 4000000 in
theorem rfbef_run (P Q : Nat → Prop) (ls hs : List Mem) (vl vh : Value) (s : Nat) (hsx : s < 2 ^ ls.length) (w : World) (hl : ls.length ≤ 7) (h1 : MemsAt P 3 w vl ls) (h2 : MemsAt Q 3 w vh hs) (hp : PairM ls hs) :
    Calls Try.prog 44 #[.agg #[vl], .agg #[vh], .int .i64 (s : Int)] w fun e w' => (∃ b : Nat, e = .returned (.tuple #[.int .i64 (b : Int), .int .i64 0]) ∧ BefIs s ls hs b) ∧ Below w.heap.size w w' := by
  have HS := Lib.hid hsx
  clear hsx
  obtain ⟨A, c, rfl⟩ := h1.slice
  obtain ⟨B, d, rfl⟩ := h2.slice
  have hlen := hp.len
  have hokl := hp.okl
  have hokh := hp.okh
  have hdec := hp.decl
  have HDL := Lib.hid (fun W (h : MemsAt P 3 W (.slice A ls.length c) ls) => declared_run P 3 ls _ W (by omega) h)
  have HDH := Lib.hid (fun W (h : MemsAt Q 3 W (.slice B hs.length d) hs) => declared_run Q 3 hs _ W (by omega) h)
  rw [hdec] at HDH
  rw [hlen] at h2 HDH hokh ⊢
  obtain ⟨n, hn⟩ : ∃ n, ls.length = n := ⟨_, rfl⟩
  have HN := Lib.hid hn
  have HNH := Lib.hid hlen
  rw [hn] at HNH
  have HD := Lib.hid (fun k (h : (declS ls ls.length).testBit k = true) => declS_bit h)
  have HDM := Lib.hid (fun k (h : (declS ls ls.length).testBit k = true) => declS_memD h)
  have hDl : declS ls ls.length < 1024 := declS_lt ls _ (by omega)
  generalize declS ls ls.length = D at HDL HDH hDl HD HDM
  rw [hn] at h1 h2 HDL HDH hokl hokh hl HD ⊢
  have HP := Lib.hid hp
  have HOL := Lib.hid hokl
  have HOH := Lib.hid hokh
  have HPA := Lib.hid (PA.new h1 h2)
  clear h1 h2 hp hokl hokh hn hdec hlen
  go_enter Try.func44, Try.ntmps44
  go_upto_region 1 with fail
  generalize ((w.alloc (.cells #[.slice A n c] 27)).alloc (.cells #[.slice B n d] 27)) = W1 at *
  generalize w.heap.size = g at HPA ⊢
  have l0 := HPA.out.cs.1
  have h0 := HPA.out.cs.2.1
  go_wp2_with fail
  refine (rfbegin_run P Q ls hs _ _ s HS.out _ (by rw [HN.out]; exact hl) HPA.out.ml HPA.out.mh HP.out).mono ?_
  rintro e W1x ⟨rfl, hbx⟩
  have HPA1 := Lib.hid (HPA.out.to hbx)
  clear hbx l0 h0
  have l1 := HPA1.out.cs.1
  have h1 := HPA1.out.cs.2.1
  go_wp2_with fail
  refine (rfmembers_run A n c (by omega) _).mono ?_
  rintro e Wm ⟨rfl, hbm⟩
  have HPA2 := Lib.hid (HPA1.out.to hbm)
  clear hbm l1 h1
  have l2 := HPA2.out.cs.1
  have h2 := HPA2.out.cs.2.1
  have HBF0 := Lib.hid (show bfold n (([] : List Nat)) = 2 ^ n - 1 from rfl)
  have HBL := Lib.hid (fun l => bf_lt n l)
  have hp10 : 2 ^ n ≤ 2 ^ 7 := Nat.pow_le_pow_right (by omega) (by omega)
  have HP10 := Lib.hid hp10
  obtain ⟨M, hM⟩ : ∃ M, 2 ^ n - 1 = M := ⟨_, rfl⟩
  have hM10 : M < 1024 := by omega
  have HMM := Lib.hid hM
  rw [hM] at HBF0 ⊢
  clear hM hp10
  go_wp2_with fail
  refine (rdints_run P ls _ s _ (by rw [HN.out]; omega) HS.out HPA2.out.ml (by rw [HN.out]; exact HOL.out)).mono ?_
  rintro e W2x ⟨⟨x, rfl, hx⟩, hb2⟩
  have HX := Lib.hid hx
  have HPA3 := Lib.hid (HPA2.out.to hb2)
  clear hb2 hx l2 h2
  have l3 := HPA3.out.cs.1
  have h3 := HPA3.out.cs.2.1
  cases x
  · have HF := Lib.hid (show BefIs s ls hs M from .inl ⟨fun h => (by have := HX.out.2 h; cases this), by rw [HN.out, HMM.out]⟩)
    go_wp2_with fail
    go_ret2
    exact ⟨⟨M, rfl, HF.out⟩, HPA3.out.bel⟩
  · have HIN := Lib.hid (HX.out.1 (by first | rfl | trivial))
    go_wp2_with fail
    refine (rdall_run P Q ls hs _ _ s HS.out _ (by rw [HN.out]; exact hl) HPA3.out.ml HPA3.out.mh HP.out).mono ?_
    rintro e W3x ⟨⟨va, L, rfl, hnv, hal⟩, hb3⟩
    have HAL := Lib.hid hal
    obtain ⟨An, cn, rfl⟩ := hnv.slice
    have hzl : (zs L).length = L.length := by unfold zs; simp
    have hnv2 := hnv.both (w' := W3x) (Q := fun _ => True) (fun _ _ _ => rfl) (fun _ _ _ => trivial)
    rw [hzl] at hnv2 ⊢
    obtain ⟨m, hm⟩ : ∃ m, L.length = m := ⟨_, rfl⟩
    have hm10 : m ≤ 20000 := by rw [← hm]; exact hal.1
    rw [hm] at hnv2 ⊢
    have HN3 := Lib.hid hnv2
    have HML := Lib.hid hm
    have HPA4 := Lib.hid (HPA3.out.to hb3)
    clear hnv hal hzl hnv2 hm hb3 l3 h3
    go_wp2_with fail
    go_loopw [9, 43] (fun u t W => ∃ k : Nat, k ≤ m ∧ u = .int .i64 ((bfold n (L.take k) : Nat) : Int) ∧ t = .int .i64 (k : Int) ∧ Hid (Below W3x.heap.size W3x W)) (fun _ t _ => m - (intOf t).toNat)
    case atStart => exact ⟨0, Nat.zero_le _, by rw [List.take_zero, HBF0.out], rfl, Lib.hid (bref _)⟩
    case round =>
      obtain ⟨k, hk, rfl, rfl, hBe⟩ := hrel
      have hbl := HBL.out (L.take k)
      have hbl2 := HP10.out
      by_cases hlt : k < m
      · obtain ⟨b, hb⟩ : ∃ b, L[k]? = some b := ⟨_, List.getElem?_eq_getElem (by rw [HML.out]; exact hlt)⟩
        obtain ⟨A', c', hA', hcl⟩ := (HN3.out.below hBe.out)
        injection hA' with q1 q2 q3
        subst q1
        obtain ⟨bn, on, hbn, _, hcn⟩ := hcl k (by unfold zs; rw [List.length_map, HML.out]; exact hlt)
        subst hbn
        rw [zs_getD hb] at hcn
        have hb1 := ((HAL.out.2 b).1 (List.mem_of_getElem? hb)).1
        rw [HN.out] at hb1
        have hand := i64_and_nat (bfold n (L.take k)) b (by omega) (by omega)
        rw [← bf_succ (n := n) hb] at hand
        generalize bfold n (L.take k) = acc at hand ⊢
        clear hcl hb q2 q3 hbl hbl2
        go_wp2_with fail
        go_roundw
        case rel => exact ⟨k + 1, hlt, rfl, by go_num, hBe⟩
        case measure => simp [intOf]; omega
      · obtain rfl : k = m := by omega
        have HPA5 := Lib.hid (HPA4.out.to hBe.out)
        have HTK := Lib.hid (show bfold n (L.take k) = bfold n L from by rw [← HML.out, List.take_length])
        rw [HTK.out] at hbl ⊢
        have HF := Lib.hid (show BefIs s ls hs (bfold n L) from .inr ⟨HIN.out, L, HAL.out, by rw [HN.out]⟩)
        generalize bfold n L = bf at HF hbl ⊢
        go_wp2_with fail
        go_ret2
        exact ⟨⟨bf, rfl, HF.out⟩, HPA5.out.bel⟩

set_option maxRecDepth 100000 in
set_option maxHeartbeats 4000000 in
theorem rfof_run (P Q : Nat → Prop) (ls hs : List Mem) (vl vh : Value) (s : Nat) (hsx : s < 2 ^ ls.length) (w : World) (hl : ls.length ≤ 7) (h1 : MemsAt P 3 w vl ls) (h2 : MemsAt Q 3 w vh hs) (hp : PairM ls hs) :
    Calls Try.prog 16 #[.agg #[vl], .agg #[vh], .int .i64 (s : Int)] w fun e w' => (∃ a : Nat, e = .returned (.tuple #[.int .i64 (a : Int), .int .i64 0]) ∧ ROfIs s ls hs a) ∧ Below w.heap.size w w' := by
  have HS := Lib.hid hsx
  clear hsx
  obtain ⟨A, c, rfl⟩ := h1.slice
  obtain ⟨B, d, rfl⟩ := h2.slice
  have hlen := hp.len
  have hokl := hp.okl
  have hokh := hp.okh
  have hdec := hp.decl
  have HDL := Lib.hid (fun W (h : MemsAt P 3 W (.slice A ls.length c) ls) => declared_run P 3 ls _ W (by omega) h)
  have HDH := Lib.hid (fun W (h : MemsAt Q 3 W (.slice B hs.length d) hs) => declared_run Q 3 hs _ W (by omega) h)
  rw [hdec] at HDH
  rw [hlen] at h2 HDH hokh ⊢
  obtain ⟨n, hn⟩ : ∃ n, ls.length = n := ⟨_, rfl⟩
  have HN := Lib.hid hn
  have HNH := Lib.hid hlen
  rw [hn] at HNH
  have HD := Lib.hid (fun k (h : (declS ls ls.length).testBit k = true) => declS_bit h)
  have HDM := Lib.hid (fun k (h : (declS ls ls.length).testBit k = true) => declS_memD h)
  have hDl : declS ls ls.length < 1024 := declS_lt ls _ (by omega)
  generalize declS ls ls.length = D at HDL HDH hDl HD HDM
  rw [hn] at h1 h2 HDL HDH hokl hokh hl HD ⊢
  have HP := Lib.hid hp
  have HOL := Lib.hid hokl
  have HOH := Lib.hid hokh
  have HPA := Lib.hid (PA.new h1 h2)
  clear h1 h2 hp hokl hokh hn hdec hlen
  go_enter Try.func16, Try.ntmps16
  go_upto_region 1 with fail
  generalize ((w.alloc (.cells #[.slice A n c] 27)).alloc (.cells #[.slice B n d] 27)) = W1 at *
  generalize w.heap.size = g at HPA ⊢
  have l0 := HPA.out.cs.1
  have h0 := HPA.out.cs.2.1
  go_wp2_with fail
  refine (rfbef_run P Q ls hs _ _ s HS.out _ (by rw [HN.out]; exact hl) HPA.out.ml HPA.out.mh HP.out).mono ?_
  rintro e W1x ⟨⟨b, rfl, hof⟩, hbx⟩
  have HPA1 := Lib.hid (HPA.out.to hbx)
  clear hbx l0 h0
  have l1 := HPA1.out.cs.1
  have h1 := HPA1.out.cs.2.1
  have HOF := Lib.hid (BefIs.of (by rw [HN.out]; omega) hof)
  clear hof
  go_wp2_with fail
  refine (rfmembers_run A n c (by omega) _).mono ?_
  rintro e W2x ⟨rfl, hb2⟩
  have HB2 := Lib.hid (HPA1.out.to hb2).bel
  clear hb2 l1 h1
  have hal := HOF.out.1
  rw [HN.out] at hal
  have hp10 : 2 ^ n ≤ 2 ^ 7 := Nat.pow_le_pow_right (by omega) (by omega)
  have HF := Lib.hid (show ROfIs s ls hs (2 ^ n - 1 - b) from by have h := HOF.out.2; rw [HN.out] at h; exact h)
  obtain ⟨M, hM⟩ : ∃ M, 2 ^ n - 1 = M := ⟨_, rfl⟩
  have hbM : b ≤ M := by omega
  have hM10 : M < 1024 := by omega
  rw [hM] at HF ⊢
  clear hM hp10 hal
  obtain ⟨r, hr⟩ : ∃ r, M - b = r := ⟨_, rfl⟩
  have HR := Lib.hid (show ROfIs s ls hs r from by rw [← hr]; exact HF.out)
  have hri : (M : Int) - (b : Int) = (r : Int) := by omega
  clear hr HF
  go_wp2_with fail
  go_ret2
  exact ⟨⟨r, by first | rfl | rw [hri], HR.out⟩, HB2.out⟩
end Go.Proofs.Ytnfdacfhhkahhaa

namespace Go.Proofs.Ytnfdacfhhkahhaa
set_option linter.unusedVariables false
set_option linter.unusedSimpArgs false
open Go.RowKit

/-- The world of Pair: two boxes for the results, one for the configuration; nothing but the tape changes of what lay before. -/
structure PairW (w : World) (sb g cb B0 : Nat) (v : Value) (ms : List Mem) (W : World) : Prop where
  r0 : W.heap[g]? = some (.cells #[.slice none 0 0] 27 (0, 0))
  r1 : W.heap[g + 1]? = some (.cells #[.slice none 0 0] 27 (0, 0))
  box : W.heap[cb]? = some (.cells #[v] 27 (0, 0))
  mems : MemsAt (fun b => g + 2 ≤ b ∧ b < B0) 2 W v ms
  tape : TapeOk W sb
  gr : w.grownBy W (some sb)

theorem PairW.grow {w W W' : World} {sb g cb B0 : Nat} {v : Value} {ms : List Mem} (h : PairW w sb g cb B0 v ms W) (hsg : sb < g) (hcb : sb < cb) (hs : TapeOk W' sb) (hr : W.grownBy W' (some sb)) : PairW w sb g cb B0 v ms W' :=
  ⟨(hr.block _ (Array.getElem?_eq_some_iff.1 h.r0).1 (by simp; omega)).trans h.r0, (hr.block _ (Array.getElem?_eq_some_iff.1 h.r1).1 (by simp; omega)).trans h.r1, (hr.block _ (Array.getElem?_eq_some_iff.1 h.box).1 (by simp; omega)).trans h.box,
    h.mems.both (fun q hq hP => hr.block q hq (by simp; omega)) (fun _ _ h => h), hs, grown_trans h.gr hr⟩

theorem PairW.far {w W W' : World} {sb g cb B0 : Nat} {v : Value} {ms : List Mem} (h : PairW w sb g cb B0 v ms W) (hk : ∀ q, q < B0 → W'.heap[q]? = W.heap[q]?) (h1 : g + 1 < B0) (h2 : cb < B0) (h3 : sb < g) (hg : w.grownBy W' (some sb)) : PairW w sb g cb B0 v ms W' :=
  ⟨(hk _ (by omega)).trans h.r0, (hk _ (by omega)).trans h.r1, (hk _ h2).trans h.box, h.mems.both (fun q _ hP => hk q hP.2) (fun _ _ h => h), h.tape.keepLow (fun k hk2 => hk k (by omega)), hg⟩

theorem cell_one_new (w : World) (a : Value) (t : TypeId) : ∀ j u, [a][j]? = some u → (w.alloc (.cells #[a] t)).cell? ((⟨w.heap.size, 0, none⟩ : Addr).add j) = some u :=
  fun j u hu => World.news_of_block (heap_alloc_new w _) j u (by simpa using hu)

theorem infoLists : (Try.prog.info? 30).map (fun i => (i.zero, i.size, i.bytes)) = some (some (.slice none 0 0), 1, 24) := by kernel_rfl

theorem PairW.below {w W W' : World} {sb g cb B0 : Nat} {v : Value} {ms : List Mem} (h : PairW w sb g cb B0 v ms W) (hsg : sb < g) (hcb : sb < cb) (hb : Below W.heap.size W W') : PairW w sb g cb B0 v ms W' := h.grow hsg hcb (h.tape.below hb) (grown_below hb)

set_option maxRecDepth 100000 in
set_option maxHeartbeats 16000000 in
theorem mkPair_run (sb n : Nat) (hn : 1 ≤ n) (hn1 : n ≤ 10) (w : World) (hs : TapeOk w sb) :
    Calls Try.prog 14 #[.pointer (some ⟨sb, 0, none⟩), .int .i64 n] w fun e w' => ∃ (vl vh : Value) (ls hs : List Mem), e = .returned (.tuple #[.agg #[vl], .agg #[vh]]) ∧ PairM ls hs ∧ ls.length ≤ n ∧ MemsAt (fun b => w.heap.size ≤ b) 3 w' vl ls ∧ MemsAt (fun b => w.heap.size ≤ b) 3 w' vh hs ∧ TapeOk w' sb ∧ w.grownBy w' (some sb) := by
  have hsl := hs.lt
  have hb2 : Below w.heap.size w ((w.alloc (.cells #[.slice none 0 0] 27)).alloc (.cells #[.slice none 0 0] 27)) := balloc (balloc (bref w) _) _
  have HS1 := Lib.hid (show TapeOk ((w.alloc (.cells #[.slice none 0 0] 27)).alloc (.cells #[.slice none 0 0] 27)) sb from (hs.alloc _).alloc _)
  have K0 := Lib.hid (show ((w.alloc (.cells #[.slice none 0 0] 27)).alloc (.cells #[.slice none 0 0] 27)).heap[w.heap.size]? = some (.cells #[.slice none 0 0] 27 (0, 0)) from alloc_on (alloc_at rfl))
  have K1 := Lib.hid (show ((w.alloc (.cells #[.slice none 0 0] 27)).alloc (.cells #[.slice none 0 0] 27)).heap[w.heap.size + 1]? = some (.cells #[.slice none 0 0] 27 (0, 0)) from alloc_at (alloc_sz _ _))
  have HGR := Lib.hid (show w.grownBy ((w.alloc (.cells #[.slice none 0 0] 27)).alloc (.cells #[.slice none 0 0] 27)) (some sb) from grown_below hb2)
  have hsz : ((w.alloc (.cells #[.slice none 0 0] 27)).alloc (.cells #[.slice none 0 0] 27)).heap.size = w.heap.size + 2 := by rw [alloc_sz, alloc_sz]
  clear hs hb2
  go_enter Try.func14, Try.ntmps14
  go_upto_region 1 with fail
  generalize ((w.alloc (.cells #[.slice none 0 0] 27)).alloc (.cells #[.slice none 0 0] 27)) = W1 at *
  generalize hg : w.heap.size = g at *
  have HG := Lib.hid hg
  clear hg
  go_wp2_with fail
  refine (config_run sb n hn hn1 _ HS1.out).mono ?_
  rintro e W2 ⟨v, ms, rfl, hm1, hmn, hma, hmo, hs2, hg2⟩
  obtain ⟨Av, cv, rfl⟩ := hma.slice
  obtain ⟨m, hm⟩ : ∃ m, ms.length = m := ⟨_, rfl⟩
  have HML := Lib.hid hm
  have hz2 : g + 2 ≤ W2.heap.size := by have := hg2.size; omega
  have HP := Lib.hid (show PairW w sb g W2.heap.size (W2.heap.size + 1) (.slice Av m cv) ms (W2.alloc (.cells #[.slice Av m cv] 27)) from
    ⟨alloc_on ((hg2.block g (by omega) (by simp; omega)).trans K0.out), alloc_on ((hg2.block (g + 1) (by omega) (by simp; omega)).trans K1.out), alloc_at rfl,
      by
        rw [← hm]
        exact (hma.both (w' := W2) (Q := fun b => g + 2 ≤ b ∧ b < W2.heap.size + 1) (fun _ _ _ => rfl) (fun k hk hk2 => ⟨by omega, by omega⟩)).below (balloc (bref W2) _), hs2.alloc _, grown_trans (grown_trans HGR.out hg2) (grown_below (balloc (bref W2) _))⟩)
  have HMO := Lib.hid hmo
  rw [hm] at hm1 hmn ⊢
  clear hm hma hmo hs2 hg2 HS1 K0 K1 HGR
  go_upto_region 2 with fail
  have hzz : (W2.alloc (.cells #[.slice Av m cv] 27)).heap.size = W2.heap.size + 1 := alloc_sz _ _
  generalize (W2.alloc (.cells #[.slice Av m cv] 27)) = W3 at *
  generalize W2.heap.size = cb at *
  go_wp2_with fail
  refine (TN_run _ sb _ (by omega) (by omega) HP.out.tape).mono ?_
  rintro e W4 ⟨r, hr0, hr1, rfl, hs4, hg4⟩
  have HP4 := Lib.hid (HP.out.grow (by omega) (by omega) hs4 hg4)
  have hz34 := hg4.size
  clear hs4 hg4 HP
  have c0 : W4.cell? ⟨cb, 0, none⟩ = some (.slice Av m cv) := cell_of_row _ _ 0 _ _ (0, 0) HP4.out.box
  have hr2 : r = 0 ∨ r = 1 := by omega
  rcases hr2 with rfl | rfl
  · have z0 : W4.cell? ⟨g, 0, none⟩ = some (.slice none 0 0) := cell_of_row _ _ 0 _ _ (0, 0) HP4.out.r0
    have z1 : W4.cell? ⟨g + 1, 0, none⟩ = some (.slice none 0 0) := cell_of_row _ _ 0 _ _ (0, 0) HP4.out.r1
    have zf0 : W4.frozen? ⟨g, 0, none⟩ = false := by simp [World.frozen?, HP4.out.r0]
    have zf1 : W4.frozen? ⟨g + 1, 0, none⟩ = false := by simp [World.frozen?, HP4.out.r1]
    have er0 := HP4.out.r0
    have er1 := HP4.out.r1
    go_wp2_with fail
    go_region
    have HG8 := Lib.hid (show w.grownBy (((W4.setCell ⟨g, 0, none⟩ (.slice Av m cv)).setCell ⟨g + 1, 0, none⟩ (.slice Av m cv)).drew) (some sb) from grown_trans (gset (gset (HP4.out.gr) (p := ⟨g, 0, none⟩) (by show w.heap.size ≤ g; rw [HG.out]; exact Nat.le_refl _) _) (p := ⟨g + 1, 0, none⟩) (by show w.heap.size ≤ g + 1; rw [HG.out]; omega) _) (grown_below (bdrew (bref _))))
    have HH8 := Lib.hid (show ∀ q, q ≠ g → q ≠ g + 1 → (((W4.setCell ⟨g, 0, none⟩ (.slice Av m cv)).setCell ⟨g + 1, 0, none⟩ (.slice Av m cv)).drew).heap[q]? = W4.heap[q]? from fun q h1 h2 => (Below.heap_setCell _ _ _ q h2).trans (Below.heap_setCell _ _ _ q h1))
    have hs0 : (((W4.setCell ⟨g, 0, none⟩ (.slice Av m cv)).setCell ⟨g + 1, 0, none⟩ (.slice Av m cv)).drew).heap[g]? = some (.cells #[(.slice Av m cv)] 27 (0, 0)) := by
      have e1 : (W4.setCell ⟨g, 0, none⟩ (.slice Av m cv)).heap[g]? = some (.cells #[(.slice Av m cv)] 27 (0, 0)) := by simp [World.setCell, Array.getElem?_modify, er0]
      exact (Below.heap_setCell _ _ _ g (by show g ≠ g + 1; omega)).trans e1
    have hs1 : (((W4.setCell ⟨g, 0, none⟩ (.slice Av m cv)).setCell ⟨g + 1, 0, none⟩ (.slice Av m cv)).drew).heap[g + 1]? = some (.cells #[(.slice Av m cv)] 27 (0, 0)) := by
      have e1 : (W4.setCell ⟨g, 0, none⟩ (.slice Av m cv)).heap[g + 1]? = some (.cells #[.slice none 0 0] 27 (0, 0)) := (Below.heap_setCell _ _ _ (g + 1) (by show g + 1 ≠ g; omega)).trans er1
      show ((W4.setCell ⟨g, 0, none⟩ (.slice Av m cv)).setCell ⟨g + 1, 0, none⟩ (.slice Av m cv)).heap[g + 1]? = _
      simp [World.setCell, Array.getElem?_modify, er0, er1]
    have HTP8 := Lib.hid (show TapeOk (((W4.setCell ⟨g, 0, none⟩ (.slice Av m cv)).setCell ⟨g + 1, 0, none⟩ (.slice Av m cv)).drew) sb from (TapeOk.setCell (TapeOk.setCell (HP4.out.tape) (p := ⟨g, 0, none⟩) (by show sb < g; omega) _) (p := ⟨g + 1, 0, none⟩) (by show sb < g + 1; omega) _).drew)
    generalize (((W4.setCell ⟨g, 0, none⟩ (.slice Av m cv)).setCell ⟨g + 1, 0, none⟩ (.slice Av m cv)).drew) = W8 at *
    have y0 : W8.cell? ⟨g, 0, none⟩ = some ((.slice Av m cv)) := cell_of_row _ _ 0 _ _ (0, 0) hs0
    have y1 : W8.cell? ⟨g + 1, 0, none⟩ = some ((.slice Av m cv)) := cell_of_row _ _ 0 _ _ (0, 0) hs1
    have HY0 := Lib.hid y0
    have HY1 := Lib.hid y1
    clear hs0 hs1 y0 y1
    go_wp2_with fail
    have y0 := HY0.out
    have y1 := HY1.out
    have hML := HML.out
    refine bodyPost_ret (v := .tuple #[.agg #[.slice Av m cv], .agg #[.slice Av m cv]]) ?_ rfl ⟨_, _, ms, ms, rfl, PairM.same (by omega) (D3.ok_up HMO.out), by omega, ?_, ?_, HTP8.out, HG8.out⟩
    · simp [results, Try.results14, go_sem, y0, y1]
    all_goals
      have hG := HG.out
      refine (HP4.out.mems.both (w' := W8) (fun q hq hP => HH8.out q ?_ ?_) (fun q _ hP => by show w.heap.size ≤ q; omega)).up
      · have := hP.1; omega
      · have := hP.1; omega
  · obtain ⟨i1, hi1, hq0, hq1, hq2⟩ := info_parts infoLists
    obtain ⟨i3, hi3, hy0, hy1, hy2⟩ := info_parts infoTrust
    have HGW3 := Lib.hid HP4.out.gr
    have HZ3 := Lib.hid (show cb + 1 ≤ W4.heap.size from Nat.le_trans (by omega) hz34)
    go_wp2_with fail
    go_loopw [7, 27] (fun u t W => ∃ (k : Nat) (lv : Value) (tss : List (List Tree)), k ≤ m ∧ u = lv ∧ t = .int .i64 (k : Int) ∧ Hid (PairW w sb g cb (cb + 1) (.slice Av m cv) ms W) ∧ Hid (LRow (fun b => g + 2 ≤ b) W4.heap.size W lv tss) ∧ Hid (tss.length = k ∧ (∀ u ∈ tss, u.length ≤ 3) ∧ (∀ u ∈ tss, ∀ T ∈ u, WF m 2 T)) ∧ Hid (W4.grownBy W (some sb))) (fun _ t _ => m - (intOf t).toNat)
    case atStart => exact ⟨0, _, [], by omega, rfl, rfl, HP4, Lib.hid (LRow.nil _ _ _), Lib.hid ⟨rfl, fun _ h => absurd h (by simp), fun _ h => absurd h (by simp)⟩, Lib.hid (World.grownBy.refl _ _)⟩
    case round =>
      obtain ⟨k, lv, tss, hk, rfl, rfl, hPW, hRow, hTs, hGr⟩ := hrel
      have hzr : cb + 1 ≤ wr.heap.size := by have := hGr.out.size; have := HZ3.out; omega
      obtain ⟨wo, rfl⟩ : ∃ wo : World, wo = wr := ⟨_, rfl⟩
      by_cases hlt : k < m
      · obtain ⟨⟨dc, T⟩, hx⟩ : ∃ x, ms[k]? = some x := ⟨_, List.getElem?_eq_getElem (by rw [HML.out]; exact hlt)⟩
        obtain ⟨A', c', hA', hL⟩ := hPW.out.mems
        injection hA' with q1 q2 q3
        subst q1
        obtain ⟨b, off, y0, y1, y2, rfl, hPb, e0, e1, e2, e3, hT⟩ := hL k _ hx
        obtain ⟨t', A1, n1, c1, A2, n2, c2, rfl, rfl, rfl⟩ := hT.form
        have HWT := Lib.hid (show dc = true → WF m 2 T from by
          have h := (HMO.out _ (List.mem_of_getElem? hx)).1
          rw [HML.out] at h
          exact h)
        have hba := balloc (bref wo) (.cells #[.bool dc, .int .i64 t', .slice A1 n1 c1, .slice A2 n2 c2] 34)
        have HBX := Lib.hid (show (wo.alloc (.cells #[.bool dc, .int .i64 t', .slice A1 n1 c1, .slice A2 n2 c2] 34)).heap[wo.heap.size]? = some (.cells #[.bool dc, .int .i64 t', .slice A1 n1 c1, .slice A2 n2 c2] 34 (0, 0)) from alloc_at rfl)
        have HZX := Lib.hid (alloc_sz wo (.cells #[.bool dc, .int .i64 t', .slice A1 n1 c1, .slice A2 n2 c2] 34))
        have HTX := Lib.hid (hT.below hba)
        have HPX := Lib.hid (hPW.out.below (by omega) (by omega) hba)
        have HRX := Lib.hid (hRow.out.keep (W' := wo.alloc (.cells #[.bool dc, .int .i64 t', .slice A1 n1 c1, .slice A2 n2 c2] 34)) (fun q _ hq => hba.block q hq))
        have HGX := Lib.hid (grown_trans hGr.out (grown_below hba))
        have HOX := Lib.hid (hRow.out.own)
        clear hL hT hx hba hPW hRow hGr q2 q3
        go_upto_region 9 with fail
        generalize (wo.alloc (.cells #[.bool dc, .int .i64 t', .slice A1 n1 c1, .slice A2 n2 c2] 34)) = WX at *
        generalize hX : wo.heap.size = X at *
        have HX := Lib.hid hX
        clear e0 e1 e2 e3 hX
        have b0 : WX.cell? ⟨X, 0, none⟩ = some (.bool dc) := cell_of_row _ _ 0 _ _ (0, 0) HBX.out
        cases dc
        · obtain ⟨W6, rfl⟩ : ∃ W6 : World, W6 = WX := ⟨_, rfl⟩
          have HP6 := HPX
          have HR6 := HRX
          have HG6 := HGX
          have HL6 := Lib.hid (show ListT (fun b => g + 2 ≤ b ∧ u7.ownBlock ≠ some b) 2 W6 (.slice none 0 0) [] from ⟨none, 0, rfl, fun k T h => by simp at h⟩)
          have HT3 := Lib.hid (show ([] : List Tree).length ≤ 3 ∧ ∀ T ∈ ([] : List Tree), WF m 2 T from ⟨by simp, fun T h => absurd h (by simp)⟩)
          obtain ⟨us, hus, hul⟩ := HR6.out
          have hcn : us.length = tss.length := by have := hus.1; omega
          have HCSA := Lib.hid (hus.alloc (.cells #[.slice none 0 0] 30))
          have HNEW := Lib.hid (cell_one_new W6 (.slice none 0 0) 30)
          have HBA := Lib.hid (balloc (bref W6) (.cells #[.slice none 0 0] 30))
          have HSZ := Lib.hid (alloc_sz W6 (.cells #[.slice none 0 0] 30))
          have HUL := Lib.hid hul
          have HTL := Lib.hid hTs.out.1
          have hsz6 : cb + 1 ≤ W6.heap.size := by have := HG6.out.size; have := HZ3.out; omega
          have hsz7 := HG6.out.size
          have hz3x := HZ3.out
          obtain ⟨nl, hnl⟩ : ∃ nl, tss.length = nl := ⟨_, rfl⟩
          rw [hnl] at HCSA hcn
          have HNL := Lib.hid hnl
          clear hus hul hnl
          go_wp2_with (at_builtin; refine wpList_append_lies _ rfl _ _ 70 rfl W4.heap.size 30 i1 (.slice none 0 0) 1 24 Try.underlying70 hi1 hq0 hq1 hq2 rfl (by decide) _ nl us rfl (by exact HCSA.out) ⟨_, 0, none⟩ 1 1 [.slice none 0 0] rfl rfl (by exact HNEW.out) (by intro u hu; simp at hu; subst hu; rfl) (by omega) (by have := HTL.out; have := HNL.out; unfold maxLen; omega) (by have := HTL.out; have := HNL.out; omega) (by have := HSZ.out; omega) _ rfl ?_; intro g4 cap4 W7 hown4 hgrow4 hat4 hlt4)
          have hgB : (W6.alloc (.cells #[.slice none 0 0] 30)).grownBy W7 u7.ownBlock := ⟨hgrow4.os, hgrow4.tape, hgrow4.output, hgrow4.size, hgrow4.block⟩
          have hLW := HNL.out
          subst hLW
          have hrow5 := LRow.append (Q := fun b => g + 2 ≤ b) (ts := []) (WA := W6.alloc (.cells #[.slice none 0 0] 30)) (fun k u S e1 e2 => (HUL.out k u S e1 e2).below HBA.out) hcn (HL6.out.below HBA.out) hown4 hgB hat4
          have HROW5 := Lib.hid hrow5
          have HG7 := Lib.hid (gown (grown_trans HG6.out (grown_below HBA.out)) hgB (fun q hq => by have := (HR6.out.own q hq).1; have := HZ3.out; omega))
          have HP7 := Lib.hid ((HP6.out.below (by omega) (by omega) HBA.out).far (W' := W7) (fun q hq => hgB.block q (by have := HSZ.out; omega) (fun e => by have := (HR6.out.own q e.symm).1; omega)) (by omega) (by omega) (by omega) (grown_trans HGW3.out HG7.out))
          have HTS7 := Lib.hid (show (tss ++ [[]]).length = k + 1 ∧ (∀ u ∈ tss ++ [[]], u.length ≤ 3) ∧ (∀ u ∈ tss ++ [[]], ∀ T ∈ u, WF m 2 T) from by
            refine ⟨by rw [List.length_append, hTs.out.1]; rfl, fun u hu => ?_, fun u hu => ?_⟩
            · rcases List.mem_append.1 hu with h | h
              · exact hTs.out.2.1 u h
              · rw [List.mem_singleton.1 h]; exact HT3.out.1
            · rcases List.mem_append.1 hu with h | h
              · exact hTs.out.2.2 u h
              · rw [List.mem_singleton.1 h]; exact HT3.out.2)
          clear hown4 hgrow4 hat4 hlt4 hgB hrow5
          go_roundw
          case rel => exact ⟨k + 1, _, _, by omega, rfl, by go_num, HP7, HROW5, HTS7, HG7⟩
          case measure => simp [intOf]; omega
        · have b1 : WX.cell? ⟨X, 1, none⟩ = some (.int .i64 t') := cell_of_row _ _ 1 _ _ (0, 0) HBX.out
          have b2 : WX.cell? ⟨X, 2, none⟩ = some (.slice A1 n1 c1) := cell_of_row _ _ 2 _ _ (0, 0) HBX.out
          have b3 : WX.cell? ⟨X, 3, none⟩ = some (.slice A2 n2 c2) := cell_of_row _ _ 3 _ _ (0, 0) HBX.out
          have HNEW0 := Lib.hid (cell_three_new WX (.int .i64 t') (.slice A1 n1 c1) (.slice A2 n2 c2) 32)
          have HBA0 := Lib.hid (balloc (bref WX) (.cells #[.int .i64 t', .slice A1 n1 c1, .slice A2 n2 c2] 32))
          have HSZ0 := Lib.hid (alloc_sz WX (.cells #[.int .i64 t', .slice A1 n1 c1, .slice A2 n2 c2] 32))
          have hzx := HZX.out
          go_upto_region 11 with (go_loud (at_builtin; refine wpList_append_lies _ rfl _ _ 30 rfl (X + 1) 32 i3 (.agg #[.int .i64 0, .slice none 0 0, .slice none 0 0]) 3 56 Try.underlying30 hi3 hy0 hy1 hy2 rfl (by decide) _ 0 [] rfl (World.ownsRow_nil _ _ _ _) ⟨_, 0, none⟩ 1 1 [.int .i64 t', .slice A1 n1 c1, .slice A2 n2 c2] rfl rfl (by have h := HNEW0.out; rw [HZX.out] at h; exact h) (by intro u hu; simp at hu; rcases hu with rfl | rfl | rfl <;> rfl) (by omega) (by unfold maxLen; omega) (by omega) (by have := HSZ0.out; omega) _ rfl ?_; intro g4 cap4 W5 hown4 hgrow4 hat4 hlt4))
          have hgB : (WX.alloc (.cells #[.int .i64 t', .slice A1 n1 c1, .slice A2 n2 c2] 32)).grownBy W5 (Value.slice none 0 0).ownBlock := ⟨hgrow4.os, hgrow4.tape, hgrow4.output, hgrow4.size, hgrow4.block⟩
          have HGT5 := Lib.hid (GT.append (Q := fun b => (g + 2 ≤ b ∧ b < cb + 1) ∨ X ≤ b) (B := X + 1) (d := 2) (ts := []) (T := T) (WA := WX.alloc (.cells #[.int .i64 t', .slice A1 n1 c1, .slice A2 n2 c2] 32)) (lv := .slice none 0 0) (cs := []) (fun k T h => by simp at h) rfl ((HTX.out.below HBA0.out).imp (fun q _ hq => ⟨.inl hq, by simp [Value.ownBlock]⟩)) hown4 hgB hat4)
          have HGX5 := Lib.hid (show WX.grownBy W5 (some sb) from gown (grown_below HBA0.out) hgB (fun q hq => by simp [Value.ownBlock] at hq))
          have HT5 := Lib.hid (show TapeOk W5 sb from HPX.out.tape.keepLow (fun q hq => (hgB.block q (by have := HSZ0.out; omega) (by simp [Value.ownBlock])).trans (HBA0.out.block q (by omega))))
          clear hown4 hgrow4 hat4 hlt4 hgB b0 b1 b2 b3 HNEW0 HSZ0 HBA0
          go_wp2_with fail
          refine (TN_run _ sb _ (by omega) (by omega) HT5.out).mono ?_
          rintro e W6 ⟨r, hr2, hr3, rfl, hs6, hg6⟩
          have HGX6 := Lib.hid (grown_trans HGX5.out hg6)
          have HT6 := Lib.hid hs6
          have HGT6 := Lib.hid (HGT5.out.keep (W' := W6) (fun q hq hl => hg6.block q hl (by simp only [ne_eq, Option.some.injEq]; rcases hq with (hq | hq) | hq <;> omega)))
          obtain ⟨i0, rfl⟩ : ∃ i0 : Nat, r = (i0 : Int) := ⟨r.toNat, by omega⟩
          have HWF0 := Lib.hid (show ∀ U ∈ ([] ++ [T] : List Tree), WF m 2 U from fun U hU => by rw [List.mem_singleton.1 hU]; first | exact HWT.out rfl | exact HWT.out trivial)
          clear hs6 hg6 HT5 HGX5 HGT5
          go_wp2_with fail
          go_loopw [10, 11] (fun u t W => ∃ (i : Nat) (xv : Value) (ts : List Tree), u = xv ∧ t = .int .i64 (i : Int) ∧ Hid (ts.length + i ≤ 3) ∧ Hid (GT (fun b => (g + 2 ≤ b ∧ b < cb + 1) ∨ X ≤ b) (X + 1) 2 W xv ts) ∧ Hid (∀ U ∈ ts, WF m 2 U) ∧ Hid (TapeOk W sb) ∧ Hid (WX.grownBy W (some sb))) (fun _ t _ => (intOf t).toNat)
          case atStart => exact ⟨i0, _, [] ++ [T], rfl, rfl, Lib.hid (by simp; omega), HGT6, HWF0, HT6, HGX6⟩
          case round =>
            obtain ⟨i, xv, ts, hxv, rfl, hcnt, hGT, hwf, hTp, hGx⟩ := hrel
            subst hxv
            have hzw : X + 1 ≤ wr.heap.size := by have := hGx.out.size; have := HZX.out; omega
            have hbx := (hGx.out.block X (by have := HZX.out; omega) (by simp; omega)).trans HBX.out
            have hpr := HPX.out.grow (by omega) (by omega) hTp.out hGx.out
            have c0 : wr.cell? ⟨cb, 0, none⟩ = some (.slice (some ⟨b, off, none⟩) m cv) := cell_of_row _ _ 0 _ _ (0, 0) hpr.box
            have HPR := Lib.hid hpr
            have HTR := Lib.hid (HTX.out.keep (w' := wr) (fun q hq hP => hGx.out.block q hq (by have := hP.1; simp; omega)))
            have HOW := Lib.hid (hGT.out.own)
            by_cases hi0 : 0 < i
            · have b1 : wr.cell? ⟨X, 1, none⟩ = some (.int .i64 t') := cell_of_row _ _ 1 _ _ (0, 0) hbx
              have b2 : wr.cell? ⟨X, 2, none⟩ = some (.slice A1 n1 c1) := cell_of_row _ _ 2 _ _ (0, 0) hbx
              have b3 : wr.cell? ⟨X, 3, none⟩ = some (.slice A2 n2 c2) := cell_of_row _ _ 3 _ _ (0, 0) hbx
              clear hbx hpr
              obtain ⟨wp, rfl⟩ : ∃ wp : World, wp = wr := ⟨_, rfl⟩
              go_wp2_with fail
              refine (near_run (fun q => g + 2 ≤ q ∧ q < cb + 1) sb m hm1 (by omega) T _ _ _ wp hTp.out (by rintro q ⟨h1, h2⟩; omega) HTR.out (by first | exact HWT.out rfl | exact HWT.out trivial)).mono ?_
              rintro e Wn ⟨z0, z1, z2, U, rfl, hU, hWU, hTn, hGn⟩
              obtain ⟨t2, B1, k1, d1, B2, k2, d2, rfl, rfl, rfl⟩ := hU.form
              have hzn := hGn.size
              have hGTn := hGT.out.keep (W' := Wn) (fun q hq hl => hGn.block q hl (by simp only [ne_eq, Option.some.injEq]; rcases hq with (hq | hq) | hq <;> omega))
              obtain ⟨cs, hcs, hcl⟩ := hGTn
              have hcn : cs.length = ts.length * 3 := by have := hcs.1; omega
              obtain ⟨nt, hnt⟩ : ∃ nt, ts.length = nt := ⟨_, rfl⟩
              have HCSA := Lib.hid (hcs.alloc (.cells #[.int .i64 t2, .slice B1 k1 d1, .slice B2 k2 d2] 32))
              rw [hnt] at HCSA
              have HNT := Lib.hid hnt
              have HNEW := Lib.hid (cell_three_new Wn (.int .i64 t2) (.slice B1 k1 d1) (.slice B2 k2 d2) 32)
              have HBA := Lib.hid (balloc (bref Wn) (.cells #[.int .i64 t2, .slice B1 k1 d1, .slice B2 k2 d2] 32))
              have HSZ := Lib.hid (alloc_sz Wn (.cells #[.int .i64 t2, .slice B1 k1 d1, .slice B2 k2 d2] 32))
              have HCL := Lib.hid hcl
              have HGN := Lib.hid (grown_trans hGx.out hGn)
              have HUU := Lib.hid (show TAt (fun q => ((g + 2 ≤ q ∧ q < cb + 1) ∨ X ≤ q) ∧ u10.ownBlock ≠ some q) 2 Wn (.int .i64 t2) (.slice B1 k1 d1) (.slice B2 k2 d2) U from
                hU.imp (fun q _ hq => by
                  rcases hq with hq | hq
                  · exact ⟨.inl hq, fun e => by have := (HOW.out q e).1; omega⟩
                  · exact ⟨.inr (by omega), fun e => by have := (HOW.out q e).2; omega⟩))
              have HWF1 := Lib.hid (show ∀ V ∈ ts ++ [U], WF m 2 V from fun V hV => by
                rcases List.mem_append.1 hV with h | h
                · exact hwf.out V h
                · rw [List.mem_singleton.1 h]; exact hWU)
              have HTN := Lib.hid hTn
              have hcx := hcnt.out
              rw [hnt] at hcx
              clear hcs hcl hU hTn hGn hnt b1 b2 b3 c0
              go_wp2_with (at_builtin; refine wpList_append_lies _ rfl _ _ 30 rfl (X + 1) 32 i3 (.agg #[.int .i64 0, .slice none 0 0, .slice none 0 0]) 3 56 Try.underlying30 hi3 hy0 hy1 hy2 rfl (by decide) _ nt cs rfl (by exact HCSA.out) ⟨_, 0, none⟩ 1 1 [.int .i64 t2, .slice B1 k1 d1, .slice B2 k2 d2] rfl rfl (by exact HNEW.out) (by intro u hu; simp at hu; rcases hu with rfl | rfl | rfl <;> rfl) (by omega) (by unfold maxLen; omega) (by omega) (by have := HSZ.out; omega) _ rfl ?_; intro g4 cap4 W5 hown4 hgrow4 hat4 hlt4)
              have hgB : (Wn.alloc (.cells #[.int .i64 t2, .slice B1 k1 d1, .slice B2 k2 d2] 32)).grownBy W5 u10.ownBlock := ⟨hgrow4.os, hgrow4.tape, hgrow4.output, hgrow4.size, hgrow4.block⟩
              have hNT := HNT.out
              subst hNT
              have HGT5 := Lib.hid (GT.append (Q := fun q => (g + 2 ≤ q ∧ q < cb + 1) ∨ X ≤ q) (B := X + 1) (d := 2) (ts := ts) (T := U) (WA := Wn.alloc (.cells #[.int .i64 t2, .slice B1 k1 d1, .slice B2 k2 d2] 32)) (fun k T h => by
                obtain ⟨x0, x1, x2, f0, f1, f2, f3⟩ := HCL.out k T h
                exact ⟨x0, x1, x2, f0, f1, f2, f3.below HBA.out⟩) hcn (HUU.out.below HBA.out) hown4 hgB hat4)
              have HGX5 := Lib.hid (show WX.grownBy W5 (some sb) from gown (grown_trans HGN.out (grown_below HBA.out)) hgB (fun q hq => by have := (HOW.out q hq).1; have := HZX.out; omega))
              have HT5 := Lib.hid (show TapeOk W5 sb from HTN.out.keepLow (fun q hq => (hgB.block q (by have := HSZ.out; omega) (fun e => by have := (HOW.out q e.symm).1; omega)).trans (HBA.out.block q (by omega))))
              have HC5 := Lib.hid (show (ts ++ [U]).length + (i - 1) ≤ 3 from by rw [List.length_append]; simp; omega)
              clear hown4 hgrow4 hat4 hlt4 hgB
              go_wp2_with fail
              go_roundw
              case rel => exact ⟨i - 1, _, ts ++ [U], rfl, by go_num, HC5, HGT5, HWF1, HT5, HGX5⟩
              case measure => simp [intOf]; omega
            · obtain rfl : i = 0 := by omega
              obtain ⟨W6, rfl⟩ : ∃ W6 : World, W6 = wr := ⟨_, rfl⟩
              have HP6 := HPR
              have HG6 := Lib.hid (grown_trans HGX.out hGx.out)
              have HR6 := Lib.hid (HRX.out.keep (W' := W6) (fun q hq hl => hGx.out.block q hl (by simp only [ne_eq, Option.some.injEq]; rcases hq with hq | hq <;> omega)))
              have HL6 := Lib.hid (show ListT (fun b => g + 2 ≤ b ∧ u7.ownBlock ≠ some b) 2 W6 u10 ts from hGT.out.list (fun q hq => by
                rcases hq with (hq | hq) | hq
                · exact ⟨by omega, fun e => by have := (HOX.out q e).1; have := HZ3.out; omega⟩
                · exact ⟨by omega, fun e => by have := (HOX.out q e).2; omega⟩
                · exact ⟨by omega, fun e => by have := (HOX.out q e).2; omega⟩))
              have HT3 := Lib.hid (show ts.length ≤ 3 ∧ ∀ T ∈ ts, WF m 2 T from ⟨by have := hcnt.out; omega, hwf.out⟩)
              clear hGT hbx hpr c0
              obtain ⟨us, hus, hul⟩ := HR6.out
              have hcn : us.length = tss.length := by have := hus.1; omega
              obtain ⟨Ax, cx, rfl⟩ := HL6.out.slice
              obtain ⟨nt, hnt⟩ : ∃ nt, ts.length = nt := ⟨_, rfl⟩
              rw [hnt] at HL6 ⊢
              have HNT := Lib.hid hnt
              clear hnt
              have HCSA := Lib.hid (hus.alloc (.cells #[.slice Ax nt cx] 30))
              have HNEW := Lib.hid (cell_one_new W6 (.slice Ax nt cx) 30)
              have HBA := Lib.hid (balloc (bref W6) (.cells #[.slice Ax nt cx] 30))
              have HSZ := Lib.hid (alloc_sz W6 (.cells #[.slice Ax nt cx] 30))
              have HUL := Lib.hid hul
              have HTL := Lib.hid hTs.out.1
              have hsz6 : cb + 1 ≤ W6.heap.size := by have := HG6.out.size; have := HZ3.out; omega
              have hsz7 := HG6.out.size
              have hz3x := HZ3.out
              obtain ⟨nl, hnl⟩ : ∃ nl, tss.length = nl := ⟨_, rfl⟩
              rw [hnl] at HCSA hcn
              have HNL := Lib.hid hnl
              clear hus hul hnl
              go_wp2_with (at_builtin; refine wpList_append_lies _ rfl _ _ 70 rfl W4.heap.size 30 i1 (.slice none 0 0) 1 24 Try.underlying70 hi1 hq0 hq1 hq2 rfl (by decide) _ nl us rfl (by exact HCSA.out) ⟨_, 0, none⟩ 1 1 [.slice Ax nt cx] rfl rfl (by exact HNEW.out) (by intro u hu; simp at hu; subst hu; rfl) (by omega) (by have := HTL.out; have := HNL.out; unfold maxLen; omega) (by have := HTL.out; have := HNL.out; omega) (by have := HSZ.out; omega) _ rfl ?_; intro g4 cap4 W7 hown4 hgrow4 hat4 hlt4)
              have hgB : (W6.alloc (.cells #[.slice Ax nt cx] 30)).grownBy W7 u7.ownBlock := ⟨hgrow4.os, hgrow4.tape, hgrow4.output, hgrow4.size, hgrow4.block⟩
              have hLW := HNL.out
              subst hLW
              have hNT := HNT.out
              subst hNT
              have hrow5 := LRow.append (Q := fun b => g + 2 ≤ b) (ts := ts) (WA := W6.alloc (.cells #[.slice Ax ts.length cx] 30)) (fun k u S e1 e2 => (HUL.out k u S e1 e2).below HBA.out) hcn (HL6.out.below HBA.out) hown4 hgB hat4
              have HROW5 := Lib.hid hrow5
              have HG7 := Lib.hid (gown (grown_trans HG6.out (grown_below HBA.out)) hgB (fun q hq => by have := (HR6.out.own q hq).1; have := HZ3.out; omega))
              have HP7 := Lib.hid ((HP6.out.below (by omega) (by omega) HBA.out).far (W' := W7) (fun q hq => hgB.block q (by have := HSZ.out; omega) (fun e => by have := (HR6.out.own q e.symm).1; omega)) (by omega) (by omega) (by omega) (grown_trans HGW3.out HG7.out))
              have HTS7 := Lib.hid (show (tss ++ [ts]).length = k + 1 ∧ (∀ u ∈ tss ++ [ts], u.length ≤ 3) ∧ (∀ u ∈ tss ++ [ts], ∀ T ∈ u, WF m 2 T) from by
                refine ⟨by rw [List.length_append, hTs.out.1]; rfl, fun u hu => ?_, fun u hu => ?_⟩
                · rcases List.mem_append.1 hu with h | h
                  · exact hTs.out.2.1 u h
                  · rw [List.mem_singleton.1 h]; exact HT3.out.1
                · rcases List.mem_append.1 hu with h | h
                  · exact hTs.out.2.2 u h
                  · rw [List.mem_singleton.1 h]; exact HT3.out.2)
              clear hown4 hgrow4 hat4 hlt4 hgB hrow5
              go_roundw
              case rel => exact ⟨k + 1, _, _, by omega, rfl, by go_num, HP7, HROW5, HTS7, HG7⟩
              case measure => simp [intOf]; omega
      · have hkm : m = k := by omega
        subst hkm
        have HLL := Lib.hid (hRow.out.list (P := fun b => g + 2 ≤ b) (fun b h => by
          rcases h with h | h
          · exact h
          · have := HZ3.out; show g + 2 ≤ b; omega))
        have HPW := hPW
        have HGR := hGr
        clear hPW hRow hGr c0
        have hg0 : g + 2 ≤ wo.heap.size := by omega
        go_wp2_with fail
        refine (low_run (fun b => g + 2 ≤ b) tss m _ wo hTs.out.1 (by omega) hTs.out.2.1 hTs.out.2.2 HLL.out).mono ?_
        rintro e Wl ⟨vl, ls, rfl, hml, hjl, hbl⟩
        obtain ⟨Al, cl, rfl⟩ := hml.slice
        rw [hjl.1]
        have hml2 := hml
        rw [hjl.1] at hml2
        have hzl := hbl.size
        have hba := balloc (bref Wl) (.cells #[.slice Al m cl] 27)
        have HJL := Lib.hid hjl
        have HBL := Lib.hid (bstep hbl hba)
        have HKL := Lib.hid (show (Wl.alloc (.cells #[.slice Al m cl] 27)).heap[Wl.heap.size]? = some (.cells #[.slice Al m cl] 27 (0, 0)) from alloc_at rfl)
        have HML2 := Lib.hid ((hml2.both (w' := Wl) (Q := fun b => g + 2 ≤ b) (fun _ _ _ => rfl) (fun q _ hq => by rcases hq with hq | hq <;> omega)).below hba)
        have HZL := Lib.hid (alloc_sz Wl (.cells #[.slice Al m cl] 27))
        clear hml hml2 hjl hbl hba
        go_upto_region 18 with fail
        generalize (Wl.alloc (.cells #[.slice Al m cl] 27)) = WL at *
        generalize Wl.heap.size = lb at *
        go_wp2_with fail
        refine (high_run (fun b => g + 2 ≤ b) tss m _ WL hTs.out.1 (by omega) hTs.out.2.1 hTs.out.2.2 (HLL.out.keep (fun q hq _ => HBL.out.block q hq))).mono ?_
        rintro e Wh ⟨vh, hs2, rfl, hmh, hjh, hbh⟩
        obtain ⟨Ah, ch, rfl⟩ := hmh.slice
        rw [hjh.1]
        have hmh2 := hmh
        rw [hjh.1] at hmh2
        have hzh := hbh.size
        have hba := balloc (bref Wh) (.cells #[.slice Ah m ch] 27)
        have HJH := Lib.hid hjh
        have HBH := Lib.hid (bstep hbh hba)
        have HKH := Lib.hid (show (Wh.alloc (.cells #[.slice Ah m ch] 27)).heap[Wh.heap.size]? = some (.cells #[.slice Ah m ch] 27 (0, 0)) from alloc_at rfl)
        have HMH2 := Lib.hid ((hmh2.both (w' := Wh) (Q := fun b => g + 2 ≤ b) (fun _ _ _ => rfl) (fun q _ hq => by have := HZL.out; rcases hq with hq | hq <;> omega)).below hba)
        clear hmh hmh2 hjh hbh hba
        go_upto_region 19 with fail
        generalize (Wh.alloc (.cells #[.slice Ah m ch] 27)) = WH at *
        have hp8 := HPW.out.grow (by omega) (by omega) (HPW.out.tape.below (bstep HBL.out HBH.out)) (grown_below (bstep HBL.out HBH.out))
        have er0 := hp8.r0
        have er1 := hp8.r1
        have d0 : WH.cell? ⟨lb, 0, none⟩ = some (.slice Al m cl) := cell_of_row _ _ 0 _ _ (0, 0) ((HBH.out.block lb (by have := HZL.out; omega)).trans HKL.out)
        have d1 : WH.cell? ⟨Wh.heap.size, 0, none⟩ = some (.slice Ah m ch) := cell_of_row _ _ 0 _ _ (0, 0) HKH.out
        have z0 : WH.cell? ⟨g, 0, none⟩ = some (.slice none 0 0) := cell_of_row _ _ 0 _ _ (0, 0) er0
        have z1 : WH.cell? ⟨g + 1, 0, none⟩ = some (.slice none 0 0) := cell_of_row _ _ 0 _ _ (0, 0) er1
        have zf0 : WH.frozen? ⟨g, 0, none⟩ = false := by simp [World.frozen?, er0]
        have zf1 : WH.frozen? ⟨g + 1, 0, none⟩ = false := by simp [World.frozen?, er1]
        have HP8 := Lib.hid hp8
        have hlg : g + 2 ≤ lb := by omega
        have hhg : g + 2 ≤ Wh.heap.size := by have := HZL.out; omega
        have HMLH := Lib.hid (HML2.out.below HBH.out)
        clear hp8
        go_wp2_with fail
        go_region
        have HG8 := Lib.hid (show w.grownBy (((WH.setCell ⟨g, 0, none⟩ (.slice Al m cl)).setCell ⟨g + 1, 0, none⟩ (.slice Ah m ch)).drew) (some sb) from grown_trans (gset (gset (HP8.out.gr) (p := ⟨g, 0, none⟩) (by show w.heap.size ≤ g; rw [HG.out]; exact Nat.le_refl _) _) (p := ⟨g + 1, 0, none⟩) (by show w.heap.size ≤ g + 1; rw [HG.out]; omega) _) (grown_below (bdrew (bref _))))
        have HH8 := Lib.hid (show ∀ q, q ≠ g → q ≠ g + 1 → (((WH.setCell ⟨g, 0, none⟩ (.slice Al m cl)).setCell ⟨g + 1, 0, none⟩ (.slice Ah m ch)).drew).heap[q]? = WH.heap[q]? from fun q h1 h2 => (Below.heap_setCell _ _ _ q h2).trans (Below.heap_setCell _ _ _ q h1))
        have hs0 : (((WH.setCell ⟨g, 0, none⟩ (.slice Al m cl)).setCell ⟨g + 1, 0, none⟩ (.slice Ah m ch)).drew).heap[g]? = some (.cells #[(.slice Al m cl)] 27 (0, 0)) := by
          have e1 : (WH.setCell ⟨g, 0, none⟩ (.slice Al m cl)).heap[g]? = some (.cells #[(.slice Al m cl)] 27 (0, 0)) := by simp [World.setCell, Array.getElem?_modify, er0]
          exact (Below.heap_setCell _ _ _ g (by show g ≠ g + 1; omega)).trans e1
        have hs1 : (((WH.setCell ⟨g, 0, none⟩ (.slice Al m cl)).setCell ⟨g + 1, 0, none⟩ (.slice Ah m ch)).drew).heap[g + 1]? = some (.cells #[(.slice Ah m ch)] 27 (0, 0)) := by
          have e1 : (WH.setCell ⟨g, 0, none⟩ (.slice Al m cl)).heap[g + 1]? = some (.cells #[.slice none 0 0] 27 (0, 0)) := (Below.heap_setCell _ _ _ (g + 1) (by show g + 1 ≠ g; omega)).trans er1
          show ((WH.setCell ⟨g, 0, none⟩ (.slice Al m cl)).setCell ⟨g + 1, 0, none⟩ (.slice Ah m ch)).heap[g + 1]? = _
          simp [World.setCell, Array.getElem?_modify, er0, er1]
        have HTP8 := Lib.hid (show TapeOk (((WH.setCell ⟨g, 0, none⟩ (.slice Al m cl)).setCell ⟨g + 1, 0, none⟩ (.slice Ah m ch)).drew) sb from (TapeOk.setCell (TapeOk.setCell (HP8.out.tape) (p := ⟨g, 0, none⟩) (by show sb < g; omega) _) (p := ⟨g + 1, 0, none⟩) (by show sb < g + 1; omega) _).drew)
        generalize (((WH.setCell ⟨g, 0, none⟩ (.slice Al m cl)).setCell ⟨g + 1, 0, none⟩ (.slice Ah m ch)).drew) = W8 at *
        have y0 : W8.cell? ⟨g, 0, none⟩ = some ((.slice Al m cl)) := cell_of_row _ _ 0 _ _ (0, 0) hs0
        have y1 : W8.cell? ⟨g + 1, 0, none⟩ = some ((.slice Ah m ch)) := cell_of_row _ _ 0 _ _ (0, 0) hs1
        have HY0 := Lib.hid y0
        have HY1 := Lib.hid y1
        clear hs0 hs1 y0 y1
        go_wp2_with fail
        have y0 := HY0.out
        have y1 := HY1.out
        refine bodyPost_ret (v := .tuple #[.agg #[.slice Al m cl], .agg #[.slice Ah m ch]]) ?_ rfl ⟨_, _, ls, hs2, rfl, PairM.joined (by omega) hTs.out.1 HJL.out HJH.out, by rw [HJL.out.1]; omega, ?_, ?_, HTP8.out, HG8.out⟩
        · simp [results, Try.results14, go_sem, y0, y1]
        · have hG := HG.out
          exact HMLH.out.both (w' := W8) (fun q hq hP => HH8.out q (by have := hP; omega) (by have := hP; omega)) (fun q _ hP => by show w.heap.size ≤ q; have := hP; omega)
        · have hG := HG.out
          exact HMH2.out.both (w' := W8) (fun q hq hP => HH8.out q (by have := hP; omega) (by have := hP; omega)) (fun q _ hP => by show w.heap.size ≤ q; have := hP; omega)

end Go.Proofs.Ytnfdacfhhkahhaa

namespace Go.Proofs.Ytnfdacfhhkahhaa
set_option linter.unusedVariables false
set_option linter.unusedSimpArgs false
open Go.RowKit

/-- A pair in two boxes, and the tape. -/
structure PMade (w : World) (g : Nat) (vl vh : Value) (ls hs : List Mem) (W : World) : Prop where
  tape : TapeOk W w.heap.size
  l : W.heap[g]? = some (.cells #[vl] 27 (0, 0))
  h : W.heap[g + 1]? = some (.cells #[vh] 27 (0, 0))
  ml : MemsAt (fun b => w.heap.size < b) 3 W vl ls
  mh : MemsAt (fun b => w.heap.size < b) 3 W vh hs
  low : w.heap.size < g
  below : Below w.heap.size w W

theorem PMade.lt {w W : World} {g : Nat} {vl vh : Value} {ls hs : List Mem} (h : PMade w g vl vh ls hs W) : g + 1 < W.heap.size := (Array.getElem?_eq_some_iff.1 h.h).1

theorem PMade.cl {w W : World} {g : Nat} {vl vh : Value} {ls hs : List Mem} (h : PMade w g vl vh ls hs W) : W.cell? ⟨g, 0, none⟩ = some vl := cell_of_row _ _ 0 _ _ (0, 0) h.l

theorem PMade.ch {w W : World} {g : Nat} {vl vh : Value} {ls hs : List Mem} (h : PMade w g vl vh ls hs W) : W.cell? ⟨g + 1, 0, none⟩ = some vh := cell_of_row _ _ 0 _ _ (0, 0) h.h

theorem PMade.bel {w W W' : World} {g : Nat} {vl vh : Value} {ls hs : List Mem} (h : PMade w g vl vh ls hs W) (hb : Below W.heap.size W W') : PMade w g vl vh ls hs W' :=
  ⟨h.tape.below hb, (hb.block _ (by have := h.lt; omega)).trans h.l, (hb.block _ h.lt).trans h.h, h.ml.below hb, h.mh.below hb, h.low, bstep h.below hb⟩

theorem PMade.grown {w W W' : World} {g : Nat} {vl vh : Value} {ls hs : List Mem} (h : PMade w g vl vh ls hs W) (hs2 : TapeOk W' w.heap.size) (hg : W.grownBy W' (some w.heap.size)) : PMade w g vl vh ls hs W' :=
  ⟨hs2, (hg.block _ (by have := h.lt; omega) (by have := h.low; simp; omega)).trans h.l, (hg.block _ h.lt (by have := h.low; simp; omega)).trans h.h,
    h.ml.both (fun q hq hP => hg.block q hq (by simp; omega)) (fun _ _ h => h), h.mh.both (fun q hq hP => hg.block q hq (by simp; omega)) (fun _ _ h => h), h.low, bgrownC h.below hg (Nat.le_refl _)⟩

end Go.Proofs.Ytnfdacfhhkahhaa

namespace Go.Proofs.Ytnfdacfhhkahhaa
open Go.RowKit

theorem pmK {w W W' : World} {g : Nat} {vl vh : Value} {ls hs : List Mem} (h : W.cell? ⟨g, 0, none⟩ = some vl ∧ W.cell? ⟨g + 1, 0, none⟩ = some vh ∧ PMade w g vl vh ls hs W) (hb : Below W.heap.size W W') : W'.cell? ⟨g, 0, none⟩ = some vl ∧ W'.cell? ⟨g + 1, 0, none⟩ = some vh ∧ PMade w g vl vh ls hs W' := ⟨(h.2.2.bel hb).cl, (h.2.2.bel hb).ch, h.2.2.bel hb⟩

theorem pmG {w W W' : World} {g : Nat} {vl vh : Value} {ls hs : List Mem} (h : W.cell? ⟨g, 0, none⟩ = some vl ∧ W.cell? ⟨g + 1, 0, none⟩ = some vh ∧ PMade w g vl vh ls hs W) (h2 : TapeOk W' w.heap.size) (h3 : W.grownBy W' (some w.heap.size)) : W'.cell? ⟨g, 0, none⟩ = some vl ∧ W'.cell? ⟨g + 1, 0, none⟩ = some vh ∧ PMade w g vl vh ls hs W' := ⟨(h.2.2.grown h2 h3).cl, (h.2.2.grown h2 h3).ch, h.2.2.grown h2 h3⟩

theorem pmS {w W : World} {g : Nat} {vl vh : Value} {ls hs : List Mem} (h : W.cell? ⟨g, 0, none⟩ = some vl ∧ W.cell? ⟨g + 1, 0, none⟩ = some vh ∧ PMade w g vl vh ls hs W) : PMade w g vl vh ls hs W := h.2.2

end Go.Proofs.Ytnfdacfhhkahhaa

namespace Go.Proofs.Ytnfdacfhhkahhaa.D3
set_option linter.unusedVariables false
set_option linter.unusedSimpArgs false
open Go.RowKit


structure SMade (w : World) (sb g : Nat) (v : Value) (ms : List Mem) (W : World) : Prop where
  tape : TapeOk W sb
  out : W.heap[g]? = some (.cells #[v] 27 (0, 0))
  mems : MemsAt (fun b => sb < b) 3 W v ms
  low : sb < g
  gr : w.grownBy W (some sb)

theorem SMade.lt {w W : World} {sb g : Nat} {v : Value} {ms : List Mem} (h : SMade w sb g v ms W) : g < W.heap.size := by
  rcases Nat.lt_or_ge g W.heap.size with h1 | h1
  · exact h1
  · have := h.out; rw [Array.getElem?_eq_none h1] at this; cases this

theorem SMade.cell {w W : World} {sb g : Nat} {v : Value} {ms : List Mem} (h : SMade w sb g v ms W) : W.cell? ⟨g, 0, none⟩ = some v := cell_of_row _ _ 0 _ _ (0, 0) h.out

theorem SMade.bel {w W W' : World} {sb g : Nat} {v : Value} {ms : List Mem} (h : SMade w sb g v ms W) (hb : Below W.heap.size W W') : SMade w sb g v ms W' :=
  ⟨h.tape.below hb, (hb.block _ h.lt).trans h.out, h.mems.below hb, h.low, grown_trans h.gr (grown_below hb)⟩

theorem SMade.grown {w W W' : World} {sb g : Nat} {v : Value} {ms : List Mem} (h : SMade w sb g v ms W) (hs : TapeOk W' sb) (hg : W.grownBy W' (some sb)) : SMade w sb g v ms W' :=
  ⟨hs, (hg.block _ h.lt (by have := h.low; simp; omega)).trans h.out, h.mems.both (fun q hq hP => hg.block q hq (by simp; omega)) (fun _ _ h => h), h.low, grown_trans h.gr hg⟩

theorem SMade.keeps {w W : World} {sb g : Nat} {v : Value} {ms : List Mem} (h : SMade w sb g v ms W) : W.cell? ⟨g, 0, none⟩ = some v ∧ SMade w sb g v ms W := ⟨h.cell, h⟩

theorem keepZ {w W W' : World} {sb g : Nat} {v : Value} {ms : List Mem} (h : W.cell? ⟨g, 0, none⟩ = some v ∧ SMade w sb g v ms W) (hb : Below W.heap.size W W') : W'.cell? ⟨g, 0, none⟩ = some v ∧ SMade w sb g v ms W' := (h.2.bel hb).keeps

theorem growZ {w W W' : World} {sb g : Nat} {v : Value} {ms : List Mem} (h : W.cell? ⟨g, 0, none⟩ = some v ∧ SMade w sb g v ms W) (hs : TapeOk W' sb) (hg : W.grownBy W' (some sb)) : W'.cell? ⟨g, 0, none⟩ = some v ∧ SMade w sb g v ms W' := (h.2.grown hs hg).keeps

theorem tapeZ {w W : World} {sb g : Nat} {v : Value} {ms : List Mem} (h : W.cell? ⟨g, 0, none⟩ = some v ∧ SMade w sb g v ms W) : TapeOk W sb := h.2.tape

theorem memsZ {w W : World} {sb g : Nat} {v : Value} {ms : List Mem} (h : W.cell? ⟨g, 0, none⟩ = some v ∧ SMade w sb g v ms W) : MemsAt (fun b => sb < b) 3 W v ms := h.2.mems


theorem or_mulN {L : Nat} (s q a : Nat) (hL : L ≤ 10) (hs : s < 2 ^ L) (hq : q < 2 ^ L) (ha : a < 2) : ∃ r : Nat, r < 2 ^ L ∧ bits .or .i64 (s : Int) (IntKind.i64.wrap ((q : Int) * (a : Int))) = (r : Int) := by
  have h10 : 2 ^ L ≤ 2 ^ 10 := Nat.pow_le_pow_right (by omega) hL
  rcases a with _ | a
  · refine ⟨s ||| 0, by simpa using hs, ?_⟩
    rw [show IntKind.i64.wrap ((q : Int) * ((0 : Nat) : Int)) = ((0 : Nat) : Int) by simp; rfl]
    exact i64_or_nat s 0 (by omega) (by omega)
  · obtain rfl : a = 0 := by omega
    refine ⟨s ||| q, Nat.or_lt_two_pow hs hq, ?_⟩
    rw [show IntKind.i64.wrap ((q : Int) * ((0 + 1 : Nat) : Int)) = ((q : Nat) : Int) by rw [IntWalk.i64_in _ (by push_cast; omega)]; push_cast; omega]
    exact i64_or_nat s q (by omega) (by omega)

set_option maxRecDepth 100000 in
set_option maxHeartbeats 4000000 in
theorem mkSetN_run (sb : Nat) (ms : List Mem) (v : Value) (w : World) (hl0 : 1 ≤ ms.length) (hl : ms.length ≤ 10) (hs : TapeOk w sb) (h : MemsAt (fun b => sb < b) 3 w v ms) :
    Calls Try.prog 15 #[.pointer (some ⟨sb, 0, none⟩), .agg #[v]] w fun e w' => ∃ r : Nat, e = .returned (.int .i64 (r : Int)) ∧ r < 2 ^ ms.length ∧ TapeOk w' sb ∧ w.grownBy w' (some sb) := by
  obtain ⟨A, c, rfl⟩ := h.slice
  obtain ⟨L, hL⟩ : ∃ L, ms.length = L := ⟨_, rfl⟩
  rw [hL] at h hl0 hl ⊢
  have hba := balloc (bref w) (.cells #[.slice A L c] 27)
  have HM := Lib.hid (show SMade w sb w.heap.size (.slice A L c) ms (w.alloc (.cells #[.slice A L c] 27)) from ⟨hs.alloc _, alloc_at rfl, h.below hba, hs.lt, grown_below hba⟩)
  have HL := Lib.hid hL
  have hpL : 2 ^ L ≤ 2 ^ 10 := Nat.pow_le_pow_right (by omega) hl
  have hpp : 1 ≤ 2 ^ L := Nat.one_le_pow _ _ (by omega)
  obtain ⟨N, hN⟩ : ∃ N, 2 ^ L = N := ⟨_, rfl⟩
  have HN := Lib.hid hN
  rw [hN] at hpL hpp ⊢
  clear hN
  clear h hs hba hL
  go_enter Try.func15, Try.ntmps15
  go_upto_region 1 with fail
  generalize w.alloc (.cells #[.slice A L c] 27) = W1 at *
  generalize w.heap.size = g at *
  have c0 := HM.out.cell
  go_upto_region 3 with fail
  have hp5 : ∀ j, j < 5 → (W1.alloc (.cells #[.int .i64 0, .int .i64 1, .int .i64 1, .int .i64 2, .int .i64 3] 3)).cell? ⟨W1.heap.size, j, none⟩ = some (.int .i64 (([0, 1, 1, 2, 3] : List Int).getD j 0)) := by
    intro j hj
    rw [cell_of_row _ _ j _ _ (0, 0) (heap_alloc_new _ _)]
    match j, hj with
    | 0, _ | 1, _ | 2, _ | 3, _ | 4, _ => rfl
  have HP5 := Lib.hid hp5
  have hsb : W1.heap.size ≠ sb := by have := HM.out.tape.lt; omega
  clear hp5 c0
  go_wp2_with fail
  refine (TPick_run _ sb W1.heap.size [0, 1, 1, 2, 3] 5 rfl (by omega) (by omega) HP5.out hsb (HM.out.tape.alloc _)).mono ?_
  rintro e W2 ⟨j, hj, rfl, hs1, hg1⟩
  obtain ⟨q, hq, hq3⟩ : ∃ q : Nat, ([0, 1, 1, 2, 3] : List Int).getD j 0 = (q : Int) ∧ q ≤ 3 := by
    match j, hj with
    | 0, _ => exact ⟨0, rfl, by omega⟩
    | 1, _ => exact ⟨1, rfl, by omega⟩
    | 2, _ => exact ⟨1, rfl, by omega⟩
    | 3, _ => exact ⟨2, rfl, by omega⟩
    | 4, _ => exact ⟨3, rfl, by omega⟩
  rw [hq]
  have H2 := Lib.hid ((HM.out.bel (balloc (bref W1) (.cells #[.int .i64 0, .int .i64 1, .int .i64 1, .int .i64 2, .int .i64 3] 3))).grown hs1 hg1)
  clear hq hj hs1 hg1 HP5 hsb
  go_wp2_with fail
  go_loopw [6, 7] (fun sv t W => ∃ (s q : Nat), sv = .int .i64 (s : Int) ∧ t = .int .i64 (q : Int) ∧ s < N ∧ q ≤ 3 ∧ Hid (SMade w sb g (.slice A L c) ms W)) (fun _ t _ => (intOf t).toNat)
  case atStart => exact ⟨0, q, rfl, rfl, by omega, hq3, H2⟩
  case round =>
    obtain ⟨s, q, rfl, rfl, hs, hq, hM⟩ := hrel
    by_cases hpos : 0 < q
    · have hqi : (0 : Int) < (q : Int) := by omega
      go_wp2_with fail
      refine (TN_run _ sb _ (by omega) (by omega) hM.out.tape).mono ?_
      rintro e W3 ⟨r, hr0, hr1, rfl, hs3, hg3⟩
      obtain ⟨K, rfl⟩ := Int.eq_ofNat_of_zero_le hr0
      have H3 := Lib.hid (hM.out.grown hs3 hg3)
      have HOR := Lib.hid (shl_or s K (by omega) (by omega))
      have hso : s ||| 2 ^ K < N := by rw [← HN.out]; exact Nat.or_lt_two_pow (by rw [HN.out]; exact hs) (Nat.pow_lt_pow_right (by omega) (by omega))
      have hk0 : (0 : Int) ≤ (K : Int) := by omega
      have hk64 : (K : Int) < 64 := by omega
      clear hs3 hg3 hM
      go_wp2_with fail
      rw [HOR.out]
      go_roundw
      case rel => exact ⟨s ||| 2 ^ K, q - 1, rfl, by go_num, hso, by omega, H3⟩
      case measure => simp [intOf]; omega
    · obtain rfl : q = 0 := by omega
      clear hpos
      go_upto_region 7 with fail
      have hp := pow11' L (by omega)
      rw [HN.out] at hp
      have hw1 : IntKind.i64.wrap ((N : Int) - 1) = ((N - 1 : Nat) : Int) := (IntWalk.i64_in _ (by omega)).trans (by omega)
      have hdl := declS_lt ms ms.length (by rw [HL.out]; exact hl)
      have hand := andNot_nat (N - 1) (declS ms ms.length) (by omega) hdl
      have HQL := Lib.hid (show (N - 1) ^^^ ((N - 1) &&& declS ms ms.length) < N by rw [← HN.out]; exact Nat.xor_lt_two_pow (by rw [HN.out]; omega) (Nat.lt_of_le_of_lt Nat.and_le_left (by rw [HN.out]; omega)))
      obtain ⟨D, hD⟩ : ∃ D, declS ms ms.length = D := ⟨_, rfl⟩
      have HD := Lib.hid hD
      rw [hD] at hand HQL
      generalize (N - 1) ^^^ ((N - 1) &&& D) = Q at *
      generalize N - 1 = n1 at *
      have HLL := Lib.hid (show ms.length ≤ 10 by rw [HL.out]; exact hl)
      clear hD hdl
      have hS := Lib.hid (hM.out.bel ⟨rfl, rfl, rfl, Nat.le_refl _, fun _ _ => rfl⟩ : SMade w sb g (.slice A L c) ms wr.drew).keeps
      go_region_held3 (fun W => W.cell? ⟨g, 0, none⟩ = some (.slice A L c) ∧ SMade w sb g (.slice A L c) ms W) (first | exact hS.out | exact hSK | exact keepZ (by assumption) hbK | go_keep)
        (first
          | (go_at_call 7; refine (TN_run _ _ _ (by omega) (by omega) (by exact tapeZ (by assumption))).mono ?_; rintro e WK ⟨r, hr0, hr1, rfl, hsK, hgK⟩; obtain ⟨a, rfl⟩ := Int.eq_ofNat_of_zero_le hr0; have hSK := growZ (by assumption) hsK hgK)
          | (go_at_call 43; refine (rdeclared_run _ 3 ms _ _ HLL.out (by exact memsZ (by assumption))).mono ?_; rintro e WK ⟨rfl, hbK⟩; rw [HD.out]; have hSK := keepZ (by assumption) hbK))
      all_goals
        obtain ⟨R, hR, hRe⟩ := or_mulN (L := L) s Q a hl (by rw [HN.out]; exact hs) (by rw [HN.out]; exact HQL.out) (by omega)
        rw [HN.out] at hR
        have HZ := Lib.hid (And.intro hR (And.intro hSK.2.tape hSK.2.gr))
        have HRE := Lib.hid hRe
        clear hRe hSK
        go_wp2_with fail
        go_ret
        exact ⟨R, by first | rfl | (rw [HRE.out]; rfl), HZ.out⟩

end Go.Proofs.Ytnfdacfhhkahhaa.D3
namespace Go.Proofs.Ytnfdacfhhkahhaa

end Go.Proofs.Ytnfdacfhhkahhaa

namespace Go.Proofs.Ytnfdacfhhkahhaa
set_option linter.unusedVariables false
set_option linter.unusedSimpArgs false
open Go.RowKit

/-- What Follows returns. -/
def FolIs (s x : Nat) (ls hs : List Mem) (e : Ending) : Prop := ∃ a, OfIs s ls hs a ∧
  ((∃ k : Nat, a.testBit k = true ∧ x.testBit k = false ∧ k < 10 ∧ blkM 3 ls (a &&& x) k = true ∧ e = .returned (.tuple #[.int .i64 (k : Int), .bool true, .int .i64 0])) ∨
   ((∀ k : Nat, a.testBit k = true → x.testBit k = false → blkM 3 ls (a &&& x) k = false) ∧ e = .returned (.tuple #[.int .i64 (-1), .bool false, .int .i64 0])))

theorem nodL_get {t j : Nat} (h : j < (nodL t 10).length) : ∃ k : Nat, (nodL t 10).getD j 0 = (k : Int) ∧ k < 10 ∧ t.testBit k = true :=
  (nodL_mem t 10 ((nodL t 10).getD j 0)).1 (by rw [List.getD_eq_getElem?_getD, List.getElem?_eq_getElem h]; exact List.getElem_mem _)

theorem nodL_pos {t k : Nat} (hk : k < 10) (h : t.testBit k = true) : ∃ j, j < (nodL t 10).length ∧ (nodL t 10).getD j 0 = (k : Int) := by
  obtain ⟨j, hj, e⟩ := List.getElem_of_mem ((nodL_mem t 10 (k : Int)).2 ⟨k, rfl, hk, h⟩)
  exact ⟨j, hj, by rw [List.getD_eq_getElem?_getD, List.getElem?_eq_getElem hj, ← e]; rfl⟩

end Go.Proofs.Ytnfdacfhhkahhaa

namespace Go.Proofs.Ytnfdacfhhkahhaa
set_option linter.unusedVariables false
set_option linter.unusedSimpArgs false
open Go.RowKit

theorem isq_zero {ms : List Mem} {q : Nat} (hl : ms.length ≤ 10) (hq : q < 1024) : IsQ 3 ms q ↔ QB (fOf ms) (declS ms ms.length) 0 q := by
  unfold IsQ QB Closed
  constructor
  · rintro ⟨h1, h2, h3⟩
    refine ⟨h1, hq, fun k hk => ⟨Nat.zero_testBit k, h2 k hk, ?_⟩⟩
    have hkl := declS_bit (h2 k hk)
    have h4 := h3 k hkl
    rw [uns_iff hq (by omega), hk, Bool.true_and, Bool.not_eq_false'] at h4
    rw [Nat.or_zero]; exact h4
  · rintro ⟨h1, _, h3⟩
    refine ⟨h1, fun k hk => (h3 k hk).2.1, fun k hk => ?_⟩
    rw [uns_iff hq (by omega)]
    cases hb : q.testBit k
    · rfl
    · have h4 := (h3 k hb).2.2
      rw [Nat.or_zero] at h4
      unfold fOf at h4
      rw [h4]; rfl

theorem holdsT_monoX {n : Int} {p q : Int → Bool} (h : ∀ x, 0 ≤ x → x < n → p x = true → q x = true) : ∀ (d : Nat) (T : Tree), WF n d T → holdsT d p T = true → holdsT d q T = true
  | 0, _, w, _ => w.elim
  | d + 1, .mk thr ns is, w, hh => by
    obtain ⟨_, _, _, _, hr, _, hi⟩ := w
    have h1 : cnt p ns ≤ cnt q ns := cnt_monoA ns (fun x hx => h x (hr x hx).1 (hr x hx).2)
    have h2 : cnt (holdsT d p) is ≤ cnt (holdsT d q) is := cnt_monoA is (fun T hT => holdsT_monoX h d T (hi T hT))
    have h3 : thr ≤ ((cnt p ns + cnt (holdsT d p) is : Nat) : Int) := of_decide_eq_true hh
    exact decide_eq_true (show thr ≤ ((cnt q ns + cnt (holdsT d q) is : Nat) : Int) by omega)

theorem holdsT_congrX {n : Int} {p q : Int → Bool} (h : ∀ x, 0 ≤ x → x < n → p x = q x) (d : Nat) (T : Tree) (w : WF n d T) : holdsT d p T = holdsT d q T := by
  rw [Bool.eq_iff_iff]
  exact ⟨holdsT_monoX (fun x h0 h1 hp => by rw [← h x h0 h1]; exact hp) d T w, holdsT_monoX (fun x h0 h1 hp => by rw [h x h0 h1]; exact hp) d T w⟩

theorem fOf_loc {ls : List Mem} (hl : ls.length ≤ 10) (hok : D3.MemsOk ls.length ls) (k s : Nat) (hk : (declS ls ls.length).testBit k = true) (hs : s < 1024) : fOf ls k s = fOf ls k (s &&& (2 ^ ls.length - 1)) := by
  obtain ⟨m, hm, hd⟩ := declS_memD hk
  have hw := (hok m (List.mem_of_getElem? hm)).1 hd
  have hs2 : s &&& (2 ^ ls.length - 1) < 1024 := and_ltL hs
  unfold fOf trOf
  rw [List.getD_eq_getElem?_getD, hm, sat_of hs, sat_of hs2]
  refine holdsT_congrX (n := (ls.length : Int)) (fun x h0 h1 => ?_) 3 _ hw
  obtain ⟨X, rfl⟩ := Int.eq_ofNat_of_zero_le h0
  have hX : X < ls.length := by omega
  rw [hasB_bit hs (by omega), hasB_bit hs2 (by omega), Nat.testBit_and, Nat.testBit_two_pow_sub_one, decide_eq_true hX, Bool.and_true]

theorem fol_step {ls hs : List Mem} {s a u x : Nat} (hp : PairM ls hs) (hl : ls.length ≤ 10) (hs2 : s < 2 ^ ls.length) (h : OfIs s ls hs a) (hu : QB (fOf ls) (declS ls ls.length) 0 u)
    (hua : ∃ k, u.testBit k = true ∧ a.testBit k = true) (hux : ∀ k, u.testBit k = true → a.testBit k = true → x.testBit k = true) (hx : x < 1024) (hne : ∃ k, a.testBit k = true ∧ x.testBit k = false) :
    ∃ k, a.testBit k = true ∧ x.testBit k = false ∧ blkM 3 ls (a &&& x) k = true := by
  rcases ofIs_iff hp hl hs2 h with ⟨_, h2⟩ | ⟨h1, L, h2, _, ha⟩
  · obtain ⟨k, _, hk⟩ := hua
    rw [h2] at hk; simp at hk
  · rw [ha] at hua hux hne
    obtain ⟨k, k1, k2, k3, k4⟩ := casc_step (pairF hp hl) hs2 h1 h2 (fun k s hk hs => fOf_loc hl hp.okl k s hk hs) hu hua hux hx hne
    rw [← ha] at k1 k4
    refine ⟨k, k1, k2, ?_⟩
    have hz : x &&& a < 1024 := and_ltL hx
    have ho : offS (a &&& x) k = x &&& a := by
      apply Nat.eq_of_testBit_eq
      intro j
      rw [offS_bit, Nat.testBit_and, Nat.testBit_and, Bool.and_comm (a.testBit j)]
      by_cases hj : j = k
      · rw [hj, k2]; simp
      · simp [hj]
    unfold blkM
    rw [k3, ho, Bool.true_and]
    unfold blkB
    rw [setB_iff.2 ⟨by omega, by omega⟩, Bool.true_and, Bool.not_eq_true']
    unfold fOf at k4
    rw [sat_of (by omega)] at k4
    rw [show (1023 - ((x &&& a : Nat) : Int)) = ((1023 - (x &&& a) : Nat) : Int) by omega]
    exact k4

def cnt6 (t : Nat) : Nat := (List.range 6).countP (fun k => t.testBit k)

theorem cnt6_le (t : Nat) : cnt6 t ≤ 6 := Nat.le_trans List.countP_le_length (by simp)

theorem cnt6_all : ∀ t : Fin 64, ∀ k : Fin 6, t.val.testBit k.val = true → cnt6 (minS t.val (2 ^ k.val)) + 1 = cnt6 t.val := by decide +kernel

theorem cnt6_step {a x k : Nat} (ha : a < 64) (hk : a.testBit k = true) (hx : x.testBit k = false) : cnt6 (minS a (x ||| 2 ^ k)) + 1 = cnt6 (minS a x) := by
  have h6 : k < 6 := lt_bit (n := 6) ha hk
  have hm : minS a x < 64 := by
    refine Nat.lt_pow_two_of_testBit (n := 6) _ (fun j hj => ?_)
    rw [minS_bit, Nat.testBit_lt_two_pow (Nat.lt_of_lt_of_le ha (Nat.pow_le_pow_right (n := 2) (by decide) hj))]; rfl
  have h1 := cnt6_all ⟨minS a x, hm⟩ ⟨k, h6⟩ (by show (minS a x).testBit k = true; rw [minS_bit, hk, hx]; rfl)
  have e : minS a (x ||| 2 ^ k) = minS (minS a x) (2 ^ k) := by
    apply Nat.eq_of_testBit_eq
    intro j
    rw [minS_bit, minS_bit, minS_bit, Nat.testBit_or]
    cases a.testBit j <;> cases x.testBit j <;> cases (2 ^ k).testBit j <;> rfl
  rw [e]; exact h1

end Go.Proofs.Ytnfdacfhhkahhaa

namespace Go.Proofs.Ytnfdacfhhkahhaa
set_option linter.unusedVariables false
set_option linter.unusedSimpArgs false
open Go.RowKit

def foT : Tree := .mk 3 [0, 1, 2, 3] []

def foM (k : Nat) : List Mem := List.replicate k (true, foT)

theorem foM_succ (k : Nat) : foM (k + 1) = foM k ++ [(true, foT)] := List.replicate_succ'

theorem foM_len (k : Nat) : (foM k).length = k := List.length_replicate

set_option maxRecDepth 100000 in
set_option maxHeartbeats 4000000 in
theorem four_run (w : World) : Calls Try.prog 49 #[] w fun e w' => ∃ v, e = .returned (.agg #[v]) ∧ MemsAt (fun _ => True) 1 w' v (foM 4) ∧ Below w.heap.size w w' := by
  obtain ⟨i4, hi4, hy0, hy1, hy2⟩ := info_parts infoMember
  have hb2 : Below w.heap.size w ((w.alloc (.cells #[.slice none 0 0] 27)).alloc (.cells #[.slice none 0 0] 27)) := balloc (balloc (bref w) _) _
  have k1 : ((w.alloc (.cells #[.slice none 0 0] 27)).alloc (.cells #[.slice none 0 0] 27)).heap[w.heap.size]? = some (.cells #[.slice none 0 0] 27 (0, 0)) := alloc_on (alloc_at rfl)
  have k2 : ((w.alloc (.cells #[.slice none 0 0] 27)).alloc (.cells #[.slice none 0 0] 27)).heap[w.heap.size + 1]? = some (.cells #[.slice none 0 0] 27 (0, 0)) := alloc_at (alloc_sz _ _)
  have hsz : ((w.alloc (.cells #[.slice none 0 0] 27)).alloc (.cells #[.slice none 0 0] 27)).heap.size = w.heap.size + 2 := by rw [alloc_sz, alloc_sz]
  have HB := Lib.hid hb2
  have K1 := Lib.hid k1
  have K2 := Lib.hid k2
  clear hb2 k1 k2
  go_enter Try.func49, Try.ntmps49
  go_upto_region 2 with fail
  generalize ((w.alloc (.cells #[.slice none 0 0] 27)).alloc (.cells #[.slice none 0 0] 27)) = W1 at *
  generalize hg : w.heap.size = g at *
  have HG := Lib.hid hg
  clear hg
  go_wp2_with fail
  go_loopw [2] (fun t W => ∃ (k : Nat) (v : Value), k ≤ 4 ∧ t = .int .i64 k ∧ Hid (MemRow (g + 2) 1 W v (foM k)) ∧ Hid (W.heap[g + 1]? = some (.cells #[v] 27 (0, 0))) ∧ Hid (W1.grownBy W (some (g + 1)))) (fun t _ => 4 - (intOf t).toNat)
  case atStart => exact ⟨0, .slice none 0 0, by omega, rfl, Lib.hid (MemRow.nil _ _ _), K2, Lib.hid (World.grownBy.refl _ _)⟩
  case round =>
    obtain ⟨k, v, hk, rfl, hRow, hOut, hGr⟩ := hrel
    have hwr := hGr.out.size
    by_cases hlt : k < 4
    · have HRS := Lib.hid (foM_succ k)
      have HRL := Lib.hid (foM_len k)
      obtain ⟨cs, hcs, hcl⟩ := hRow.out
      have hcn := hcs.1
      have HCL := Lib.hid hcl
      have HCS := Lib.hid hcs
      have HRO := Lib.hid hcs.lt
      have hk4 : (k : Int) < 4 := by omega
      obtain ⟨wo, hwo⟩ : ∃ x, x = wr := ⟨_, rfl⟩
      subst hwo
      have hnew := cell_four_new (wo.alloc (.cells #[.int .i64 0, .int .i64 1, .int .i64 2, .int .i64 3] 3)) (.bool true) (.int .i64 3) (.slice (some ⟨wo.heap.size, 0, none⟩) 4 4) (.slice none 0 0) 34
      rw [alloc_sz] at hnew
      have HNEW := Lib.hid hnew
      have HCSA := Lib.hid ((HCS.out.alloc (.cells #[.int .i64 0, .int .i64 1, .int .i64 2, .int .i64 3] 3)).alloc (.cells #[.bool true, .int .i64 3, .slice (some ⟨wo.heap.size, 0, none⟩) 4 4, .slice none 0 0] 34))
      have hba2 := balloc (balloc (bref wo) (.cells #[.int .i64 0, .int .i64 1, .int .i64 2, .int .i64 3] 3)) (.cells #[.bool true, .int .i64 3, .slice (some ⟨wo.heap.size, 0, none⟩) 4 4, .slice none 0 0] 34)
      have hints : ((wo.alloc (.cells #[.int .i64 0, .int .i64 1, .int .i64 2, .int .i64 3] 3)).alloc (.cells #[.bool true, .int .i64 3, .slice (some ⟨wo.heap.size, 0, none⟩) 4 4, .slice none 0 0] 34)).heap[wo.heap.size]? = some (.cells #[.int .i64 0, .int .i64 1, .int .i64 2, .int .i64 3] 3 (0, 0)) := alloc_on (alloc_at rfl)
      have hTT : TAt (fun b => wo.heap.size ≤ b) 1 ((wo.alloc (.cells #[.int .i64 0, .int .i64 1, .int .i64 2, .int .i64 3] 3)).alloc (.cells #[.bool true, .int .i64 3, .slice (some ⟨wo.heap.size, 0, none⟩) 4 4, .slice none 0 0] 34)) (.int .i64 3) (.slice (some ⟨wo.heap.size, 0, none⟩) 4 4) (.slice none 0 0) foT := by
        refine ⟨rfl, by decide, by decide, ⟨some ⟨wo.heap.size, 0, none⟩, 4, rfl, fun k hk => ⟨wo.heap.size, 0, rfl, Nat.le_refl _, ?_⟩⟩, ⟨none, 0, rfl, fun k T hT => by simp at hT⟩⟩
        have hk3 : k < 4 := hk
        rw [Nat.zero_add]
        refine (cell_of_row _ _ k _ _ (0, 0) hints).trans ?_
        match k, hk3 with
        | 0, _ | 1, _ | 2, _ | 3, _ => rfl
      have HBA2 := Lib.hid hba2
      have HTT := Lib.hid hTT
      have hszA : ((wo.alloc (.cells #[.int .i64 0, .int .i64 1, .int .i64 2, .int .i64 3] 3)).alloc (.cells #[.bool true, .int .i64 3, .slice (some ⟨wo.heap.size, 0, none⟩) 4 4, .slice none 0 0] 34)).heap.size = wo.heap.size + 1 + 1 := by rw [alloc_sz, alloc_sz]
      have HSZA := Lib.hid hszA
      have hcl3 : g + 1 < wo.heap.size := by omega
      have q2 : wo.cell? ⟨g + 1, 0, none⟩ = some v := cell_of_row _ _ 0 _ _ (0, 0) hOut.out
      clear hnew hba2 hszA hints hTT hcl hcs
      go_wp2_with (at_builtin; refine wpList_append_lies _ rfl _ _ 25 rfl (g + 2) 34 i4 (.agg #[.bool false, .int .i64 0, .slice none 0 0, .slice none 0 0]) 4 64 Try.underlying25 hi4 hy0 hy1 hy2 rfl (by decide) _ (foM k).length cs rfl (by exact HCSA.out) ⟨_, 0, none⟩ 1 1 [.bool true, .int .i64 3, .slice (some ⟨wo.heap.size, 0, none⟩) 4 4, .slice none 0 0] rfl rfl (by exact HNEW.out) (by intro u hu; simp at hu; rcases hu with rfl | rfl | rfl | rfl <;> rfl) (by omega) (by have := HRL.out; unfold maxLen; omega) (by have := HRL.out; omega) (by have := HSZA.out; omega) _ rfl ?_; intro g4 cap4 W5 hown4 hgrow4 hat4 hlt4; have hcb5 : W5.heap[g + 1]? = some (.cells #[v] 27 (0, 0)) := (hgrow4.block (g + 1) (by have := HSZA.out; omega) (fun e => by have := (HRO.out _ e.symm).1; omega)).trans ((HBA2.out.block (g + 1) hcl3).trans hOut.out); have s0 : W5.cell? ⟨g + 1, 0, none⟩ = some v := cell_of_row _ _ 0 _ _ (0, 0) hcb5; have sf : W5.frozen? ⟨g + 1, 0, none⟩ = false := by simp [World.frozen?, hcb5])
      have hgw : ((wo.alloc (.cells #[.int .i64 0, .int .i64 1, .int .i64 2, .int .i64 3] 3)).alloc (.cells #[.bool true, .int .i64 3, .slice (some ⟨wo.heap.size, 0, none⟩) 4 4, .slice none 0 0] 34)).grownBy W5 v.ownBlock := ⟨hgrow4.os, hgrow4.tape, hgrow4.output, hgrow4.size, hgrow4.block⟩
      have hrow5 := MemRow.append (m := (true, foT)) hRow.out (fun q _ hq => HBA2.out.block q hq) (by have := HSZA.out; omega) (by omega) HCL.out hcn HTT.out hown4 hgw hat4
      have hrow6 := hrow5.keep (W' := W5.setCell ⟨g + 1, 0, none⟩ (.slice (some ⟨g4, 0, none⟩) ((foM k).length + 1) cap4)) (fun q hq _ => Below.heap_setCell _ _ _ _ (by simp; omega))
      have hset5 : (W5.setCell ⟨g + 1, 0, none⟩ (.slice (some ⟨g4, 0, none⟩) ((foM k).length + 1) cap4)).heap[g + 1]? = some (.cells #[.slice (some ⟨g4, 0, none⟩) ((foM k).length + 1) cap4] 27 (0, 0)) := by
        simp [World.setCell, Array.getElem?_modify, hcb5]
      have hgr5 : W1.grownBy (W5.setCell ⟨g + 1, 0, none⟩ (.slice (some ⟨g4, 0, none⟩) ((foM k).length + 1) cap4)) (some (g + 1)) :=
        grown_at (gown (grown_trans hGr.out (grown_below HBA2.out)) hgw (fun q hq => by have := (HRO.out q hq).1; omega)) 0 _
      rw [← HRS.out] at hrow6
      have HROW := Lib.hid hrow6
      have HSET := Lib.hid hset5
      have HGR := Lib.hid hgr5
      clear hrow5 hrow6 hset5 hgr5 hown4 hgrow4 hat4 hlt4 hcb5 s0 sf hgw
      go_roundw
      case rel => exact ⟨k + 1, _, by omega, by go_num, HROW, HSET, HGR⟩
      case measure => simp [intOf]; omega
    · obtain rfl : k = 4 := by omega
      obtain ⟨Av, cv, hv⟩ : ∃ A c, v = .slice A (foM 4).length c := by
        obtain ⟨A, c, h1⟩ := (hRow.out.mems (P := fun _ => True) (fun _ _ => trivial)).slice
        exact ⟨A, c, h1⟩
      rw [foM_len] at hv
      subst hv
      have c2 : wr.cell? ⟨g + 1, 0, none⟩ = some (.slice Av 4 cv) := cell_of_row _ _ 0 _ _ (0, 0) hOut.out
      have hres : wr.heap[g]? = some (.cells #[.slice none 0 0] 27 (0, 0)) := (hGr.out.block g (by omega) (by simp)).trans K1.out
      have z0 : wr.cell? ⟨g, 0, none⟩ = some (.slice none 0 0) := cell_of_row _ _ 0 _ _ (0, 0) hres
      have zf : wr.frozen? ⟨g, 0, none⟩ = false := by simp [World.frozen?, hres]
      have hset : (wr.setCell ⟨g, 0, none⟩ (.slice Av 4 cv)).heap[g]? = some (.cells #[.slice Av 4 cv] 27 (0, 0)) := by
        simp [World.setCell, Array.getElem?_modify, hres]
      have q0 : (wr.setCell ⟨g, 0, none⟩ (.slice Av 4 cv)).cell? ⟨g, 0, none⟩ = some (.slice Av 4 cv) := cell_of_row _ _ 0 _ _ (0, 0) hset
      have hms : MemsAt (fun _ => True) 1 (wr.setCell ⟨g, 0, none⟩ (.slice Av 4 cv)) (.slice Av 4 cv) (foM 4) := (hRow.out.keep (fun q hq _ => Below.heap_setCell _ _ _ _ (by simp; omega))).mems (fun _ _ => trivial)
      have hbW : Below w.heap.size w (wr.setCell ⟨g, 0, none⟩ (.slice Av 4 cv)) := by
        have h1 := HB.out
        rw [← HG.out] at h1
        exact bset (h1.grown hGr.out h1.size (fun q hq => by obtain rfl := Option.some.inj hq; have := HG.out; omega)) (p := ⟨g, 0, none⟩) (by have := HG.out; show w.heap.size ≤ g; omega) _
      have HF := Lib.hid (And.intro hms hbW)
      have Q0 := Lib.hid q0
      clear hset q0 hms hbW hres
      go_wp2_with fail
      have q0 := Q0.out
      refine bodyPost_ret (v := .agg #[.slice Av 4 cv]) ?_ rfl ⟨_, rfl, HF.out⟩
      simp [results, Try.results49, go_sem, q0]

theorem foM_decl : declS (foM 4) 4 = 15 := by decide

theorem foM_7 : ∀ k, k < 4 → uns 1 (foM 4) 7 k = false := by decide +kernel

theorem foM_14 : uns 1 (foM 4) 14 0 = false := by decide +kernel

theorem foM_3 : ∀ q : Fin 4, q.val.testBit 0 = true → uns 1 (foM 4) q.val 0 = true := by decide +kernel

theorem foM_b6 : blkM 1 (foM 4) 6 0 = true := by decide +kernel

theorem foM_b0 : blkM 1 (foM 4) 0 0 = false := by decide +kernel

theorem fo1 : accB 1 (foM 4) 0 7 0 = true := by
  unfold accB
  rw [Bool.or_eq_true]
  exact .inr (rdyB_iff.2 ⟨7, by omega, sub_iff.1 (by decide), fun k hk => foM_7 k (by rw [foM_len] at hk; exact hk), by decide⟩)

theorem fo2 : accB 1 (foM 4) 0 0 6 = true := by unfold accB; rw [foM_b6]; rfl

theorem fo3 : accB 1 (foM 4) 0 3 0 = false := by
  unfold accB
  rw [foM_b0, Bool.false_or]
  cases h : rdyB 1 (foM 4) ((3 ||| 0) &&& declS (foM 4) (foM 4).length) 0
  · rfl
  · obtain ⟨Q, h1, h2, h3, h4⟩ := rdyB_iff.1 h
    have hQ : Q < 4 := lt_of_bits (b := 3) (fun k hk => (sub_and.1 h2).1 k hk) (by omega)
    have h5 := h3 0 (by rw [foM_len]; omega)
    rw [foM_3 ⟨Q, hQ⟩ h4] at h5
    cases h5

theorem fo4 : cnfB 1 (foM 4) 0 7 = true := rdyB_iff.2 ⟨7, by omega, sub_iff.1 (by decide), fun k hk => foM_7 k (by rw [foM_len] at hk; exact hk), by decide⟩

theorem fo5 : cnfB 1 (foM 4) 0 14 = false := by
  cases h : cnfB 1 (foM 4) 0 14
  · rfl
  · obtain ⟨Q, h1, h2, h3, h4⟩ := rdyB_iff.1 h
    have := (sub_and.1 h2).1 0 h4
    simp at this

set_option maxRecDepth 100000 in
set_option maxHeartbeats 4000000 in
theorem awake18 (w : World) : Calls Try.prog 20 #[] w fun e w' => e = .returned (.bool true) ∧ Below w.heap.size w w' := by
  have hl : (foM 4).length ≤ 10 := by decide
  have F1 := Lib.hid fo1
  have F2 := Lib.hid fo2
  have F3 := Lib.hid fo3
  have F4 := Lib.hid fo4
  have F5 := Lib.hid fo5
  go_enter Try.func20, Try.ntmps20
  go_wp2_with fail
  refine (four_run _).mono ?_
  rintro e w1 ⟨v1, rfl, hm1, hb1⟩
  go_wp2_with fail
  refine (accepts_run _ 1 _ _ 0 7 0 _ hl (by omega) (by omega) (by omega) hm1).mono ?_
  rintro e w2 ⟨rfl, hb2⟩
  rw [F1.out]
  have HB2 := Lib.hid (bstep hb1 hb2)
  clear hm1 hb1 hb2
  go_wp2_with fail
  refine (four_run _).mono ?_
  rintro e w3 ⟨v3, rfl, hm3, hb3⟩
  go_wp2_with fail
  refine (accepts_run _ 1 _ _ 0 0 6 _ hl (by omega) (by omega) (by omega) hm3).mono ?_
  rintro e w4 ⟨rfl, hb4⟩
  rw [F2.out]
  have HB4 := Lib.hid (bstep (bstep HB2.out hb3) hb4)
  clear hm3 hb3 hb4
  go_wp2_with fail
  refine (four_run _).mono ?_
  rintro e w5 ⟨v5, rfl, hm5, hb5⟩
  go_wp2_with fail
  refine (accepts_run _ 1 _ _ 0 3 0 _ hl (by omega) (by omega) (by omega) hm5).mono ?_
  rintro e w6 ⟨rfl, hb6⟩
  rw [F3.out]
  have HB6 := Lib.hid (bstep (bstep HB4.out hb5) hb6)
  clear hm5 hb5 hb6
  go_wp2_with fail
  refine (four_run _).mono ?_
  rintro e w7 ⟨v7, rfl, hm7, hb7⟩
  go_wp2_with fail
  refine (confirms_run _ 1 _ _ 0 7 _ hl (by omega) (by omega) hm7).mono ?_
  rintro e w8 ⟨rfl, hb8⟩
  rw [F4.out]
  have HB8 := Lib.hid (bstep (bstep HB6.out hb7) hb8)
  clear hm7 hb7 hb8
  go_wp2_with fail
  refine (four_run _).mono ?_
  rintro e w9 ⟨v9, rfl, hm9, hb9⟩
  go_wp2_with fail
  refine (confirms_run _ 1 _ _ 0 14 _ hl (by omega) (by omega) hm9).mono ?_
  rintro e w10 ⟨rfl, hb10⟩
  rw [F5.out]
  have HB10 := Lib.hid (bstep (bstep HB8.out hb9) hb10)
  clear hm9 hb9 hb10
  go_wp2_with fail
  go_ret
  exact ⟨rfl, HB10.out⟩

end Go.Proofs.Ytnfdacfhhkahhaa

namespace Go.Proofs.Ytnfdacfhhkahhaa
set_option linter.unusedVariables false
set_option linter.unusedSimpArgs false
open Go.RowKit

end Go.Proofs.Ytnfdacfhhkahhaa
