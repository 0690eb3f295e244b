/- Contracts of intact members: Of, Befouled. -/
import Derived.Test.YtacpfcckilnbfaaGreatB6
namespace Go.Proofs.YtacpfcckilnbfaaGreat
set_option linter.unusedVariables false
set_option linter.unusedSimpArgs false
open Go.RowKit

theorem bf_succ {n k b : Nat} {L : List Nat} (h : L[k]? = some b) : bfold n (L.take (k + 1)) = bfold n (L.take k) &&& b := by
  unfold bfold
  rw [List.take_add_one, h, List.foldl_append]; rfl
/-- What Of returns. -/
def OfIs (s : Nat) (ls hs : List Mem) (a : Nat) : Prop := (¬ InT (D3.delM s ls) ∧ a = 0) ∨ (InT (D3.delM s ls) ∧ ∃ L, AllIs s ls hs L ∧ a = outS ls.length (bfold ls.length L))
theorem OfIs.lt {s : Nat} {ls hs : List Mem} {a : Nat} (h : OfIs s ls hs a) : a < 2 ^ ls.length := by
  rcases h with ⟨_, rfl⟩ | ⟨_, L, _, rfl⟩
  · exact Nat.two_pow_pos _
  · exact outS_lt2 _ _
set_option maxRecDepth 100000 in
set_option maxHeartbeats 400000 in
theorem inmembers_run (A : Option Addr) (n c : Nat) (hn : n ≤ 10) (w : World) : Calls Tryz.prog 68 #[.agg #[.slice A n c]] w fun e w' => e = .returned (.int .i64 ((2 ^ n - 1 : Nat) : Int)) ∧ Below w.heap.size w w' := by
  have hp := pow11 n (by omega)
  have hp1 : 1 ≤ 2 ^ n := Nat.one_le_pow _ _ (by omega)
  have hp2 : 2 ^ n ≤ 2 ^ 10 := Nat.pow_le_pow_right (by omega) hn
  obtain ⟨N, hN⟩ : ∃ N, 2 ^ n = N := ⟨_, rfl⟩
  rw [hN] at hp hp1 hp2 ⊢
  clear hN
  have hw1 : wrap64 ((N : Int) - 1) = (N : Int) - 1 := by unfold wrap64; omega
  have hn64 : (n : Int) < 64 := by omega
  have HE := Lib.hid (show ((N - 1 : Nat) : Int) = (N : Int) - 1 by omega)
  go_enter Tryz.func68, Tryz.ntmps68
  go_wp2_with fail
  go_ret
  exact ⟨by rw [HE.out]; rfl, balloc (bref _) _⟩

set_option maxRecDepth 100000 in
set_option maxHeartbeats 2000000 in
theorem inints_run (P : Nat → Prop) (ms : List Mem) (v : Value) (s : Nat) (w : World) (hl : ms.length ≤ 10) (hs : s < 2 ^ ms.length) (h : MemsAt P 3 w v ms) (hok : D3.MemsOk ms.length ms) :
    Calls Tryz.prog 67 #[.agg #[v], .int .i64 (s : Int)] w fun e w' => (∃ x : Bool, e = .returned (.bool x) ∧ (x = true ↔ InT (D3.delM s ms))) ∧ Below w.heap.size w w' := by
  obtain ⟨A, c, rfl⟩ := h.slice
  have hb1 : Below w.heap.size w (w.alloc (.cells #[.slice A ms.length c] 27)) := balloc (bref w) _
  have k0 : (w.alloc (.cells #[.slice A ms.length c] 27)).heap[w.heap.size]? = some (.cells #[.slice A ms.length c] 27 (0, 0)) := alloc_at rfl
  have hp2 : 2 ^ ms.length ≤ 2 ^ 10 := Nat.pow_le_pow_right (by omega) hl
  have hs10 : s < 1024 := by omega
  have H := Lib.hid (h.below hb1)
  have HB := Lib.hid hb1
  have K0 := Lib.hid k0
  have HOK := Lib.hid hok
  have HS := Lib.hid hs
  clear h hb1 k0 hp2 hs hok
  go_enter Tryz.func67, Tryz.ntmps67
  go_upto_region 1 with fail
  generalize w.alloc (.cells #[.slice A ms.length c] 27) = W1 at *
  generalize hg : w.heap.size = g at *
  have HG := Lib.hid hg
  clear hg
  have c0 : W1.cell? ⟨g, 0, none⟩ = some (.slice A ms.length c) := cell_of_row _ _ 0 _ _ (0, 0) K0.out
  have HBw := Lib.hid (show Below w.heap.size w W1 by rw [HG.out]; exact HB.out)
  go_wp2_with fail
  refine (dpints_run P ms _ s _ hl HS.out H.out HOK.out).mono ?_
  rintro e W2x ⟨⟨x, rfl, hx⟩, hbx⟩
  have c1 := (hbx.cell (cell_lt c0)).trans c0
  have HB1 := Lib.hid (bstep HBw.out hbx)
  have H1 := Lib.hid (H.out.below hbx)
  clear hbx c0
  have HX := Lib.hid hx
  clear hx
  go_wp2_with fail
  go_ret
  exact ⟨⟨x, rfl, HX.out⟩, HB1.out⟩

set_option maxRecDepth 100000 in
set_option maxHeartbeats 4000000 in
theorem inof_run (P Q : Nat → Prop) (ls hs : List Mem) (vl vh : Value) (s : Nat) (hsx : s < 2 ^ ls.length) (w : World) (hl : ls.length ≤ 7) (h1 : MemsAt P 3 w vl ls) (h2 : MemsAt Q 3 w vh hs) (hp : PairM ls hs) :
    Calls Tryz.prog 29 #[.agg #[vl], .agg #[vh], .int .i64 (s : Int)] w fun e w' => (∃ a : Nat, e = .returned (.tuple #[.int .i64 (a : Int), .int .i64 0]) ∧ OfIs s ls hs a) ∧ Below w.heap.size w w' := by
  have HS := Lib.hid hsx
  clear hsx
  obtain ⟨A, c, rfl⟩ := h1.slice
  obtain ⟨B, d, rfl⟩ := h2.slice
  have hlen := hp.len
  have hokl := hp.okl
  have hokh := hp.okh
  have hdec := hp.decl
  have HDL := Lib.hid (fun W (h : MemsAt P 3 W (.slice A ls.length c) ls) => declared_run P 3 ls _ W (by omega) h)
  have HDH := Lib.hid (fun W (h : MemsAt Q 3 W (.slice B hs.length d) hs) => declared_run Q 3 hs _ W (by omega) h)
  rw [hdec] at HDH
  rw [hlen] at h2 HDH hokh ⊢
  obtain ⟨n, hn⟩ : ∃ n, ls.length = n := ⟨_, rfl⟩
  have HN := Lib.hid hn
  have HNH := Lib.hid hlen
  rw [hn] at HNH
  have HD := Lib.hid (fun k (h : (declS ls ls.length).testBit k = true) => declS_bit h)
  have HDM := Lib.hid (fun k (h : (declS ls ls.length).testBit k = true) => declS_memD h)
  have hDl : declS ls ls.length < 1024 := declS_lt ls _ (by omega)
  generalize declS ls ls.length = D at HDL HDH hDl HD HDM
  rw [hn] at h1 h2 HDL HDH hokl hokh hl HD ⊢
  have HP := Lib.hid hp
  have HOL := Lib.hid hokl
  have HOH := Lib.hid hokh
  have HPA := Lib.hid (PA.new h1 h2)
  clear h1 h2 hp hokl hokh hn hdec hlen
  go_enter Tryz.func29, Tryz.ntmps29
  go_upto_region 1 with fail
  generalize ((w.alloc (.cells #[.slice A n c] 27)).alloc (.cells #[.slice B n d] 27)) = W1 at *
  generalize w.heap.size = g at HPA ⊢
  have l0 := HPA.out.cs.1
  have h0 := HPA.out.cs.2.1
  go_wp2_with fail
  refine (dpall_run P Q ls hs _ _ s HS.out _ (by rw [HN.out]; exact hl) HPA.out.ml HPA.out.mh HP.out).mono ?_
  rintro e W1x ⟨⟨va, L, rfl, hnv, hal⟩, hbx⟩
  have HAL := Lib.hid hal
  obtain ⟨An, cn, rfl⟩ := hnv.slice
  have hzl : (zs L).length = L.length := by unfold zs; simp
  have hnv2 := hnv.both (w' := W1x) (Q := fun _ => True) (fun _ _ _ => rfl) (fun _ _ _ => trivial)
  rw [hzl] at hnv2 ⊢
  obtain ⟨m, hm⟩ : ∃ m, L.length = m := ⟨_, rfl⟩
  have hm10 : m ≤ 1024 := by rw [← hm]; exact hal.2.1
  rw [hm] at hnv2 ⊢
  have HNV := Lib.hid hnv2
  have HML := Lib.hid hm
  clear hnv hal hzl hnv2 hm
  have HPA1 := Lib.hid (HPA.out.to hbx)
  clear hbx l0 h0
  have l1 := HPA1.out.cs.1
  have h1 := HPA1.out.cs.2.1
  go_wp2_with fail
  refine (inints_run P ls _ s _ (by rw [HN.out]; omega) HS.out HPA1.out.ml (by rw [HN.out]; exact HOL.out)).mono ?_
  rintro e W2x ⟨⟨x, rfl, hx⟩, hbx⟩
  have HPA2 := Lib.hid (HPA1.out.to hbx)
  have HBZ := Lib.hid hbx
  clear hbx l1 h1
  have l2 := HPA2.out.cs.1
  have h2 := HPA2.out.cs.2.1
  have HX := Lib.hid hx
  clear hx
  have HN2 := Lib.hid (HNV.out.below HBZ.out)
  cases x
  · have HF := Lib.hid (show OfIs s ls hs 0 from .inl ⟨fun h => (by have := HX.out.2 h; cases this), rfl⟩)
    go_wp2_with fail
    go_ret2
    exact ⟨⟨0, rfl, HF.out⟩, HPA2.out.bel⟩
  · have HIN := Lib.hid (HX.out.1 (by first | rfl | trivial))
    go_wp2_with fail
    refine (inmembers_run A n c (by omega) _).mono ?_
    rintro e W3x ⟨rfl, hb3⟩
    have HPA3 := Lib.hid (HPA2.out.to hb3)
    have HN3 := Lib.hid (HN2.out.below hb3)
    clear hb3 l2 h2
    have HBF0 := Lib.hid (show bfold n (L.take 0) = 2 ^ n - 1 from rfl)
    have HBL := Lib.hid (fun k => bf_lt n (L.take k))
    have hp10 : 2 ^ n ≤ 2 ^ 7 := Nat.pow_le_pow_right (by omega) (by omega)
    have HP10 := Lib.hid hp10
    obtain ⟨M, hM⟩ : ∃ M, 2 ^ n - 1 = M := ⟨_, rfl⟩
    have hM10 : M < 1024 := by omega
    have HMM := Lib.hid hM
    rw [hM] at HBF0 ⊢
    clear hM hp10
    go_wp2_with fail
    go_loopw [10, 31] (fun u t W => ∃ k : Nat, k ≤ m ∧ u = .int .i64 ((bfold n (L.take k) : Nat) : Int) ∧ t = .int .i64 (k : Int) ∧ Hid (Below W3x.heap.size W3x W)) (fun _ t _ => m - (intOf t).toNat)
    case atStart => exact ⟨0, Nat.zero_le _, by rw [HBF0.out], rfl, Lib.hid (bref _)⟩
    case round =>
      obtain ⟨k, hk, rfl, rfl, hBe⟩ := hrel
      have hbl := HBL.out k
      have hbl2 := HP10.out
      by_cases hlt : k < m
      · obtain ⟨b, hb⟩ : ∃ b, L[k]? = some b := ⟨_, List.getElem?_eq_getElem (by rw [HML.out]; exact hlt)⟩
        obtain ⟨A', c', hA', hcl⟩ := (HN3.out.below hBe.out)
        injection hA' with q1 q2 q3
        subst q1
        obtain ⟨bn, on, hbn, _, hcn⟩ := hcl k (by unfold zs; rw [List.length_map, HML.out]; exact hlt)
        subst hbn
        rw [zs_getD hb] at hcn
        have hb1 := ((HAL.out.2.2 b).1 (List.mem_of_getElem? hb)).1
        rw [HN.out] at hb1
        have hand := i64_and_nat (bfold n (L.take k)) b (by omega) (by omega)
        have HSU := Lib.hid (bf_succ (n := n) hb)
        rw [← bf_succ (n := n) hb] at hand
        generalize bfold n (L.take k) = acc at hand ⊢
        clear hcl hb q2 q3 hbl hbl2
        go_wp2_with fail
        go_roundw
        case rel => exact ⟨k + 1, hlt, rfl, by go_num, hBe⟩
        case measure => simp [intOf]; omega
      · obtain rfl : k = m := by omega
        have HPA4 := Lib.hid (HPA3.out.to hBe.out)
        have l4 := HPA4.out.cs.1
        have HTK := Lib.hid (show bfold n (L.take k) = bfold n L from by rw [← HML.out, List.take_length])
        rw [HTK.out] at hbl ⊢
        have han : bits .andNot .i64 (M : Int) ((bfold n L : Nat) : Int) = ((outS n (bfold n L) : Nat) : Int) := by
          have h := andNot_nat M (bfold n L) hM10 (by omega)
          rw [h]; unfold outS; rw [HMM.out]
        have HF := Lib.hid (show OfIs s ls hs (outS n (bfold n L)) from .inr ⟨HIN.out, L, HAL.out, by rw [HN.out]⟩)
        generalize outS n (bfold n L) = a at han HF
        generalize bfold n L = bf at han hbl ⊢
        go_wp2_with fail
        refine (inmembers_run A n c (by omega) _).mono ?_
        rintro e W5x ⟨rfl, hb5⟩
        have HB5 := Lib.hid (HPA4.out.to hb5).bel
        rw [HMM.out]
        clear hb5 l4
        go_wp2_with fail
        go_ret2
        exact ⟨⟨a, rfl, HF.out⟩, HB5.out⟩

set_option maxRecDepth 100000 in
set_option maxHeartbeats 4000000 in
theorem inbef_run (P Q : Nat → Prop) (ls hs : List Mem) (vl vh : Value) (s : Nat) (hsx : s < 2 ^ ls.length) (w : World) (hl : ls.length ≤ 7) (h1 : MemsAt P 3 w vl ls) (h2 : MemsAt Q 3 w vh hs) (hp : PairM ls hs) :
    Calls Tryz.prog 30 #[.agg #[vl], .agg #[vh], .int .i64 (s : Int)] w fun e w' => (∃ r : Nat, e = .returned (.tuple #[.int .i64 (r : Int), .int .i64 0]) ∧ ∃ a, OfIs s ls hs a ∧ r = outS ls.length a) ∧ Below w.heap.size w w' := by
  have HS := Lib.hid hsx
  clear hsx
  obtain ⟨A, c, rfl⟩ := h1.slice
  obtain ⟨B, d, rfl⟩ := h2.slice
  have hlen := hp.len
  have hokl := hp.okl
  have hokh := hp.okh
  have hdec := hp.decl
  have HDL := Lib.hid (fun W (h : MemsAt P 3 W (.slice A ls.length c) ls) => declared_run P 3 ls _ W (by omega) h)
  have HDH := Lib.hid (fun W (h : MemsAt Q 3 W (.slice B hs.length d) hs) => declared_run Q 3 hs _ W (by omega) h)
  rw [hdec] at HDH
  rw [hlen] at h2 HDH hokh ⊢
  obtain ⟨n, hn⟩ : ∃ n, ls.length = n := ⟨_, rfl⟩
  have HN := Lib.hid hn
  have HNH := Lib.hid hlen
  rw [hn] at HNH
  have HD := Lib.hid (fun k (h : (declS ls ls.length).testBit k = true) => declS_bit h)
  have HDM := Lib.hid (fun k (h : (declS ls ls.length).testBit k = true) => declS_memD h)
  have hDl : declS ls ls.length < 1024 := declS_lt ls _ (by omega)
  generalize declS ls ls.length = D at HDL HDH hDl HD HDM
  rw [hn] at h1 h2 HDL HDH hokl hokh hl HD ⊢
  have HP := Lib.hid hp
  have HOL := Lib.hid hokl
  have HOH := Lib.hid hokh
  have HPA := Lib.hid (PA.new h1 h2)
  clear h1 h2 hp hokl hokh hn hdec hlen
  go_enter Tryz.func30, Tryz.ntmps30
  go_upto_region 1 with fail
  generalize ((w.alloc (.cells #[.slice A n c] 27)).alloc (.cells #[.slice B n d] 27)) = W1 at *
  generalize w.heap.size = g at HPA ⊢
  have l0 := HPA.out.cs.1
  have h0 := HPA.out.cs.2.1
  go_wp2_with fail
  refine (inof_run P Q ls hs _ _ s HS.out _ (by rw [HN.out]; exact hl) HPA.out.ml HPA.out.mh HP.out).mono ?_
  rintro e W1x ⟨⟨a, rfl, hof⟩, hbx⟩
  have HPA1 := Lib.hid (HPA.out.to hbx)
  clear hbx l0 h0
  have l1 := HPA1.out.cs.1
  have h1 := HPA1.out.cs.2.1
  have HOF := Lib.hid hof
  clear hof
  go_wp2_with fail
  refine (inmembers_run A n c (by omega) _).mono ?_
  rintro e W2x ⟨rfl, hb2⟩
  have HB2 := Lib.hid (HPA1.out.to hb2).bel
  clear hb2 l1 h1
  have hal := HOF.out.lt
  rw [HN.out] at hal
  have hp10 : 2 ^ n ≤ 2 ^ 7 := Nat.pow_le_pow_right (by omega) (by omega)
  have han : bits .andNot .i64 ((2 ^ n - 1 : Nat) : Int) (a : Int) = ((outS n a : Nat) : Int) := andNot_nat (2 ^ n - 1) a (by omega) (by omega)
  have HF := Lib.hid (show ∃ x, OfIs s ls hs x ∧ outS n a = outS n x from ⟨a, HOF.out, rfl⟩)
  generalize outS n a = r at han HF
  generalize 2 ^ n - 1 = M at han ⊢
  clear hal hp10
  go_wp2_with fail
  go_ret2
  exact ⟨⟨r, rfl, HF.out⟩, HB2.out⟩
end Go.Proofs.YtacpfcckilnbfaaGreat
