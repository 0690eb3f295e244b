/- The walk of the law NodesetSubsets. -/
import Derived.Test.YtbbdmaakphoofaaDoorAwake01
import Derived.Test.YtbbdmaakphoofaaDoorSubs
namespace Go.Proofs.YtbbdmaakphoofaaDoor
set_option linter.unusedVariables false
set_option linter.unusedSimpArgs false
open Go.RowKit

theorem measV (i N : Nat) (h : i < N) : N - (intOf (Value.int .i64 ((i : Int) + 1))).toNat < N - (intOf (Value.int .i64 (i : Int))).toNat := by simp [intOf]; omega
theorem numV (i : Nat) : Value.int .i64 ((i : Int) + 1) = Value.int .i64 ((i + 1 : Nat) : Int) := rfl
theorem listCellV {P : Nat → Prop} {w : World} {A : Option Addr} {n c j : Nat} {l : List Nat} (h : NodesAt P w (.slice A n c) (zs l)) (hj : j < l.length) : ∃ b off, A = some ⟨b, off, none⟩ ∧ w.cell? ⟨b, off + j, none⟩ = some (.int .i64 (l.getD j 0 : Nat)) ∧ l[j]? = some (l.getD j 0) := by
  obtain ⟨A', c', e1, e2⟩ := h
  cases e1
  obtain ⟨b, off, e3, _, e5⟩ := e2 j (by rw [zs_len]; exact hj)
  rw [zs_get] at e5
  exact ⟨b, off, e3, e5, by rw [List.getD_eq_getElem?_getD, List.getElem?_eq_getElem hj]; rfl⟩
theorem getD_of {l : List Nat} {k x : Nat} (h : l[k]? = some x) : l.getD k 0 = x := by rw [List.getD_eq_getElem?_getD, h]; rfl

set_option maxRecDepth 100000 in
set_option maxHeartbeats 4000000 in
theorem walkNodesetSubsets (a0 : Int) (w0 : (Lit.int .u16 a0).wf = true) (w : World) :
    Calls Tryd.prog 5 #[.int .u16 a0] w fun e w' => e = .returned (.bool true) ∧ Below w.heap.size w w' := by
  obtain ⟨x0, x1⟩ := bounds_u16 w0
  clear w0
  obtain ⟨s, hn⟩ : ∃ n : Nat, a0 % 1024 = (n : Int) := ⟨(a0 % 1024).toNat, by omega⟩
  have hs : s < 1024 := by omega
  have c1 : IntKind.i64.wrap a0 = a0 := IntWalk.i64_in _ (by omega)
  have HSZ := Lib.hid (fun W => psize_run s hs W)
  have HRZ := Lib.hid (fun W => rsetSize_run s hs W)
  have HSL := Lib.hid (fun n l hn hsn h => subs_law (s := s) (n := n) (l := l) hs hn hsn h)
  have hpc := popc_le s
  have hp := pow11 (popc s) (by omega)
  have h10 : 2 ^ popc s ≤ 2 ^ 10 := Nat.pow_le_pow_right (by omega) hpc
  have h1p : 1 ≤ 2 ^ popc s := Nat.one_le_two_pow
  obtain ⟨L, hL⟩ : ∃ L, 2 ^ popc s = L := ⟨_, rfl⟩
  rw [hL] at hp h10 h1p
  rw [hL] at HSL
  clear hL
  generalize popc s = pc at *
  have hnn0 : (0 : Int) ≤ (pc : Int) := by omega
  have hnn64 : ¬ (64 : Int) ≤ (pc : Int) := by omega
  have hL1 : ((L : Int) - 1) = ((L - 1 : Nat) : Int) := by omega
  go_enter Tryd.func5, Tryd.ntmps5
  go_wp2_with fail
  refine (psubs_run s hs _).mono ?_
  rintro e W1 ⟨v, l, n, rfl, ho, hn10, hsn, hf, hb1⟩
  obtain ⟨hll, hl0, hlz, hlx, hlc⟩ := HSL.out n l hn10 hsn hf
  have HN := Lib.hid (NodesAt.of_ownZ ho)
  obtain ⟨A, c, hv⟩ := own_slice ho
  subst hv
  rw [hll] at HN hlz ⊢
  have HLL := Lib.hid hll
  have HLX := Lib.hid hlx
  have HLC := Lib.hid hlc
  have HB1 := Lib.hid hb1
  obtain ⟨b0, o0, rfl, hc0, _⟩ := listCellV HN.out (show 0 < l.length by omega)
  obtain ⟨b1, o1, e1, hcz, _⟩ := listCellV HN.out (show L - 1 < l.length by omega)
  cases e1
  rw [getD_of hl0] at hc0
  rw [getD_of hlz] at hcz
  have hc0' : W1.cell? ⟨b0, o0, none⟩ = some (.int .i64 0) := hc0
  clear hc0
  clear ho hf hb1 hll hlx hlc hl0 hlz HSL hn10 hsn
  go_wp2_with fail
  refine (HSZ.out _).mono ?_
  rintro e w2 ⟨rfl, rfl⟩
  go_wp2_with fail
  refine (HRZ.out _).mono ?_
  rintro e w2 ⟨rfl, rfl⟩
  go_wp2_with fail
  refine (HRZ.out _).mono ?_
  rintro e w2 ⟨rfl, rfl⟩
  go_wp2_with fail
  have hL10 : L ≤ 1024 := h10
  clear hc0' hcz hL1 hp h10 hnn0 hnn64 hpc x0 x1 hn c1 HSZ HRZ
  go_loopw [43] (fun t W => ∃ i : Nat, i ≤ L ∧ t = .int .i64 i ∧ Hid (NodesAt (fun b => w.heap.size ≤ b) W (.slice (some ⟨b0, o0, none⟩) L c) (zs l)) ∧ Hid (Below w.heap.size w W)) (fun t _ => L - (intOf t).toNat)
  case atStart => exact ⟨0, Nat.zero_le _, rfl, HN, HB1⟩
  case round =>
    clear HN HB1
    obtain ⟨i, hi, rfl, hN, hB⟩ := hrel
    by_cases hlt : i < L
    · obtain ⟨bq, oq, e1, hci, hxi⟩ := listCellV hN.out (show i < l.length by rw [HLL.out]; exact hlt)
      cases e1
      obtain ⟨hx10, hxs⟩ := HLX.out _ (List.mem_of_getElem? hxi)
      have HCX := Lib.hid (fun j y (hj : j + 1 = i) (hy : l[j]? = some y) => HLC.out j y (l.getD i 0) hy (by rw [hj]; exact hxi))
      generalize l.getD i 0 = x at *
      have q3 := i64_and_nat x s (by omega) (by omega)
      rw [hxs] at q3
      clear hxs hxi
      by_cases hi0 : i = 0
      · subst hi0
        have hci' : wr.cell? ⟨b0, o0, none⟩ = some (.int .i64 (x : Int)) := hci
        clear HCX hci
        go_wp2_with fail
        go_roundw
        case rel => exact ⟨1, hlt, rfl, hN, hB⟩
        case measure => exact measV 0 L hlt
      · obtain ⟨j, rfl⟩ : ∃ j, i = j + 1 := ⟨i - 1, by omega⟩
        clear hi0
        have hgt : (0 : Int) < ((j + 1 : Nat) : Int) := by omega
        have hwj : wrap64 (j : Int) = (j : Int) := by unfold wrap64; omega
        obtain ⟨bq', oq', e1, hck, hyk⟩ := listCellV hN.out (show j < l.length by rw [HLL.out]; omega)
        cases e1
        have hyl := (HLX.out _ (List.mem_of_getElem? hyk)).1
        have HCC := Lib.hid (HCX.out j _ rfl hyk)
        generalize l.getD j 0 = y at *
        clear hyk HCX
        go_wp2_with fail
        refine (rcompare_run y x hyl hx10 _).mono ?_
        rintro e W2 ⟨rfl, rfl⟩
        rw [HCC.out]
        go_wp2_with fail
        go_roundw
        case rel => exact ⟨j + 2, hlt, numV (j + 1), hN, hB⟩
        case measure => exact measV (j + 1) L hlt
    · obtain rfl : i = L := Nat.le_antisymm hi (Nat.not_lt.1 hlt)
      have HBW := hB
      clear hN
      go_wp2_with fail
      refine (awake01 _).mono ?_
      rintro e wz ⟨rfl, hbz⟩
      have HZ := Lib.hid (bstep HBW.out hbz)
      clear hbz HBW
      go_wp2_with fail
      go_ret
      exact ⟨rfl, HZ.out⟩
end Go.Proofs.YtbbdmaakphoofaaDoor
