/- The contract of ref15.without. -/
import Derived.Test.YtacpfcckilnbfaaGreatRef15
import Derived.Test.YtacpfcckilnbfaaGreatRefSubO
namespace Go.Proofs.YtacpfcckilnbfaaGreat
set_option linter.unusedVariables false
set_option linter.unusedSimpArgs false
open Go.RowKit

theorem len_le_nodupR : ∀ (n : Nat) (l : List Nat), l.Nodup → (∀ x ∈ l, x < n) → l.length ≤ n
  | 0, l, _, h => by
    cases l with
    | nil => exact Nat.le_refl _
    | cons a l => exact absurd (h a List.mem_cons_self) (by omega)
  | n + 1, l, hd, h => by
    by_cases hn : n ∈ l
    · have h1 := len_le_nodupR n (l.erase n) (hd.erase n) (fun x hx => by
        have h2 := (List.Nodup.mem_erase_iff hd).1 hx
        have h3 := h x h2.2
        omega)
      rw [List.length_erase_of_mem hn] at h1
      omega
    · have := len_le_nodupR n l hd (fun x hx => by
        have h3 := h x hx
        have : x ≠ n := fun e => hn (e ▸ hx)
        omega)
      omega
theorem without_done {s k n : Nat} {l L : List Nat} (hl : l.length ≤ 20000) (ha : Asc l) (hm : ∀ t : Nat, t ∈ l ↔ Sub t (2 ^ n - 1)) (hn : n ≤ 10) (h : FilOf (fun b => Sub s b ∧ b.testBit k = false) l l.length L) : ArIs n s k L := by
  obtain ⟨h1, h2⟩ := h
  rw [List.take_length] at h1 h2
  have hasc : Asc L := ha.sublist h1
  have hm2 : ∀ b, b ∈ L ↔ b < 2 ^ n ∧ Sub s b ∧ b.testBit k = false := fun b => by
    rw [h2 b, hm b, ones_sub]
  refine ⟨hasc, ?_, hm2⟩
  have hnd : L.Nodup := hasc.imp (fun h e => by rw [e] at h; exact Nat.lt_irrefl _ h)
  exact len_le_nodupR 1024 L hnd (fun b hb => Nat.lt_of_lt_of_le ((hm2 b).1 hb).1 (pow_1024 hn))
theorem shr_bit (b k : Nat) (hb : b < 1024) : bits .and .i64 ((b : Int) / 2 ^ k) 1 = if b.testBit k then 1 else 0 := by
  have h := bit_fact b k (by omega)
  have e : ((b : Int) / 2 ^ k) = ((b / 2 ^ k : Nat) : Int) := by
    rw [Int.natCast_ediv, Int.natCast_pow]; rfl
  have hq := Nat.div_le_self b (2 ^ k)
  have h1 := i64_and_nat (b / 2 ^ k) 1 (by omega) (by omega)
  rw [e, show (1 : Int) = ((1 : Nat) : Int) from rfl, h1, Nat.and_one_is_mod, Nat.testBit_eq_decide_div_mod_eq]
  have h2 := Nat.mod_two_eq_zero_or_one (b / 2 ^ k)
  rcases h2 with h2 | h2 <;> rw [h2] <;> rfl
set_option maxRecDepth 100000 in
set_option maxHeartbeats 8000000 in
theorem rwithout_run (P : Nat → Prop) (ms : List Mem) (v : Value) (s k0 : Nat) (hk : k0 < 10) (w : World) (hl : ms.length ≤ 10) (hs : s < 2 ^ ms.length) (h : MemsAt P 3 w v ms) (hok : D3.MemsOk ms.length ms) :
    Calls Tryz.prog 79 #[.agg #[v], .int .i64 (s : Int), .int .i64 (k0 : Int)] w fun e w' => (∃ (v : Value) (L : List Nat), e = .returned v ∧ NodesAt (fun b => w.heap.size ≤ b) w' v (zs L) ∧ ArIs ms.length s k0 L) ∧ Below w.heap.size w w' := by
  obtain ⟨A, c, rfl⟩ := h.slice
  have hb1 : Below w.heap.size w (w.alloc (.cells #[.slice A ms.length c] 27)) := balloc (bref w) _
  have kk0 : (w.alloc (.cells #[.slice A ms.length c] 27)).heap[w.heap.size]? = some (.cells #[.slice A ms.length c] 27 (0, 0)) := alloc_at rfl
  have hp2 : 2 ^ ms.length ≤ 2 ^ 10 := Nat.pow_le_pow_right (by omega) hl
  have hs10 : s < 1024 := by omega
  have H := Lib.hid (h.below hb1)
  have HB := Lib.hid hb1
  have K0 := Lib.hid kk0
  have HOK := Lib.hid hok
  have HS := Lib.hid hs
  clear h hb1 kk0 hp2 hs hok
  go_enter Tryz.func79, Tryz.ntmps79
  go_upto_region 1 with fail
  generalize w.alloc (.cells #[.slice A ms.length c] 27) = W1 at *
  generalize hg : w.heap.size = g at *
  have HG := Lib.hid hg
  clear hg
  have c0 : W1.cell? ⟨g, 0, none⟩ = some (.slice A ms.length c) := cell_of_row _ _ 0 _ _ (0, 0) K0.out
  have HBw := Lib.hid (show Below w.heap.size w W1 by rw [HG.out]; exact HB.out)
  have hn10 : ms.length ≤ 10 := hl
  have HKL := Lib.hid hk
  clear hk
  obtain ⟨n, hnn⟩ : ∃ n, ms.length = n := ⟨_, rfl⟩
  have HN := Lib.hid hnn
  rw [hnn] at c0 hl hn10
  have HH := Lib.hid (show MemsAt P 3 W1 (.slice A n c) ms by rw [← hnn]; exact H.out)
  have HSN := Lib.hid (show s < 2 ^ n by rw [← hnn]; exact HS.out)
  rw [hnn]
  clear hnn
  go_wp2_with fail
  refine (rfmembers_run A n c hn10 _).mono ?_
  rintro e W2x ⟨rfl, hb2⟩
  have HB2 := Lib.hid (bstep HBw.out hb2)
  clear hb2 c0
  have hp10 : 2 ^ n ≤ 2 ^ 10 := Nat.pow_le_pow_right (by omega) hn10
  have HPM := Lib.hid (fun W => rsubsetsO_run (2 ^ n - 1) W (by omega))
  obtain ⟨M, hM⟩ : ∃ M, 2 ^ n - 1 = M := ⟨_, rfl⟩
  have HM := Lib.hid hM
  rw [hM] at HPM ⊢
  clear hM hp10
  go_wp2_with fail
  refine (HPM.out _).mono ?_
  rintro e W6 ⟨vr, l, rfl, hnv, hlen, hasc, hmem, hb6⟩
  have HB6 := Lib.hid (bstep HB2.out hb6)
  have HF := Lib.hid (show ∀ L, FilOf (fun b => Sub s b ∧ b.testBit k0 = false) l l.length L → ArIs n s k0 L from fun L h => without_done hlen hasc (by rw [HM.out]; exact hmem) hn10 h)
  have HFB := Lib.hid (show ∀ b, b ∈ l → b < 2 ^ n from fun b hb => ones_sub.1 (by rw [HM.out]; exact (hmem b).1 hb))
  obtain ⟨Nn, cn, rfl⟩ := hnv.slice
  have hzl : (zs l).length = l.length := by unfold zs; simp
  rw [hzl] at hnv ⊢
  obtain ⟨m, hm⟩ : ∃ m, l.length = m := ⟨_, rfl⟩
  rw [hm] at hnv hlen HF ⊢
  have HNV := Lib.hid hnv
  have HML := Lib.hid hm
  obtain ⟨i0, hin, hz0, hz1, hz2⟩ := info_parts infoInt
  clear hb6 hnv hm hmem hasc hzl HPM
  go_wp2_with fail
  go_loopw [7, 14] (fun u t W => ∃ (k : Nat) (v : Value) (L : List Nat), k ≤ m ∧ u = v ∧ t = .int .i64 (k : Int) ∧ W.ownsRow W6.heap.size 3 1 v L.length ((zs L).map (Value.int .i64)) ∧ Hid (FilOf (fun b => Sub s b ∧ b.testBit k0 = false) l k L) ∧ Hid (Below W6.heap.size W6 W)) (fun _ t _ => m - (intOf t).toNat)
  case atStart => exact ⟨0, _, [], Nat.zero_le _, rfl, rfl, World.ownsRow_nil _ _ _ _, Lib.hid (FilOf.zero _ _), Lib.hid (bref _)⟩
  case round =>
    obtain ⟨k, v, L, hk, hv, rfl, hown, hAll, hBe⟩ := hrel
    subst hv
    have hszb := hBe.out.size
    have hLl : L.length ≤ k := by have := hAll.out.1.length_le; rw [List.length_take] at this; omega
    by_cases hlt : k < m
    · obtain ⟨An, cn', hAn, hcl⟩ := HNV.out
      injection hAn with q1 q2 q3
      subst q1
      obtain ⟨bn, on, hbn, _, hcn⟩ := hcl k (by unfold zs; rw [List.length_map, HML.out]; exact hlt)
      subst hbn
      obtain ⟨b, hb⟩ : ∃ b, l[k]? = some b := ⟨_, List.getElem?_eq_getElem (by rw [HML.out]; exact hlt)⟩
      rw [zs_getD hb] at hcn
      have hb2 := HFB.out b (List.mem_of_getElem? hb)
      have hp10 : 2 ^ n ≤ 2 ^ 10 := Nat.pow_le_pow_right (by omega) (by omega)
      have hb10 : b < 1024 := by omega
      clear hb2 hp10
      have n0 : wr.cell? ⟨bn, on + k, none⟩ = some (.int .i64 (b : Int)) := (hBe.out.cell (cell_lt hcn)).trans hcn
      have hand := i64_and_nat b s (by omega) (by have := HSN.out; omega)
      have HZ := Lib.hid (show b &&& s = s ↔ Sub s b from by rw [Nat.and_comm]; exact and_self_sub)
      generalize b &&& s = z at hand HZ
      have HB := Lib.hid hb
      have HOWN := Lib.hid hown
      clear hcl hcn q2 q3 hb
      by_cases hz : z = s
      · have HSU := Lib.hid (HZ.out.1 hz)
        subst hz
        obtain ⟨x, hx⟩ : ∃ x, b.testBit k0 = x := ⟨_, rfl⟩
        have HX := Lib.hid hx
        have hsb := shr_bit b k0 hb10
        rw [hx] at hsb
        have hown7 := HOWN.out
        have hk64 : (k0 : Int) < 64 := by have := HKL.out; omega
        have hk00 : (0 : Int) ≤ (k0 : Int) := by omega
        clear hx hown
        cases x
        · have hsb0 : bits .and .i64 ((b : Int) / 2 ^ k0) 1 = 0 := hsb
          clear hsb
          have HA := Lib.hid (hAll.out.add HB.out ⟨HSU.out, HX.out⟩)
          have hszz := hBe.out.size
          go_wp2_with (at_builtin; refine wpList_append_own _ rfl _ _ 22 rfl W6.heap.size 3 i0 (.int .i64 0) 1 8 Tryz.underlying22 hin hz0 hz1 hz2 rfl (by decide) _ _ _ rfl (hown7.alloc _) ⟨wr.heap.size, 0, none⟩ 1 1 [.int .i64 (b : Int)] rfl rfl (cell_one_new _ _ _) (fun u hu => by simp at hu; subst hu; rfl) (by unfold maxLen; omega) (by omega) (by simp; omega) ?_; intro v' w1 hown' hgrow hnil)
          have HO := Lib.hid (own_snoc hown')
          have HB4 := Lib.hid (Below.grown (balloc hBe.out (.cells #[.int .i64 (b : Int)] 3)) hgrow (by simp; omega) (fun j hj => (hown7.lt j hj).1))
          clear hown' hgrow hnil hown7
          go_roundw
          case rel => exact ⟨k + 1, _, L ++ [b], by omega, rfl, by go_num, by simpa [zs] using HO.out, HA, HB4⟩
          case measure => simp [intOf]; omega
        · have hsb1 : bits .and .i64 ((b : Int) / 2 ^ k0) 1 = 1 := hsb
          clear hsb
          have HA := Lib.hid (hAll.out.skip HB.out (fun h => by have h2 := h.2; rw [HX.out] at h2; cases h2))
          clear hown7
          go_wp2_with fail
          go_roundw
          case rel => exact ⟨k + 1, _, L, by omega, rfl, by go_num, HOWN.out, HA, hBe⟩
          case measure => simp [intOf]; omega
      · have hzi : ¬ ((z : Nat) : Int) = (s : Int) := by omega
        have HA := Lib.hid (hAll.out.skip HB.out (fun h => hz (HZ.out.2 h.1)))
        clear hown
        go_wp2_with fail
        go_roundw
        case rel => exact ⟨k + 1, _, L, by omega, rfl, by go_num, HOWN.out, HA, hBe⟩
        case measure => simp [intOf]; omega
    · obtain rfl : k = m := by omega
      have HBF := Lib.hid (bstep HB6.out hBe.out)
      have HAL := Lib.hid (HF.out L hAll.out)
      have hge : w.heap.size ≤ W6.heap.size := HB6.out.size
      have HNF := Lib.hid ((NodesAt.of_ownZ hown).both (w' := wr) (Q := fun b => w.heap.size ≤ b) (fun _ _ _ => rfl) (fun q _ hq => by have : W6.heap.size ≤ q := hq; show w.heap.size ≤ q; omega))
      clear hown
      go_wp2_with fail
      go_ret
      exact ⟨⟨_, L, rfl, HNF.out, by rw [HN.out]; exact HAL.out⟩, HBF.out⟩
end Go.Proofs.YtacpfcckilnbfaaGreat
