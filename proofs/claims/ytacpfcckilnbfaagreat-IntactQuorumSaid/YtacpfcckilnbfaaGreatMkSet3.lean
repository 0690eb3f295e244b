/- mk.Set on configurations of three levels. -/
import Derived.Test.YtacpfcckilnbfaaGreatB6
namespace Go.Proofs.YtacpfcckilnbfaaGreat.D3
set_option linter.unusedVariables false
set_option linter.unusedSimpArgs false
open Go.RowKit


structure SMade (w : World) (sb g : Nat) (v : Value) (ms : List Mem) (W : World) : Prop where
  tape : TapeOk W sb
  out : W.heap[g]? = some (.cells #[v] 27 (0, 0))
  mems : MemsAt (fun b => sb < b) 3 W v ms
  low : sb < g
  gr : w.grownBy W (some sb)
theorem SMade.lt {w W : World} {sb g : Nat} {v : Value} {ms : List Mem} (h : SMade w sb g v ms W) : g < W.heap.size := by
  rcases Nat.lt_or_ge g W.heap.size with h1 | h1
  · exact h1
  · have := h.out; rw [Array.getElem?_eq_none h1] at this; cases this
theorem SMade.cell {w W : World} {sb g : Nat} {v : Value} {ms : List Mem} (h : SMade w sb g v ms W) : W.cell? ⟨g, 0, none⟩ = some v := cell_of_row _ _ 0 _ _ (0, 0) h.out
theorem SMade.bel {w W W' : World} {sb g : Nat} {v : Value} {ms : List Mem} (h : SMade w sb g v ms W) (hb : Below W.heap.size W W') : SMade w sb g v ms W' :=
  ⟨h.tape.below hb, (hb.block _ h.lt).trans h.out, h.mems.below hb, h.low, grown_trans h.gr (grown_below hb)⟩
theorem SMade.grown {w W W' : World} {sb g : Nat} {v : Value} {ms : List Mem} (h : SMade w sb g v ms W) (hs : TapeOk W' sb) (hg : W.grownBy W' (some sb)) : SMade w sb g v ms W' :=
  ⟨hs, (hg.block _ h.lt (by have := h.low; simp; omega)).trans h.out, h.mems.both (fun q hq hP => hg.block q hq (by simp; omega)) (fun _ _ h => h), h.low, grown_trans h.gr hg⟩
theorem SMade.keeps {w W : World} {sb g : Nat} {v : Value} {ms : List Mem} (h : SMade w sb g v ms W) : W.cell? ⟨g, 0, none⟩ = some v ∧ SMade w sb g v ms W := ⟨h.cell, h⟩
theorem keepZ {w W W' : World} {sb g : Nat} {v : Value} {ms : List Mem} (h : W.cell? ⟨g, 0, none⟩ = some v ∧ SMade w sb g v ms W) (hb : Below W.heap.size W W') : W'.cell? ⟨g, 0, none⟩ = some v ∧ SMade w sb g v ms W' := (h.2.bel hb).keeps
theorem growZ {w W W' : World} {sb g : Nat} {v : Value} {ms : List Mem} (h : W.cell? ⟨g, 0, none⟩ = some v ∧ SMade w sb g v ms W) (hs : TapeOk W' sb) (hg : W.grownBy W' (some sb)) : W'.cell? ⟨g, 0, none⟩ = some v ∧ SMade w sb g v ms W' := (h.2.grown hs hg).keeps
theorem tapeZ {w W : World} {sb g : Nat} {v : Value} {ms : List Mem} (h : W.cell? ⟨g, 0, none⟩ = some v ∧ SMade w sb g v ms W) : TapeOk W sb := h.2.tape
theorem memsZ {w W : World} {sb g : Nat} {v : Value} {ms : List Mem} (h : W.cell? ⟨g, 0, none⟩ = some v ∧ SMade w sb g v ms W) : MemsAt (fun b => sb < b) 3 W v ms := h.2.mems


theorem or_mulN {L : Nat} (s q a : Nat) (hL : L ≤ 10) (hs : s < 2 ^ L) (hq : q < 2 ^ L) (ha : a < 2) : ∃ r : Nat, r < 2 ^ L ∧ bits .or .i64 (s : Int) (IntKind.i64.wrap ((q : Int) * (a : Int))) = (r : Int) := by
  have h10 : 2 ^ L ≤ 2 ^ 10 := Nat.pow_le_pow_right (by omega) hL
  rcases a with _ | a
  · refine ⟨s ||| 0, by simpa using hs, ?_⟩
    rw [show IntKind.i64.wrap ((q : Int) * ((0 : Nat) : Int)) = ((0 : Nat) : Int) by simp; rfl]
    exact i64_or_nat s 0 (by omega) (by omega)
  · obtain rfl : a = 0 := by omega
    refine ⟨s ||| q, Nat.or_lt_two_pow hs hq, ?_⟩
    rw [show IntKind.i64.wrap ((q : Int) * ((0 + 1 : Nat) : Int)) = ((q : Nat) : Int) by rw [IntWalk.i64_in _ (by push_cast; omega)]; push_cast; omega]
    exact i64_or_nat s q (by omega) (by omega)

set_option maxRecDepth 100000 in
set_option maxHeartbeats 4000000 in
theorem mkSetN_run (sb : Nat) (ms : List Mem) (v : Value) (w : World) (hl0 : 1 ≤ ms.length) (hl : ms.length ≤ 10) (hs : TapeOk w sb) (h : MemsAt (fun b => sb < b) 3 w v ms) :
    Calls Tryz.prog 14 #[.pointer (some ⟨sb, 0, none⟩), .agg #[v]] w fun e w' => ∃ r : Nat, e = .returned (.int .i64 (r : Int)) ∧ r < 2 ^ ms.length ∧ TapeOk w' sb ∧ w.grownBy w' (some sb) := by
  obtain ⟨A, c, rfl⟩ := h.slice
  obtain ⟨L, hL⟩ : ∃ L, ms.length = L := ⟨_, rfl⟩
  rw [hL] at h hl0 hl ⊢
  have hba := balloc (bref w) (.cells #[.slice A L c] 27)
  have HM := Lib.hid (show SMade w sb w.heap.size (.slice A L c) ms (w.alloc (.cells #[.slice A L c] 27)) from ⟨hs.alloc _, alloc_at rfl, h.below hba, hs.lt, grown_below hba⟩)
  have HL := Lib.hid hL
  have hpL : 2 ^ L ≤ 2 ^ 10 := Nat.pow_le_pow_right (by omega) hl
  have hpp : 1 ≤ 2 ^ L := Nat.one_le_pow _ _ (by omega)
  obtain ⟨N, hN⟩ : ∃ N, 2 ^ L = N := ⟨_, rfl⟩
  have HN := Lib.hid hN
  rw [hN] at hpL hpp ⊢
  clear hN
  clear h hs hba hL
  go_enter Tryz.func14, Tryz.ntmps14
  go_upto_region 1 with fail
  generalize w.alloc (.cells #[.slice A L c] 27) = W1 at *
  generalize w.heap.size = g at *
  have c0 := HM.out.cell
  go_upto_region 3 with fail
  have hp5 : ∀ j, j < 5 → (W1.alloc (.cells #[.int .i64 0, .int .i64 1, .int .i64 1, .int .i64 2, .int .i64 3] 3)).cell? ⟨W1.heap.size, j, none⟩ = some (.int .i64 (([0, 1, 1, 2, 3] : List Int).getD j 0)) := by
    intro j hj
    rw [cell_of_row _ _ j _ _ (0, 0) (heap_alloc_new _ _)]
    match j, hj with
    | 0, _ | 1, _ | 2, _ | 3, _ | 4, _ => rfl
  have HP5 := Lib.hid hp5
  have hsb : W1.heap.size ≠ sb := by have := HM.out.tape.lt; omega
  clear hp5 c0
  go_wp2_with fail
  refine (TPick_run _ sb W1.heap.size [0, 1, 1, 2, 3] 5 rfl (by omega) (by omega) HP5.out hsb (HM.out.tape.alloc _)).mono ?_
  rintro e W2 ⟨j, hj, rfl, hs1, hg1⟩
  obtain ⟨q, hq, hq3⟩ : ∃ q : Nat, ([0, 1, 1, 2, 3] : List Int).getD j 0 = (q : Int) ∧ q ≤ 3 := by
    match j, hj with
    | 0, _ => exact ⟨0, rfl, by omega⟩
    | 1, _ => exact ⟨1, rfl, by omega⟩
    | 2, _ => exact ⟨1, rfl, by omega⟩
    | 3, _ => exact ⟨2, rfl, by omega⟩
    | 4, _ => exact ⟨3, rfl, by omega⟩
  rw [hq]
  have H2 := Lib.hid ((HM.out.bel (balloc (bref W1) (.cells #[.int .i64 0, .int .i64 1, .int .i64 1, .int .i64 2, .int .i64 3] 3))).grown hs1 hg1)
  clear hq hj hs1 hg1 HP5 hsb
  go_wp2_with fail
  go_loopw [6, 7] (fun sv t W => ∃ (s q : Nat), sv = .int .i64 (s : Int) ∧ t = .int .i64 (q : Int) ∧ s < N ∧ q ≤ 3 ∧ Hid (SMade w sb g (.slice A L c) ms W)) (fun _ t _ => (intOf t).toNat)
  case atStart => exact ⟨0, q, rfl, rfl, by omega, hq3, H2⟩
  case round =>
    obtain ⟨s, q, rfl, rfl, hs, hq, hM⟩ := hrel
    by_cases hpos : 0 < q
    · have hqi : (0 : Int) < (q : Int) := by omega
      go_wp2_with fail
      refine (TN_run _ sb _ (by omega) (by omega) hM.out.tape).mono ?_
      rintro e W3 ⟨r, hr0, hr1, rfl, hs3, hg3⟩
      obtain ⟨K, rfl⟩ := Int.eq_ofNat_of_zero_le hr0
      have H3 := Lib.hid (hM.out.grown hs3 hg3)
      have HOR := Lib.hid (shl_or s K (by omega) (by omega))
      have hso : s ||| 2 ^ K < N := by rw [← HN.out]; exact Nat.or_lt_two_pow (by rw [HN.out]; exact hs) (Nat.pow_lt_pow_right (by omega) (by omega))
      have hk0 : (0 : Int) ≤ (K : Int) := by omega
      have hk64 : (K : Int) < 64 := by omega
      clear hs3 hg3 hM
      go_wp2_with fail
      rw [HOR.out]
      go_roundw
      case rel => exact ⟨s ||| 2 ^ K, q - 1, rfl, by go_num, hso, by omega, H3⟩
      case measure => simp [intOf]; omega
    · obtain rfl : q = 0 := by omega
      clear hpos
      go_upto_region 7 with fail
      have hp := pow11' L (by omega)
      rw [HN.out] at hp
      have hw1 : IntKind.i64.wrap ((N : Int) - 1) = ((N - 1 : Nat) : Int) := (IntWalk.i64_in _ (by omega)).trans (by omega)
      have hdl := declS_lt ms ms.length (by rw [HL.out]; exact hl)
      have hand := andNot_nat (N - 1) (declS ms ms.length) (by omega) hdl
      have HQL := Lib.hid (show (N - 1) ^^^ ((N - 1) &&& declS ms ms.length) < N by rw [← HN.out]; exact Nat.xor_lt_two_pow (by rw [HN.out]; omega) (Nat.lt_of_le_of_lt Nat.and_le_left (by rw [HN.out]; omega)))
      obtain ⟨D, hD⟩ : ∃ D, declS ms ms.length = D := ⟨_, rfl⟩
      have HD := Lib.hid hD
      rw [hD] at hand HQL
      generalize (N - 1) ^^^ ((N - 1) &&& D) = Q at *
      generalize N - 1 = n1 at *
      have HLL := Lib.hid (show ms.length ≤ 10 by rw [HL.out]; exact hl)
      clear hD hdl
      have hS := Lib.hid (hM.out.bel ⟨rfl, rfl, rfl, Nat.le_refl _, fun _ _ => rfl⟩ : SMade w sb g (.slice A L c) ms wr.drew).keeps
      go_region_held3 (fun W => W.cell? ⟨g, 0, none⟩ = some (.slice A L c) ∧ SMade w sb g (.slice A L c) ms W) (first | exact hS.out | exact hSK | exact keepZ (by assumption) hbK | go_keep)
        (first
          | (go_at_call 21; refine (TN_run _ _ _ (by omega) (by omega) (by exact tapeZ (by assumption))).mono ?_; rintro e WK ⟨r, hr0, hr1, rfl, hsK, hgK⟩; obtain ⟨a, rfl⟩ := Int.eq_ofNat_of_zero_le hr0; have hSK := growZ (by assumption) hsK hgK)
          | (go_at_call 20; refine (rdeclared_run _ 3 ms _ _ HLL.out (by exact memsZ (by assumption))).mono ?_; rintro e WK ⟨rfl, hbK⟩; rw [HD.out]; have hSK := keepZ (by assumption) hbK))
      all_goals
        obtain ⟨R, hR, hRe⟩ := or_mulN (L := L) s Q a hl (by rw [HN.out]; exact hs) (by rw [HN.out]; exact HQL.out) (by omega)
        rw [HN.out] at hR
        have HZ := Lib.hid (And.intro hR (And.intro hSK.2.tape hSK.2.gr))
        have HRE := Lib.hid hRe
        clear hRe hSK
        go_wp2_with fail
        go_ret
        exact ⟨R, by first | rfl | (rw [HRE.out]; rfl), HZ.out⟩
end Go.Proofs.YtacpfcckilnbfaaGreat.D3
namespace Go.Proofs.YtacpfcckilnbfaaGreat
end Go.Proofs.YtacpfcckilnbfaaGreat
