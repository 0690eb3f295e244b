/- The contract of quorums.reach. -/
import Derived.Test.YtoaekbhbbejgmaaQAll
import Derived.Test.YtoaekbhbbejgmaaUses
namespace Go.Proofs.Ytoaekbhbbejgmaa
set_option linter.unusedVariables false
set_option linter.unusedSimpArgs false
open Go.RowKit

/-- Whom a member uses, among the declared ones. -/
def r0S (ms : List Mem) (k : Nat) : Nat := usesT 2 (ms.getD k (false, .mk 0 [] [])).2 &&& declS ms ms.length
def rows1 (ms : List Mem) (j : Nat) : List Nat := (List.range ms.length).map (fun k => if k < j then r0S ms k else 0)
theorem rows1_len (ms : List Mem) (j : Nat) : (rows1 ms j).length = ms.length := by unfold rows1; simp
theorem rows1_zero (ms : List Mem) : rows1 ms 0 = List.replicate ms.length 0 := by
  unfold rows1
  rw [List.eq_replicate_iff]
  refine ⟨by simp, fun b hb => ?_⟩
  obtain ⟨k, _, rfl⟩ := List.mem_map.1 hb
  simp
theorem rows1_succ (ms : List Mem) (j : Nat) (hj : j < ms.length) : rows1 ms (j + 1) = (rows1 ms j).set j (r0S ms j) := by
  unfold rows1
  apply List.ext_getElem?
  intro i
  rw [List.getElem?_set, List.getElem?_map, List.getElem?_map]
  by_cases hi : i < ms.length
  · rw [List.getElem?_range hi]
    by_cases e : j = i
    · subst e; simp [hi]
    · rw [if_neg e]
      by_cases h1 : i < j
      · simp [h1, show i < j + 1 by omega]
      · simp [h1, show ¬ i < j + 1 by omega]
  · rw [List.getElem?_eq_none (by simp; omega)]
    have : j ≠ i := by omega
    simp [this]
/-- A row of n sets. -/
def RowOk (n : Nat) (R : List Nat) : Prop := R.length = n ∧ ∀ x ∈ R, x < 1024
theorem RowOk.get {n : Nat} {R : List Nat} (h : RowOk n R) (k : Nat) : R.getD k 0 < 1024 := by
  rw [List.getD_eq_getElem?_getD]
  cases hk : R[k]? with
  | none => simp
  | some x => exact h.2 x (List.mem_of_getElem? hk)
theorem RowOk.set {n : Nat} {R : List Nat} (h : RowOk n R) (k x : Nat) (hx : x < 1024) : RowOk n (R.set k x) := ⟨by rw [List.length_set]; exact h.1, fun y hy => by
  rcases List.mem_or_eq_of_mem_set hy with h1 | h1
  · exact h.2 y h1
  · subst h1; exact hx⟩
/-- Who is reached by one more node, for the first members. -/
def wkS (b : Nat) (R : List Nat) : Nat → List Nat
  | 0 => R
  | k + 1 => if ((wkS b R k).getD k 0).testBit b then (wkS b R k).set k ((wkS b R k).getD k 0 ||| (wkS b R k).getD b 0) else wkS b R k
theorem wkS_ok {n b : Nat} {R : List Nat} (h : RowOk n R) : ∀ k, RowOk n (wkS b R k)
  | 0 => h
  | k + 1 => by
    unfold wkS
    have ih := wkS_ok (b := b) h k
    split
    · exact ih.set _ _ (Nat.or_lt_two_pow (n := 10) (ih.get _) (ih.get _))
    · exact ih
def wbS (n : Nat) (R : List Nat) : Nat → List Nat
  | 0 => R
  | b + 1 => wkS b (wbS n R b) n
theorem wbS_ok {n : Nat} {R : List Nat} (h : RowOk n R) : ∀ b, RowOk n (wbS n R b)
  | 0 => h
  | b + 1 => by unfold wbS; exact wkS_ok (wbS_ok h b) n
/-- What reach returns. -/
def reachS (ms : List Mem) : List Nat := wbS ms.length (rows1 ms ms.length) ms.length
theorem r0S_lt (ms : List Mem) (hl : ms.length ≤ 10) (k : Nat) : r0S ms k < 1024 := by
  unfold r0S
  exact Nat.lt_of_le_of_lt Nat.and_le_right (declS_lt ms _ hl)
theorem rows1_ok (ms : List Mem) (hl : ms.length ≤ 10) (j : Nat) : RowOk ms.length (rows1 ms j) := ⟨rows1_len ms j, fun x hx => by
  obtain ⟨k, _, rfl⟩ := List.mem_map.1 hx
  split
  · exact r0S_lt ms hl k
  · omega⟩
theorem zsv_set (R : List Nat) (k x : Nat) : ((zs R).map (Value.int .i64)).set k (.int .i64 (x : Int)) = (zs (R.set k x)).map (Value.int .i64) := by
  unfold zs
  rw [List.map_set, List.map_set]
theorem zsv_get {R : List Nat} {k : Nat} (hk : k < R.length) : ((zs R).map (Value.int .i64))[k]? = some (.int .i64 (R.getD k 0 : Nat)) := by
  unfold zs
  rw [List.getElem?_map, List.getElem?_map, List.getD_eq_getElem?_getD, List.getElem?_eq_getElem hk]; rfl
theorem i64_or10 (a b : Nat) (ha : a < 1024) (hb : b < 1024) : bits .or .i64 (a : Int) (b : Int) = ((a ||| b : Nat) : Int) := by
  have hx : a ||| b < 2 ^ 10 := Nat.or_lt_two_pow (by omega) (by omega)
  show IntKind.i64.wrap ((BitVec.ofInt 64 (a : Int) ||| BitVec.ofInt 64 (b : Int)).toNat : Int) = _
  rw [BitVec.toNat_or, ofInt_i64 a (by omega), ofInt_i64 b (by omega), IntKind.wrap_i64]
  omega

set_option maxRecDepth 100000 in
set_option maxHeartbeats 4000000 in
theorem reach_run (P : Nat → Prop) (ms : List Mem) (v : Value) (w : World) (hl : ms.length ≤ 10) (h : MemsAt P 2 w v ms) :
    Calls Try.prog 48 #[.agg #[v]] w fun e w' => ∃ v', e = .returned v' ∧ w'.ownsRow w.heap.size 3 1 v' ms.length ((zs (reachS ms)).map (Value.int .i64)) ∧ Below w.heap.size w w' := by
  obtain ⟨i0, hin, hz0, hz1, hz2⟩ := info_parts infoInt
  obtain ⟨A, c, rfl⟩ := h.slice
  have hb1 : Below w.heap.size w (w.alloc (.cells #[.slice A ms.length c] 27)) := balloc (bref w) _
  have k0 : (w.alloc (.cells #[.slice A ms.length c] 27)).heap[w.heap.size]? = some (.cells #[.slice A ms.length c] 27 (0, 0)) := alloc_at rfl
  have H := Lib.hid (h.below hb1)
  have HB := Lib.hid hb1
  have K0 := Lib.hid k0
  have hdl := declS_lt ms ms.length hl
  have HR0 := Lib.hid (fun k => show r0S ms k = usesT 2 (ms.getD k (false, .mk 0 [] [])).2 &&& declS ms ms.length from rfl)
  have HRL := Lib.hid (r0S_lt ms hl)
  have HR1 := Lib.hid (rows1_succ ms)
  have HRZ := Lib.hid (rows1_zero ms)
  have HRK := Lib.hid (rows1_ok ms hl)
  clear h hb1 k0
  go_enter Try.func48, Try.ntmps48
  go_upto_region 1 with fail
  generalize w.alloc (.cells #[.slice A ms.length c] 27) = W1 at *
  generalize hg : w.heap.size = g at *
  have HG := Lib.hid hg
  clear hg
  have c0 : W1.cell? ⟨g, 0, none⟩ = some (.slice A ms.length c) := cell_of_row _ _ 0 _ _ (0, 0) K0.out
  have hgl := cell_lt c0
  go_wp2_with fail
  refine (declared_run P 2 ms _ _ hl H.out).mono ?_
  rintro e W2 ⟨rfl, hb2⟩
  have HB2 := Lib.hid hb2
  have d0 := (hb2.cell hgl).trans c0
  have HM2 := Lib.hid (H.out.below hb2)
  have hgl2 := cell_lt d0
  obtain ⟨D, hD⟩ : ∃ D, declS ms ms.length = D := ⟨_, rfl⟩
  rw [hD] at hdl HR0 ⊢
  clear hb2 c0 hD
  go_wp2_with (at_make; refine wpList_make_full _ rfl _ _ 22 rfl W2.heap.size 3 i0 (.int .i64 0) 1 Try.underlying22 hin hz0 hz1 .i64 .i64 _ _ ms.length rfl rfl rfl rfl (by rw [hz2]; omega) (by unfold maxLen; omega) (Nat.le_refl _) ?_; intro W3 hown hgrow; have d1 := (World.cell?_of_block (a := ⟨g, 0, none⟩) (hgrow.block g hgl2 (by simp))).trans d0)
  have hbg := (bref W2).grown hgrow (Nat.le_refl _) (fun j hj => by cases hj)
  have HBG := Lib.hid hbg
  have HM3 := Lib.hid (MemsAt.both (Q := fun b => b < W2.heap.size) HM2.out (fun q hq _ => hbg.block q hq) (fun q hq _ => hq))
  have hown0 : W3.ownsRow W2.heap.size 3 1 (.slice (some ⟨W2.heap.size, 0, none⟩) ms.length ms.length) ms.length ((zs (rows1 ms 0)).map (Value.int .i64)) := by
    rw [HRZ.out]
    have : (madeCells (Value.cells (.int .i64 0)) (ms.length * 1)).toList = (zs (List.replicate ms.length 0)).map (Value.int .i64) := by
      rw [Nat.mul_one]
      unfold zs
      rw [List.map_replicate, List.map_replicate]
      apply List.ext_getElem?
      intro i
      rw [Array.getElem?_toList]
      unfold madeCells
      rw [Array.getElem?_map, List.getElem?_replicate]
      by_cases hi : i < ms.length
      · rw [if_pos hi, Array.getElem?_range, if_pos hi]; simp [Value.cells, Nat.mod_one]
      · rw [if_neg hi, Array.getElem?_range, if_neg hi]; rfl
    rw [← this]; exact hown
  have HOWN0 := Lib.hid hown0
  clear hown hown0 hgrow hbg d0
  generalize hrb : W2.heap.size = rb at *
  have HRB := Lib.hid hrb
  have hgl3 : g < W3.heap.size := cell_lt d1
  clear hrb
  go_loopw [18] (fun t W => ∃ (k : Nat), k ≤ ms.length ∧ t = .int .i64 k ∧ Hid (W.ownsRow rb 3 1 (.slice (some ⟨rb, 0, none⟩) ms.length ms.length) ms.length ((zs (rows1 ms k)).map (Value.int .i64))) ∧ Hid (W3.grownBy W (some rb))) (fun t _ => ms.length - (intOf t).toNat)
  case atStart => exact ⟨0, by omega, rfl, HOWN0, Lib.hid (World.grownBy.refl _ _)⟩
  case round =>
    clear HOWN0
    obtain ⟨k, hk, rfl, hO, hG⟩ := hrel
    by_cases hlt : k < ms.length
    · obtain ⟨m, hm⟩ : ∃ m, ms[k]? = some m := ⟨_, List.getElem?_eq_getElem hlt⟩
      have hwr := hG.out.size
      have hMk := MemsAt.both (Q := fun b => b < rb) HM3.out (fun q hq hP => hG.out.block q hq (by simp; omega)) (fun _ _ h => h)
      obtain ⟨b, off, t, A1, n1, c1, A2, n2, c2, rfl, hP, hbl, e0, e1, e2, e3, hT⟩ := memBox hMk hm
      obtain ⟨dec, T⟩ := m
      have hba := balloc (bref wr) (.cells #[.bool dec, .int .i64 t, .slice A1 n1 c1, .slice A2 n2 c2] 44)
      have hTA := Lib.hid (hT.below hba)
      have d2 := (World.cell?_of_block (a := ⟨g, 0, none⟩) (hG.out.block g hgl3 (by simp; omega))).trans d1
      have HBA := Lib.hid hba
      have HRS := Lib.hid (show r0S ms k = usesT 2 T &&& D by rw [HR0.out, List.getD_eq_getElem?_getD, hm]; rfl)
      have hul := usesT_lt 2 T
      have HAND := Lib.hid (i64_and_nat (usesT 2 T) D (by omega) (by omega))
      rw [← HRS.out] at HAND
      have HOA := Lib.hid (hO.out.alloc (.cells #[.bool dec, .int .i64 t, .slice A1 n1 c1, .slice A2 n2 c2] 44))
      clear hm hT hba hMk
      go_wp2_with fail
      refine (puses_run _ 2 T _ _ _ _ hTA.out).mono ?_
      rintro e W5 ⟨rfl, hb5⟩
      have ho5 := own_keepG HOA.out (fun j _ _ hl => hb5.block j hl)
      have hlen : k < (rows1 ms k).length := by rw [rows1_len]; exact hlt
      have q0 := (ho5.cellAt k (by omega)).trans (zsv_get hlen)
      have qf := ho5.frozenAt k
      have hst := ho5.stored k (.int .i64 (r0S ms k : Nat))
      rw [zsv_set, ← HR1.out k hlt] at hst
      have HO2 := Lib.hid hst.1
      have HG2 := Lib.hid (grown_trans (grown_trans hG.out (grown_below (r := some rb) (bstep HBA.out hb5))) hst.2)
      clear ho5 hst hb5 hlen
      go_wp2_with fail
      rw [HAND.out]
      go_roundw
      case rel => exact ⟨k + 1, by omega, by go_num, HO2, HG2⟩
      case measure => simp [intOf]; omega
    · obtain rfl : k = ms.length := by omega
      have hwr := hG.out.size
      have HK1 := Lib.hid (HRK.out ms.length)
      have HRE := Lib.hid (show reachS ms = wbS ms.length (rows1 ms ms.length) ms.length from rfl)
      have d2 := (World.cell?_of_block (a := ⟨g, 0, none⟩) (hG.out.block g hgl3 (by simp; omega))).trans d1
      have HG1 := Lib.hid (show Below g w wr from by
        have h1 := HB.out
        rw [← HG.out] at h1
        have h0 := HBG.out
        rw [← HRB.out] at h0
        have h2 := bstep (bstep h1 HB2.out) h0
        have h3 := h2.grown hG.out h2.size (fun q hq => by obtain rfl := Option.some.inj hq; have := HG.out; omega)
        rwa [HG.out] at h3)
      generalize rows1 ms ms.length = R0 at *
      clear HM3 HBG HB2 d1 hgl3 hG H K0 HB HM2 HR0 HRL HR1 HRZ HRK
      obtain ⟨W6, hW6⟩ : ∃ x, x = wr := ⟨_, rfl⟩
      subst hW6
      go_wp2_with fail
      go_loopw [35] (fun t W => ∃ (b : Nat), b ≤ ms.length ∧ t = .int .i64 b ∧ Hid (W.ownsRow rb 3 1 (.slice (some ⟨rb, 0, none⟩) ms.length ms.length) ms.length ((zs (wbS ms.length R0 b)).map (Value.int .i64))) ∧ Hid (W6.grownBy W (some rb))) (fun t _ => ms.length - (intOf t).toNat)
      case atStart => exact ⟨0, by omega, rfl, hO, Lib.hid (World.grownBy.refl _ _)⟩
      case round =>
        clear hO
        obtain ⟨b, hb, rfl, hO, hG⟩ := hrel
        have hgl6 := cell_lt d2
        have d3 := (World.cell?_of_block (a := ⟨g, 0, none⟩) (hG.out.block g hgl6 (by simp; omega))).trans d2
        by_cases hlt : b < ms.length
        · have HW := Lib.hid (show wkS b (wbS ms.length R0 b) ms.length = wbS ms.length R0 (b + 1) from rfl)
          have HKB := Lib.hid (wbS_ok HK1.out b)
          generalize wbS ms.length R0 b = Rb at *
          obtain ⟨W7, hW7⟩ : ∃ x, x = wr := ⟨_, rfl⟩
          subst hW7
          go_wp2_with fail
          go_loopw [41] (fun t W => ∃ (k : Nat), k ≤ ms.length ∧ t = .int .i64 k ∧ Hid (W.ownsRow rb 3 1 (.slice (some ⟨rb, 0, none⟩) ms.length ms.length) ms.length ((zs (wkS b Rb k)).map (Value.int .i64))) ∧ Hid (W7.grownBy W (some rb))) (fun t _ => ms.length - (intOf t).toNat)
          case atStart => exact ⟨0, by omega, rfl, hO, Lib.hid (World.grownBy.refl _ _)⟩
          case round =>
            clear hO
            obtain ⟨k, hk, rfl, hO, hG7⟩ := hrel
            by_cases hltk : k < ms.length
            · have hok := wkS_ok (b := b) HKB.out k
              have HWK := Lib.hid (show wkS b Rb (k + 1) = if ((wkS b Rb k).getD k 0).testBit b then (wkS b Rb k).set k ((wkS b Rb k).getD k 0 ||| (wkS b Rb k).getD b 0) else wkS b Rb k from rfl)
              generalize wkS b Rb k = Q at *
              have q0 := (hO.out.cellAt k (by omega)).trans (zsv_get (by rw [hok.1]; exact hltk))
              have q1 := (hO.out.cellAt b (by omega)).trans (zsv_get (by rw [hok.1]; exact hlt))
              have qf := hO.out.frozenAt k
              have hx := hok.get k
              have hy := hok.get b
              have hst := hO.out.stored k (.int .i64 ((Q.getD k 0 ||| Q.getD b 0 : Nat) : Int))
              rw [zsv_set] at hst
              have HHB := Lib.hid (hasB_bit hx (show b < 10 by omega))
              have HOR := Lib.hid (i64_or10 _ _ hx hy)
              have HST := Lib.hid hst
              generalize hqs : Q.set k (Q.getD k 0 ||| Q.getD b 0) = Q2 at *
              generalize Q.getD k 0 = x at *
              generalize Q.getD b 0 = y at *
              clear hst hqs
              rcases (show x.testBit b = false ∨ x.testBit b = true by cases x.testBit b <;> simp) with hq | hq
              · rw [hq] at HHB HWK
                have HO2 := Lib.hid (show wr.ownsRow rb 3 1 (.slice (some ⟨rb, 0, none⟩) ms.length ms.length) ms.length ((zs (wkS b Rb (k + 1))).map (Value.int .i64)) by rw [HWK.out]; exact hO.out)
                clear hq
                go_wp2_with fail
                refine (has_run _ _ _).mono ?_
                rintro e w2 ⟨rfl, rfl⟩
                rw [HHB.out]
                go_wp2_with fail
                go_roundw
                case rel => exact ⟨k + 1, by omega, by go_num, HO2, hG7⟩
                case measure => simp [intOf]; omega
              · rw [hq] at HHB HWK
                have HO2 := Lib.hid (show (wr.setCell ⟨rb, k, none⟩ (.int .i64 ((x ||| y : Nat) : Int))).ownsRow rb 3 1 (.slice (some ⟨rb, 0, none⟩) ms.length ms.length) ms.length ((zs (wkS b Rb (k + 1))).map (Value.int .i64)) by rw [HWK.out]; exact HST.out.1)
                have HG2 := Lib.hid (grown_trans hG7.out HST.out.2)
                clear hq
                go_wp2_with fail
                refine (has_run _ _ _).mono ?_
                rintro e w2 ⟨rfl, rfl⟩
                rw [HHB.out]
                go_wp2_with fail
                go_region
                rw [HOR.out]
                have HO3 := Lib.hid (show (wr.setCell ⟨rb, k, none⟩ (.int .i64 ((x ||| y : Nat) : Int))).drew.ownsRow rb 3 1 (.slice (some ⟨rb, 0, none⟩) ms.length ms.length) ms.length ((zs (wkS b Rb (k + 1))).map (Value.int .i64)) from HO2.out)
                have HG3 := Lib.hid (gdrew HG2.out)
                clear HO2 HG2 q0 q1 qf
                generalize (wr.setCell ⟨rb, k, none⟩ (.int .i64 ((x ||| y : Nat) : Int))).drew = W9 at *
                go_wp2_with fail
                go_roundw
                case rel => exact ⟨k + 1, by omega, by go_num, HO3, HG3⟩
                case measure => simp [intOf]; omega
            · obtain rfl : k = ms.length := by omega
              have HO2 := Lib.hid (show wr.ownsRow rb 3 1 (.slice (some ⟨rb, 0, none⟩) ms.length ms.length) ms.length ((zs (wbS ms.length R0 (b + 1))).map (Value.int .i64)) by rw [← HW.out]; exact hO.out)
              have HG2 := Lib.hid (grown_trans hG.out hG7.out)
              go_wp2_with fail
              go_roundw
              case rel => exact ⟨b + 1, by omega, by go_num, HO2, HG2⟩
              case measure => simp [intOf]; omega
        · obtain rfl : b = ms.length := by omega
          have HF := Lib.hid (show wr.ownsRow g 3 1 (.slice (some ⟨rb, 0, none⟩) ms.length ms.length) ms.length ((zs (reachS ms)).map (Value.int .i64)) ∧ Below g w wr from by
            rw [HRE.out]
            have hrb : g ≤ rb := by have := HRB.out; omega
            refine ⟨?_, HG1.out.grown hG.out (by have h1 := HG1.out.size; have h2 := HG.out; omega) (fun q hq => by obtain rfl := Option.some.inj hq; exact hrb)⟩
            obtain ⟨h1, h2⟩ := hO.out
            refine ⟨h1, ?_⟩
            rcases h2 with h2 | ⟨gg, cap, cur, e1, e2, e3⟩
            · exact .inl h2
            · exact .inr ⟨gg, cap, cur, e1, Nat.le_trans hrb e2, e3⟩)
          go_wp2_with fail
          go_ret
          exact ⟨_, rfl, by rw [HG.out]; exact HF.out⟩
end Go.Proofs.Ytoaekbhbbejgmaa
