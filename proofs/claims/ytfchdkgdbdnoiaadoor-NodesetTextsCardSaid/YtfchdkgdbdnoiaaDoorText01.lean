/- The contracts of nodeset.Nodes and nodeset.Text. -/
import Derived.Test.YtfchdkgdbdnoiaaDoorFind
import Derived.Test.YtfchdkgdbdnoiaaDoorShelf
namespace Go.Proofs.YtfchdkgdbdnoiaaDoor
set_option linter.unusedVariables false
set_option linter.unusedSimpArgs false
open Go.RowKit

theorem hasN_bit {S K : Nat} (hS : S < 1024) (hK : K < 10) : hasB (S : Int) (K : Int) = S.testBit K := by
  unfold hasB
  have h1 : setB (S : Int) = true := setB_iff.2 ⟨by omega, by omega⟩
  have h2 : nodeB (K : Int) = true := nodeB_iff.2 ⟨by omega, by omega⟩
  simp [h1, h2]

/-- The nodes of a set below k, ascending. -/
def nodN (s k : Nat) : List Nat := (List.range k).filter (fun i => s.testBit i)

theorem nodN_succ (s k : Nat) : nodN s (k + 1) = if s.testBit k then nodN s k ++ [k] else nodN s k := by
  unfold nodN
  rw [List.range_succ, List.filter_append]
  cases h : s.testBit k <;> simp [h]

theorem nodN_len (s k : Nat) : (nodN s k).length ≤ k := by unfold nodN; exact Nat.le_trans (List.length_filter_le _ _) (by simp)

theorem nodN_lt {s k i : Nat} (h : i ∈ nodN s k) : i < k := List.mem_range.1 (List.mem_filter.1 h).1

set_option maxRecDepth 100000 in
set_option maxHeartbeats 2000000 in
theorem pnodN_run (s : Nat) (w : World) (hs : s < 1024) :
    Calls Tryd.prog 7 #[.int .i64 (s : Int)] w fun e w' => ∃ v, e = .returned v ∧ w'.ownsRow w.heap.size 3 1 v (nodN s 10).length ((zs (nodN s 10)).map (Value.int .i64)) ∧ Below w.heap.size w w' := by
  obtain ⟨i0, hin, hz0, hz1, hz2⟩ := info_parts infoInt
  go_enter Tryd.func7, Tryd.ntmps7
  go_wp2_with fail
  go_loopw [3, 5] (fun v t W => ∃ (k : Nat) (vv : Value), k ≤ 10 ∧ v = vv ∧ t = .int .i64 k ∧ W.ownsRow w.heap.size 3 1 vv (nodN s k).length ((zs (nodN s k)).map (Value.int .i64)) ∧ Hid (Below w.heap.size w W)) (fun _ t _ => 10 - (intOf t).toNat)
  case atStart => exact ⟨0, .slice none 0 0, by omega, rfl, rfl, World.ownsRow_nil _ _ _ _, Lib.hid (bref _)⟩
  case round =>
    obtain ⟨k, v, hk, hv, rfl, hown, hB⟩ := hrel
    replace hv := hv.symm
    subst hv
    have hlen := nodN_len s k
    by_cases hlt : k < 10
    · have hbs := hB.out.size
      have hbit := hasN_bit hs hlt
      rcases (show s.testBit k = false ∨ s.testBit k = true by cases s.testBit k <;> simp) with hb | hb
      · rw [hb] at hbit
        have hn := Lib.hid (show nodN s (k + 1) = nodN s k by rw [nodN_succ, hb]; rfl)
        have HOWN := Lib.hid hown
        clear hb hown
        go_wp2_with fail
        refine (has_run _ _ _).mono ?_
        rintro e w2 ⟨rfl, rfl⟩
        rw [hbit]
        go_wp2_with fail
        go_roundw
        case rel => exact ⟨k + 1, _, by omega, rfl, by go_num, by rw [hn.out]; exact HOWN.out, hB⟩
        case measure => simp [intOf]; omega
      · rw [hb] at hbit
        have hn := Lib.hid (show nodN s (k + 1) = nodN s k ++ [k] by rw [nodN_succ, hb]; rfl)
        have hzl := zs_len (nodN s k)
        clear hb
        go_wp2_with fail
        refine (has_run _ _ _).mono ?_
        rintro e w2 ⟨rfl, rfl⟩
        rw [hbit]
        go_wp2_with (at_builtin; refine wpList_append_own _ rfl _ _ 28 rfl w.heap.size 3 i0 (.int .i64 0) 1 8 Tryd.underlying28 hin hz0 hz1 hz2 rfl (by decide) _ _ _ rfl (hown.alloc _) ⟨wr.heap.size, 0, none⟩ 1 1 [.int .i64 (k : Int)] rfl rfl (cell_one_new _ _ _) (fun u hu => by simp at hu; subst hu; rfl) (by unfold maxLen; omega) (by omega) (by simp; omega) ?_; intro v' w1 hown' hgrow hnil)
        have HO := Lib.hid (own_snocZ hown')
        have HB4 := Lib.hid (Below.grown (balloc hB.out (.cells #[.int .i64 (k : Int)] 3)) hgrow (by simp; omega) (fun j hj => (hown.lt j hj).1))
        clear hown' hgrow hnil hown
        go_roundw
        case rel => exact ⟨k + 1, _, by omega, rfl, by go_num, by rw [hn.out]; exact HO.out, HB4⟩
        case measure => simp [intOf]; omega
    · obtain rfl : k = 10 := by omega
      have HO := Lib.hid hown
      obtain ⟨Av, cv, hv⟩ := own_slice hown
      subst hv
      clear hown
      go_wp2_with fail
      go_ret
      exact ⟨_, rfl, HO.out, hB.out⟩

theorem infoString : (Tryd.prog.info? 9).map (fun i => (i.zero, i.size, i.bytes)) = some (some (.string ⟨#[]⟩), 1, 16) := by kernel_rfl

/-- A node's numeral. -/
def digN (k : Nat) : ByteArray := ⟨(Lib.decDigits k).toArray⟩

def wordsV (l : List Nat) : List Value := l.map (fun k => Value.string (digN k))

/-- The text of a set. -/
def joinN (s : Nat) : List UInt8 := Lib.join (((nodN s 10).map digN).map (·.data.toList)) [32]

theorem ownS_cells {W : World} {B n : Nat} {v : Value} {xs : List Value} (h : W.ownsRow B 9 1 v n xs) : ∃ A c, v = .slice A n c := by
  rcases h.2 with ⟨hv, h0⟩ | ⟨g, cap, cur, hv, _⟩
  · exact ⟨none, 0, by rw [hv, h0]⟩
  · exact ⟨_, _, hv⟩

set_option maxRecDepth 100000 in
theorem joinN_len (s : Nat) (hs : s < 1024) : (joinN s).length ≤ 40 := by
  have all : ∀ s : Fin 1024, (joinN s.val).length ≤ 40 := by decide +kernel
  exact all ⟨s, hs⟩

def textN (s : Nat) : List UInt8 := 123 :: joinN s ++ [125]

theorem cat3 (js : List UInt8) : ((⟨#[123]⟩ : ByteArray) ++ (⟨js.toArray⟩ : ByteArray) ++ (⟨#[125]⟩ : ByteArray)) = ⟨(123 :: js ++ [125]).toArray⟩ := by
  apply ByteArray.ext
  rw [ByteArray.data_append, ByteArray.data_append]
  apply Array.ext'
  simp

set_option maxRecDepth 100000 in
set_option maxHeartbeats 4000000 in
theorem ptext_run (s : Nat) (w : World) (hs : s < 1024) :
    Calls Tryd.prog 5 #[.int .i64 (s : Int)] w fun e w' => e = .returned (.string ⟨(textN s).toArray⟩) ∧ Below w.heap.size w w' := by
  obtain ⟨i0, hin, hz0, hz1, hz2⟩ := info_parts infoString
  have hsv := Lib.hid (show setB (s : Int) = true from setB_iff.2 ⟨by omega, by omega⟩)
  have HLT := Lib.hid (fun i (h : i ∈ nodN s 10) => nodN_lt h)
  have hnl := nodN_len s 10
  have HJ := Lib.hid (show joinN s = Lib.join (((nodN s 10).map digN).map (·.data.toList)) [32] from rfl)
  have HJL := Lib.hid (joinN_len s hs)
  have HTX := Lib.hid (show textN s = 123 :: joinN s ++ [125] from rfl)
  have HPN := Lib.hid (fun W => pnodN_run s W hs)
  generalize joinN s = js at *
  generalize nodN s 10 = L at *
  go_enter Tryd.func5, Tryd.ntmps5
  go_wp2_with fail
  refine (setValid_run _ _).mono ?_
  rintro e w2 ⟨rfl, rfl⟩
  rw [hsv.out]
  go_wp2_with fail
  refine (HPN.out _).mono ?_
  rintro e W2 ⟨vn, rfl, ho2, hb2⟩
  have HN := Lib.hid (NodesAt.of_ownZ ho2)
  have HB := Lib.hid hb2
  obtain ⟨A2, c2, hv2⟩ := own_slice ho2
  subst hv2
  clear ho2 hb2 HPN
  go_wp2_with fail
  go_loopw [3, 12] (fun v t W => ∃ (k : Nat) (vv : Value), k ≤ L.length ∧ v = vv ∧ t = .int .i64 k ∧ W.ownsRow W2.heap.size 9 1 vv k (wordsV (L.take k)) ∧ Hid (Below W2.heap.size W2 W)) (fun _ t _ => L.length - (intOf t).toNat)
  case atStart => exact ⟨0, .slice none 0 0, Nat.zero_le _, rfl, rfl, World.ownsRow_nil _ _ _ _, Lib.hid (bref _)⟩
  case round =>
    obtain ⟨k, v, hk, hv, rfl, hown, hB⟩ := hrel
    replace hv := hv.symm
    subst hv
    by_cases hlt : k < L.length
    · obtain ⟨A', c', e1, e2⟩ := HN.out
      rw [zs_len] at e1 e2
      cases e1
      obtain ⟨b, off, rfl, _, hcc⟩ := e2 k hlt
      have hx0 : L[k]? = some (L.getD k 0) := by rw [List.getD_eq_getElem?_getD, List.getElem?_eq_getElem hlt]; rfl
      have HTK := Lib.hid (show wordsV (L.take (k + 1)) = wordsV (L.take k) ++ [Value.string (digN (L.getD k 0))] by
        unfold wordsV
        rw [List.take_add_one, hx0, List.map_append]; rfl)
      have hx10 := HLT.out _ (List.mem_of_getElem? hx0)
      rw [zs_get] at hcc
      have hc2 := (World.cell?_of_block (a := ⟨b, off + k, none⟩) (hB.out.block b (cell_lt hcc))).trans hcc
      have hbs := hB.out.size
      have hwl : (wordsV (L.take k)).length = k := by unfold wordsV; simp; omega
      clear hx0 e2 hcc
      generalize L.getD k 0 = x at *
      have HIT := Lib.hid (fun W => Tryd.strconv_Itoa_small x (by omega) W)
      have HDG := Lib.hid (show digN x = ⟨(Lib.decDigits x).toArray⟩ from rfl)
      generalize (⟨(Lib.decDigits x).toArray⟩ : ByteArray) = dg at *
      generalize wordsV (L.take k) = wk at *
      go_wp2_with fail
      refine (HIT.out _).mono ?_
      rintro e w5 ⟨rfl, rfl⟩
      go_wp2_with (at_builtin; refine wpList_append_own _ rfl _ _ 34 rfl W2.heap.size 9 i0 (.string ⟨#[]⟩) 1 16 Tryd.underlying34 hin hz0 hz1 hz2 rfl (by decide) _ _ _ rfl (hown.alloc _) ⟨w5.heap.size, 0, none⟩ 1 1 [.string dg] rfl rfl (cell_one_new _ _ _) (fun u hu => by simp at hu; subst hu; rfl) (by unfold maxLen; omega) (by omega) (by simp; omega) ?_; intro v' w1 hown' hgrow hnil)
      have HO := Lib.hid (show w1.ownsRow W2.heap.size 9 1 v' (k + 1) (wordsV (L.take (k + 1))) by rw [HTK.out, HDG.out]; exact hown')
      have HB4 := Lib.hid (Below.grown (balloc hB.out (.cells #[.string dg] 9)) hgrow (by simp; omega) (fun j hj => (hown.lt j hj).1))
      clear hown' hgrow hnil hown
      go_roundw
      case rel => exact ⟨k + 1, _, hlt, rfl, by go_num, HO.out, HB4⟩
      case measure => simp [intOf]; omega
    · obtain rfl : k = L.length := by omega
      rw [List.take_length] at hown
      have hbs := hB.out.size
      have HJN := Lib.hid (fun bk o c xs w h1 h2 h3 h4 h5 => Tryd.strings_Join bk o c xs ⟨#[32]⟩ w h1 h2 h3 h4 h5)
      have HJ0 := Lib.hid (fun a c w => Tryd.strings_Join_none a c ⟨#[32]⟩ w)
      have HBW := Lib.hid (bstep HB.out hB.out)
      rcases hown.2 with ⟨hv, h0⟩ | ⟨gg, cap, cur, hv, hgb, hcell, hnc, hcm, hcs, htk⟩
      · have hL0 := List.eq_nil_of_length_eq_zero h0
        subst hv
        subst hL0
        have hj0 : js = [] := by rw [HJ.out]; rfl
        subst hj0
        clear hown
        go_wp2_with fail
        refine (HJ0.out _ _ _).mono ?_
        rintro e w5 ⟨rfl, rfl⟩
        go_wp2_with fail
        go_ret
        exact ⟨by rw [HTX.out, ← cat3]; rfl, HBW.out⟩
      · subst hv
        have hcells : ∀ (j : Nat) x, (L.map digN)[j]? = some x → wr.cell? ⟨gg, 0 + j, none⟩ = some (.string x) := fun j x hx => by
          have hu : (wordsV L)[j]? = some (.string x) := by
            unfold wordsV
            rw [List.getElem?_map] at hx ⊢
            cases hl : L[j]? with
            | none => rw [hl] at hx; cases hx
            | some y => rw [hl] at hx; simp only [Option.map_some, Option.some.injEq] at hx ⊢; rw [hx]
          have := hown.cells (g := gg) rfl j _ hu
          rwa [Addr.add_lit] at this
        have hgl : gg < wr.heap.size := (Array.getElem?_eq_some_iff.1 hcell).1
        have hjl := HJN.out gg 0 cap (L.map digN) wr hcells hgl (by rw [List.length_map]; omega) (by rw [List.length_map]; exact hnc) (by
          have h1 := HJL.out
          rw [HJ.out] at h1
          exact Nat.le_trans h1 (by decide))
        rw [List.length_map] at hjl
        have HJC := Lib.hid hjl
        have HJQ := Lib.hid (show Lib.join ((L.map digN).map (·.data.toList)) (⟨#[32]⟩ : ByteArray).data.toList = js from HJ.out.symm)
        rw [HJQ.out] at HJC
        clear hjl hcells hcell hcs htk hown hgb
        go_wp2_with fail
        refine HJC.out.mono ?_
        rintro e w5 ⟨rfl, hb5⟩
        have HB5 := Lib.hid (bstep HBW.out hb5)
        clear hb5
        have hl1 := HJL.out
        have hc1 : ¬ 9223372036854775807 < 1 + js.length := by omega
        have hc2 : ¬ 9223372036854775807 < 1 + js.length + 1 := by omega
        go_wp2_with fail
        go_ret
        exact ⟨by rw [HTX.out, ← cat3]; rfl, HB5.out⟩

end Go.Proofs.YtfchdkgdbdnoiaaDoor
