/- The contracts of mk.Sets and mk.In. -/
import Derived.Test.YtbbdmaakphoofaaDoorOrderRun
import Derived.Test.YtbbdmaakphoofaaDoorNLeast
namespace Go.Proofs.YtbbdmaakphoofaaDoor
set_option linter.unusedVariables false
set_option linter.unusedSimpArgs false
open Go.RowKit

theorem own_grown {w W W2 : World} {sb : Nat} {v : Value} {n : Nat} {vs : List Value} (h : W.ownsRow w.heap.size 3 1 v n vs) (hs : sb < w.heap.size) (hg : W.grownBy W2 (some sb)) : W2.ownsRow w.heap.size 3 1 v n vs := by
  refine ⟨h.1, ?_⟩
  rcases h.2 with h2 | ⟨gg, cap, cur, e1, e2, e3, e4⟩
  · exact .inl h2
  · exact .inr ⟨gg, cap, cur, e1, e2, (hg.block gg (Array.getElem?_eq_some_iff.1 e3).1 (by simp; omega)).trans e3, e4⟩
theorem grown_more {w W W' : World} {r : Option Nat} {sb : Nat} (h : w.grownBy W (some sb)) (hg : W.grownBy W' r) (hr : ∀ j, r = some j → w.heap.size ≤ j) : w.grownBy W' (some sb) :=
  ⟨hg.os.trans h.os, hg.tape.trans h.tape, hg.output.trans h.output, Nat.le_trans h.size hg.size, fun k hk hne => (hg.block k (Nat.lt_of_lt_of_le hk h.size) (fun e => by have := hr k (by first | exact e | exact e.symm); omega)).trans (h.block k hk hne)⟩
theorem nlt_zero (k : Nat) (h : ¬ 0 < k) : k = 0 := by omega

set_option maxRecDepth 100000 in
set_option maxHeartbeats 4000000 in
theorem msets_run (w : World) (sb n m : Nat) (hn : n ≤ 1000) (hm : m ≤ 10) (hs : TapeOk w sb) :
    Calls Tryd.prog 25 #[.pointer (some ⟨sb, 0, none⟩), .int .i64 (n : Int), .int .i64 (m : Int)] w fun e w' => ∃ v ls, e = .returned v ∧ List.length ls ≤ n ∧ (∀ t ∈ ls, t < 2 ^ m) ∧ w'.ownsRow w.heap.size 3 1 v ls.length ((zs ls).map (Value.int .i64)) ∧ TapeOk w' sb ∧ w.grownBy w' (some sb) := by
  obtain ⟨i0, hi, hz0, hz1, hz2⟩ := info_parts infoInt
  have HS := Lib.hid hs
  have hsl := hs.lt
  have hp := pow11 m (by omega)
  have h10 : 2 ^ m ≤ 2 ^ 10 := Nat.pow_le_pow_right (by omega) hm
  have h1p : 1 ≤ 2 ^ m := Nat.one_le_two_pow
  obtain ⟨N, hN⟩ : ∃ N, 2 ^ m = N := ⟨_, rfl⟩
  rw [hN] at hp h10 h1p ⊢
  clear hs hN
  have hmm0 : (0 : Int) ≤ (m : Int) := by omega
  have hmm64 : ¬ (64 : Int) ≤ (m : Int) := by omega
  go_enter Tryd.func25, Tryd.ntmps25
  go_wp2_with fail
  refine (TN_run _ sb _ (by omega) (by omega) HS.out).mono ?_
  rintro e W2 ⟨r, hr0, hr1, rfl, hs2, hg2⟩
  obtain ⟨R, rfl⟩ := Int.eq_ofNat_of_zero_le hr0
  have hR : R ≤ n := by omega
  have HS2 := Lib.hid hs2
  have HG2 := Lib.hid hg2
  clear hs2 hg2 hr0 hr1 HS
  go_wp2_with fail
  go_loopw [7, 8] (fun v t W => ∃ (k : Nat) (l : List Nat) (vv : Value), l.length + k ≤ n ∧ v = vv ∧ t = .int .i64 k ∧ W.ownsRow w.heap.size 3 1 vv l.length ((zs l).map (Value.int .i64)) ∧ Hid (∀ t ∈ l, t < N) ∧ Hid (TapeOk W sb) ∧ Hid (w.grownBy W (some sb))) (fun _ t _ => (intOf t).toNat)
  case atStart => exact ⟨R, [], .slice none 0 0, by simp; omega, rfl, rfl, World.ownsRow_nil _ _ _ _, Lib.hid (by simp), HS2, HG2⟩
  case round =>
    obtain ⟨k, l, v, hk, hv, rfl, hown, hL, hT, hG⟩ := hrel
    replace hv := hv.symm
    subst hv
    by_cases hpos : 0 < k
    · have hownk := hown
      clear hown
      go_wp2_with fail
      refine (TN_run _ sb _ (by omega) (by omega) hT.out).mono ?_
      rintro e W5 ⟨x, hx0, hx1, rfl, hs5, hg5⟩
      obtain ⟨X, rfl⟩ := Int.eq_ofNat_of_zero_le hx0
      have hX : X < N := by omega
      have hown := own_grown hownk hsl hg5
      have HS5 := Lib.hid hs5
      have HG5 := Lib.hid (grown_trans hG.out hg5)
      have hs0 := (grown_trans hG.out hg5).size
      have HL2 := Lib.hid (show ∀ t ∈ l ++ [X], t < N from fun t ht => by
        rcases List.mem_append.1 ht with h1 | h1
        · exact hL.out t h1
        · rw [List.mem_singleton.1 h1]; exact hX)
      have hzl := zs_len l
      clear hownk hs5 hg5 hx0 hx1 hX
      go_wp2_with (at_builtin; refine wpList_append_own _ rfl _ _ 22 rfl w.heap.size 3 i0 (.int .i64 0) 1 8 Tryd.underlying22 hi hz0 hz1 hz2 rfl (by decide) _ _ _ rfl (hown.alloc _) ⟨W5.heap.size, 0, none⟩ 1 1 [.int .i64 (X : Int)] rfl rfl (cell_one_new _ _ _) (fun u hu => by simp at hu; subst hu; rfl) (by unfold maxLen; omega) (by omega) (by simp; omega) ?_; intro v' w1 hown' hgrow hnil)
      have HO := Lib.hid (own_snocZ hown')
      have hg6 := grown_trans HG5.out (grown_below (r := some sb) (balloc (bref W5) (.cells #[.int .i64 (X : Int)] 3)))
      have HG6 := Lib.hid (grown_more hg6 hgrow (fun j hj => (hown.lt j hj).1))
      have HT6 := Lib.hid ((HS5.out.alloc (.cells #[.int .i64 (X : Int)] 3)).keepLow (fun k hk => hgrow.block k (by simp; omega) (fun e => by have := (hown.lt k (by first | exact e | exact e.symm)).1; omega)))
      clear hown' hgrow hnil hown hg6
      go_wp2_with fail
      go_roundw
      case rel => exact ⟨k - 1, l ++ [X], _, by simp; omega, rfl, by go_num, HO.out, HL2, HT6, HG6⟩
      case measure => simp [intOf]; omega
    · obtain rfl := nlt_zero k hpos
      have HOWN := Lib.hid hown
      clear hown
      go_wp2_with fail
      go_ret
      exact ⟨_, l, rfl, by omega, hL.out, HOWN.out, hT.out, hG.out⟩

set_option maxHeartbeats 1000000 in
theorem mkin_run (P : Nat → Prop) (v : Value) (ls : List Nat) (x : Nat) (w : World) (hl : ls.length ≤ 1000000) (hN : NodesAt P w v (zs ls)) :
    Calls Tryd.prog 28 #[v, .int .i64 (x : Int)] w fun e w' => e = .returned (.bool (decide (x ∈ ls))) ∧ Below w.heap.size w w' := by
  obtain ⟨A, c, rfl, hN2⟩ := hN
  rw [zs_len] at hN2 ⊢
  have H := Lib.hid hN2
  clear hN2
  go_enter Tryd.func28, Tryd.ntmps28
  go_wp2_with fail
  go_loopw [9] (fun t W => ∃ k : Nat, k ≤ ls.length ∧ t = .int .i64 k ∧ Hid (x ∉ ls.take k) ∧ Hid (Below w.heap.size w W)) (fun t _ => ls.length - (intOf t).toNat)
  case atStart => exact ⟨0, Nat.zero_le _, rfl, Lib.hid (by simp), Lib.hid (bref _)⟩
  case round =>
    obtain ⟨k, hk, rfl, hA, hB⟩ := hrel
    by_cases hlt : k < ls.length
    · obtain ⟨b, off, rfl, hPb, hcc⟩ := H.out k hlt
      have hx0 : ls[k]? = some (ls.getD k 0) := by rw [List.getD_eq_getElem?_getD, List.getElem?_eq_getElem hlt]; rfl
      have hxm := List.mem_of_getElem? hx0
      rw [zs_get] at hcc
      have hc2 := (World.cell?_of_block (a := ⟨b, off + k, none⟩) (hB.out.block b (cell_lt hcc))).trans hcc
      have HTK := Lib.hid (show ls.take (k + 1) = ls.take k ++ [ls.getD k 0] by rw [List.take_add_one, hx0]; rfl)
      clear hx0 hPb hcc
      generalize ls.getD k 0 = y at *
      by_cases hxy : x = y
      · subst hxy
        have HV := Lib.hid (decide_eq_true hxm)
        clear hxm
        go_wp2_with fail
        go_ret
        exact ⟨by rw [HV.out]; rfl, by first | exact hB.out | exact bdrew hB.out⟩
      · have HA2 := Lib.hid (show x ∉ ls.take (k + 1) by rw [HTK.out, List.mem_append, List.mem_singleton]; exact fun h => h.elim hA.out hxy)
        have hne : ((x : Int) == (y : Int)) = false := by rw [beq_eq_false_iff_ne]; omega
        clear hxm
        go_wp2_with fail
        go_roundw
        case rel => exact ⟨k + 1, hlt, by go_num, HA2, by first | exact hB | exact Lib.hid (bdrew hB.out)⟩
        case measure => simp [intOf]; omega
    · obtain rfl : k = ls.length := by omega
      have HV := Lib.hid (decide_eq_false (show x ∉ ls by have := hA.out; rwa [List.take_length] at this))
      go_wp2_with fail
      go_ret
      exact ⟨by rw [HV.out]; rfl, hB.out⟩
end Go.Proofs.YtbbdmaakphoofaaDoor
