/- The walk of Tape.Order. -/
import Derived.Test.YtfghnkgllmofgaaOrder
namespace Go.Proofs.Ytfghnkgllmofgaa
set_option linter.unusedVariables false
set_option linter.unusedSimpArgs false
open Go.RowKit

theorem gset {w a : World} {r : Option Nat} (h : w.grownBy a r) {p : Addr} (hp : w.heap.size ≤ p.block) (u : Value) : w.grownBy (a.setCell p u) r :=
  ⟨h.os, h.tape, h.output, by simpa [World.setCell] using h.size, fun k hk hr => (Below.heap_setCell _ _ _ _ (by omega)).trans (h.block k hk hr)⟩

theorem gdrew {w a : World} {r : Option Nat} (h : w.grownBy a r) : w.grownBy a.drew r := ⟨h.os, h.tape, h.output, h.size, h.block⟩

theorem own_step {w : World} {v : Value} {k : Nat} {B : Nat} (h : w.ownsRow B 3 1 v (k + 1) (((List.range k).map fun (i : Nat) => Value.int .i64 (i : Int)) ++ [.int .i64 (k : Int)])) :
    w.ownsRow B 3 1 v (k + 1) ((List.range (k + 1)).map fun (i : Nat) => Value.int .i64 (i : Int)) := by
  rw [List.range_succ, List.map_append]; exact h

set_option maxHeartbeats 4000000 in
theorem Order_run (w : World) (sb n : Nat) (hn : 1 ≤ n) (hn1 : n ≤ 1000) (hs : TapeOk w sb) :
    Calls Try.prog 49 #[.pointer (some ⟨sb, 0, none⟩), .int .i64 n] w fun e w' => ∃ g cap, e = .returned (.slice (some ⟨g, 0, none⟩) n cap) ∧ w.heap.size ≤ g ∧ n ≤ cap ∧ cap ≤ maxLen ∧ OrdAt w' g n n ∧ TapeOk w' sb ∧ w.grownBy w' (some sb) := by
  obtain ⟨i0, hi, hz0, hz1, hz2⟩ := info_parts infoInt
  have HS := Lib.hid hs
  have hsl := hs.lt
  clear hs
  go_enter Try.func49, Try.ntmps49
  go_wp2_with fail
  go_loopw [5, 6] (fun v t wr => ∃ k : Nat, k ≤ n ∧ t = .int .i64 k ∧ wr.ownsRow w.heap.size 3 1 v k ((List.range k).map fun (i : Nat) => Value.int .i64 (i : Int)) ∧ Hid (Below w.heap.size w wr)) (fun _ t _ => n - (intOf t).toNat)
  case atStart => exact ⟨0, by omega, rfl, World.ownsRow_nil _ _ _ _, Lib.hid (bref _)⟩
  case round =>
    obtain ⟨k, hk, rfl, hown, hb⟩ := hrel
    have hbz := hb.out.size
    by_cases hlt : k < n
    · go_wp2_with (at_builtin; refine wpList_append_own _ rfl _ _ 22 rfl w.heap.size 3 i0 (.int .i64 0) 1 8 Try.underlying22 hi hz0 hz1 hz2 rfl (by decide) _ _ _ rfl (hown.alloc _) ⟨wr.heap.size, 0, none⟩ 1 1 [.int .i64 (k : Int)] rfl rfl (cell_one_new _ _ _) (fun u hu => by simp at hu; subst hu; rfl) (by unfold maxLen; omega) (by omega) (by simp; omega) ?_; intro v' w1 hown' hgrow hnil)
      have HO := Lib.hid (own_step hown')
      have hb1 := Lib.hid (Below.grown (balloc hb.out (.cells #[.int .i64 (k : Int)] 3)) hgrow (by simp; omega) (fun j hj => (hown.lt j hj).1))
      clear hown' hgrow hnil hown
      go_wp2_with fail
      go_roundw
      case rel => exact ⟨k + 1, by omega, by go_num, HO.out, hb1⟩
      case measure => simp [intOf]; omega
    · obtain rfl : k = n := by omega
      obtain ⟨g, cap, rfl, hg0, hg1, hg2, hord⟩ := ord_of_own hown (by omega)
      have HT := Lib.hid (HS.out.below hb.out)
      have HOR := Lib.hid hord
      have hgl := hord.lt
      have HG := Lib.hid (grown_below (r := some sb) hb.out)
      clear hown hord
      go_wp2_with fail
      have hk1 : ((k : Int) - 1) = ((k - 1 : Nat) : Int) := by omega
      go_loopw [7] (fun t W => ∃ i : Nat, i < k ∧ t = .int .i64 i ∧ Hid (OrdAt W g k k) ∧ Hid (TapeOk W sb) ∧ Hid (w.grownBy W (some sb))) (fun t _ => (intOf t).toNat)
      case atStart => exact ⟨k - 1, by omega, by rw [hk1], HOR, HT, HG⟩
      case round =>
        clear hk1
        rename_i W
        obtain ⟨i, hi', rfl, hO, hTp, hGr⟩ := hrel
        by_cases hpos : 0 < i
        · go_wp2_with fail
          refine (TN_run _ sb _ (by omega) (by omega) hTp.out).mono ?_
          rintro e W2 ⟨r, hr0, hr1, rfl, hs2, hg2⟩
          obtain ⟨j, rfl⟩ := Int.eq_ofNat_of_zero_le hr0
          have hO2 : OrdAt W2 g k k := hO.out.keep (hg2.block g hO.out.lt (by simp; omega))
          obtain ⟨x, hx, fx, _, _⟩ := hO2.cell hi'
          obtain ⟨y, hy, fy, _, _⟩ := hO2.cell (show j < k by omega)
          have HO2 := Lib.hid hO2
          have HG2 := Lib.hid (grown_trans hGr.out hg2)
          have HS2 := Lib.hid hs2
          clear hO2 hs2 hg2
          have i0 : (0 : Int) ≤ (i : Int) := by omega
          have i1 : (i : Int) < (k : Int) := by omega
          have j1 : (j : Int) < (k : Int) := by omega
          by_cases hij : i = j
          · subst hij
            have hxy : x = y := by
              rw [hx] at hy
              simpa using hy
            subst hxy
            clear hy fy
            have hx2 : (W2.setCell ⟨g, i, none⟩ (.int .i64 x)).cell? ⟨g, i, none⟩ = some (.int .i64 x) := by
              obtain ⟨v', hv⟩ := cell?_setCell_some (w := W2) (p := ⟨g, i, none⟩) (x := .int .i64 x) (q := ⟨g, i, none⟩) (v := .int .i64 x) hx
              have := (HO2.out.swap hi' hi' hx hx)
              obtain ⟨cur, h1, h2, h3, _⟩ := HO2.out
              have hg' : (W2.setCell ⟨g, i, none⟩ (.int .i64 x)).heap[g]? = some (.cells (cur.setIfInBounds i (.int .i64 x)) 3 (0, 0)) := by
                simp [World.setCell, Array.getElem?_modify, h1]
              rw [cell_of_row _ _ i _ _ (0, 0) hg', Array.getElem?_setIfInBounds]
              simp
              omega
            go_wp2_with fail
            go_region
            all_goals
              go_wp2_with fail
              go_roundw
              case rel => exact ⟨i - 1, by omega, by go_num, Lib.hid ((HO2.out.swap hi' hi' hx hx).keep rfl), Lib.hid (((HS2.out.setCell (by simp; omega) _).setCell (by simp; omega) _).drew), Lib.hid (gdrew (gset (gset HG2.out (by simp; omega) _) (by simp; omega) _))⟩
              case measure => simp [intOf]; omega
          · go_wp2_with fail
            go_region
            all_goals
              go_wp2_with fail
              go_roundw
              case rel => exact ⟨i - 1, by omega, by go_num, Lib.hid ((HO2.out.swap hi' (show j < k by omega) hx hy).keep rfl), Lib.hid (((HS2.out.setCell (by simp; omega) _).setCell (by simp; omega) _).drew), Lib.hid (gdrew (gset (gset HG2.out (by simp; omega) _) (by simp; omega) _))⟩
              case measure => simp [intOf]; omega
        · obtain rfl : i = 0 := by omega
          go_wp2_with fail
          go_ret
          exact ⟨g, cap, rfl, hg0, hg1, hg2, hO.out, hTp.out, hGr.out⟩

end Go.Proofs.Ytfghnkgllmofgaa
