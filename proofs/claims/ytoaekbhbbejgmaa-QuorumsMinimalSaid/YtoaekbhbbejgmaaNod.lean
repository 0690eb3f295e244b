/- The contract of nodeset.Nodes. -/
import Derived.Test.YtoaekbhbbejgmaaRefSat
namespace Go.Proofs.Ytoaekbhbbejgmaa
set_option linter.unusedVariables false
set_option linter.unusedSimpArgs false
open Go.RowKit

set_option maxRecDepth 100000 in
set_option maxHeartbeats 2000000 in
theorem pnodes_run (s : Nat) (w : World) (hs : s < 1024) :
    Calls Try.prog 49 #[.int .i64 (s : Int)] w fun e w' => ∃ v, e = .returned v ∧ NodesAt (fun b => w.heap.size ≤ b) w' v (nodL s 10) ∧ Below w.heap.size w w' := by
  obtain ⟨i0, hin, hz0, hz1, hz2⟩ := info_parts infoInt
  go_enter Try.func49, Try.ntmps49
  go_wp2_with fail
  go_loopw [3, 5] (fun v t W => ∃ (k : Nat) (vv : Value), k ≤ 10 ∧ v = vv ∧ t = .int .i64 k ∧ W.ownsRow w.heap.size 3 1 vv (nodL s k).length ((nodL s k).map (Value.int .i64)) ∧ Hid (Below w.heap.size w W)) (fun _ t _ => 10 - (intOf t).toNat)
  case atStart => exact ⟨0, .slice none 0 0, by omega, rfl, rfl, World.ownsRow_nil _ _ _ _, Lib.hid (bref _)⟩
  case round =>
    obtain ⟨k, v, hk, rfl, rfl, hown, hB⟩ := hrel
    have hlen := nodL_len s k
    by_cases hlt : k < 10
    · have hbs := hB.out.size
      have hbit := hasB_bit hs hlt
      cases hb : s.testBit k
      · rw [hb] at hbit
        have hn := Lib.hid (show nodL s (k + 1) = nodL s k by show (if s.testBit k then _ else _) = _; rw [hb]; rfl)
        have HOWN := Lib.hid hown
        go_wp2_with fail
        refine (has_run _ _ _).mono ?_
        rintro e w2 ⟨rfl, rfl⟩
        rw [hbit]
        go_wp2_with fail
        go_roundw
        case rel => exact ⟨k + 1, _, by omega, rfl, by go_num, by rw [hn.out]; exact HOWN.out, hB⟩
        case measure => simp [intOf]; omega
      · rw [hb] at hbit
        have hn := Lib.hid (show nodL s (k + 1) = nodL s k ++ [(k : Int)] by show (if s.testBit k then _ else _) = _; rw [hb]; rfl)
        go_wp2_with fail
        refine (has_run _ _ _).mono ?_
        rintro e w2 ⟨rfl, rfl⟩
        rw [hbit]
        go_wp2_with (at_builtin; refine wpList_append_own _ rfl _ _ 22 rfl w.heap.size 3 i0 (.int .i64 0) 1 8 Try.underlying22 hin hz0 hz1 hz2 rfl (by decide) _ _ _ rfl (hown.alloc _) ⟨wr.heap.size, 0, none⟩ 1 1 [.int .i64 (k : Int)] rfl rfl (cell_one_new _ _ _) (fun u hu => by simp at hu; subst hu; rfl) (by unfold maxLen; omega) (by omega) (by simp; omega) ?_; intro v' w1 hown' hgrow hnil)
        have HO := Lib.hid (own_snoc hown')
        have HB4 := Lib.hid (Below.grown (balloc hB.out (.cells #[.int .i64 (k : Int)] 3)) hgrow (by simp; omega) (fun j hj => (hown.lt j hj).1))
        clear hown' hgrow hnil hown
        go_roundw
        case rel => exact ⟨k + 1, _, by omega, rfl, by go_num, by rw [hn.out]; simpa using HO.out, HB4⟩
        case measure => simp [intOf]; omega
    · obtain rfl : k = 10 := by omega
      have HN := Lib.hid (NodesAt.of_own hown)
      obtain ⟨Av, cv, hv⟩ := own_slice hown
      subst hv
      clear hown
      go_wp2_with fail
      go_ret
      exact ⟨_, rfl, HN.out, hB.out⟩
end Go.Proofs.Ytoaekbhbbejgmaa
