/- The contract of the reference's Nodes, its row owned. -/
import Derived.Test.YtbbdmaakphoofaaDoorRef01
import Derived.Test.YtbbdmaakphoofaaDoorOrderRun
import Derived.Test.YtbbdmaakphoofaaDoorDual
namespace Go.Proofs.YtbbdmaakphoofaaDoor
set_option linter.unusedVariables false
set_option linter.unusedSimpArgs false
open Go.RowKit

/-- The nodes of a set below n, ascending. -/
def nodM (s : Nat) : Nat → List Int
  | 0 => []
  | k + 1 => if s.testBit k then nodM s k ++ [(k : Int)] else nodM s k
theorem nodM_len (s : Nat) : ∀ k, (nodM s k).length ≤ k
  | 0 => by simp [nodM]
  | k + 1 => by
    have := nodM_len s k
    unfold nodM
    split
    · simp; omega
    · omega
theorem nodM_mem (s : Nat) : ∀ (n : Nat) (x : Int), x ∈ nodM s n ↔ ∃ k : Nat, x = (k : Int) ∧ k < n ∧ s.testBit k = true
  | 0, x => by simp [nodM]
  | n + 1, x => by
    have ih := nodM_mem s n x
    unfold nodM
    split
    · rename_i hb
      rw [List.mem_append, ih, List.mem_singleton]
      constructor
      · rintro (⟨k, e, h1, h2⟩ | e)
        · exact ⟨k, e, by omega, h2⟩
        · exact ⟨n, e, by omega, hb⟩
      · rintro ⟨k, e, h1, h2⟩
        rcases Nat.lt_or_ge k n with h3 | h3
        · exact .inl ⟨k, e, h3, h2⟩
        · obtain rfl : k = n := by omega
          exact .inr e
    · rename_i hb
      rw [ih]
      constructor
      · rintro ⟨k, e, h1, h2⟩; exact ⟨k, e, by omega, h2⟩
      · rintro ⟨k, e, h1, h2⟩
        refine ⟨k, e, ?_, h2⟩
        rcases Nat.lt_or_ge k n with h3 | h3
        · exact h3
        · obtain rfl : k = n := by omega
          exact (hb h2).elim

theorem hasM_bit {S K : Nat} (hS : S < 1024) (hK : K < 10) : hasB (S : Int) (K : Int) = S.testBit K := by
  unfold hasB
  have h1 : setB (S : Int) = true := setB_iff.2 ⟨by omega, by omega⟩
  have h2 : nodeB (K : Int) = true := nodeB_iff.2 ⟨by omega, by omega⟩
  rw [h1, h2]; simp
theorem own_snocM {w : World} {v : Value} {n B : Nat} {gs : List Int} {x : Int} (h : w.ownsRow B 3 1 v n (gs.map (Value.int .i64) ++ [.int .i64 x])) : w.ownsRow B 3 1 v n ((gs ++ [x]).map (Value.int .i64)) := by
  rw [List.map_append]; exact h
set_option maxRecDepth 100000 in
set_option maxHeartbeats 2000000 in
theorem rnodesM_run (s : Nat) (w : World) (hs : s < 1024) :
    Calls Tryd.prog 30 #[.int .i64 (s : Int)] w fun e w' => ∃ v, e = .returned v ∧ w'.ownsRow w.heap.size 3 1 v (nodM s 10).length ((nodM s 10).map (Value.int .i64)) ∧ Below w.heap.size w w' := by
  obtain ⟨i0, hin, hz0, hz1, hz2⟩ := info_parts infoInt
  go_enter Tryd.func30, Tryd.ntmps30
  go_wp2_with fail
  go_loopw [3, 4] (fun v t W => ∃ (k : Nat) (vv : Value), k ≤ 10 ∧ v = vv ∧ t = .int .i64 k ∧ W.ownsRow w.heap.size 3 1 vv (nodM s k).length ((nodM s k).map (Value.int .i64)) ∧ Hid (Below w.heap.size w W)) (fun _ t _ => 10 - (intOf t).toNat)
  case atStart => exact ⟨0, .slice none 0 0, by omega, rfl, rfl, World.ownsRow_nil _ _ _ _, Lib.hid (bref _)⟩
  case round =>
    obtain ⟨k, v, hk, rfl, rfl, hown, hB⟩ := hrel
    have hlen := nodM_len s k
    by_cases hlt : k < 10
    · have hbs := hB.out.size
      have hbit := hasM_bit hs hlt
      cases hb : s.testBit k
      · rw [hb] at hbit
        have hn := Lib.hid (show nodM s (k + 1) = nodM s k by show (if s.testBit k then _ else _) = _; rw [hb]; rfl)
        have HOWN := Lib.hid hown
        go_wp2_with fail
        refine (rhas_run _ _ _).mono ?_
        rintro e w2 ⟨rfl, rfl⟩
        rw [hbit]
        go_wp2_with fail
        go_roundw
        case rel => exact ⟨k + 1, _, by omega, rfl, by go_num, by rw [hn.out]; exact HOWN.out, hB⟩
        case measure => simp [intOf]; omega
      · rw [hb] at hbit
        have hn := Lib.hid (show nodM s (k + 1) = nodM s k ++ [(k : Int)] by show (if s.testBit k then _ else _) = _; rw [hb]; rfl)
        go_wp2_with fail
        refine (rhas_run _ _ _).mono ?_
        rintro e w2 ⟨rfl, rfl⟩
        rw [hbit]
        go_wp2_with (at_builtin; refine wpList_append_own _ rfl _ _ 22 rfl w.heap.size 3 i0 (.int .i64 0) 1 8 Tryd.underlying22 hin hz0 hz1 hz2 rfl (by decide) _ _ _ rfl (hown.alloc _) ⟨wr.heap.size, 0, none⟩ 1 1 [.int .i64 (k : Int)] rfl rfl (cell_one_new _ _ _) (fun u hu => by simp at hu; subst hu; rfl) (by unfold maxLen; omega) (by omega) (by simp; omega) ?_; intro v' w1 hown' hgrow hnil)
        have HO := Lib.hid (own_snocM hown')
        have HB4 := Lib.hid (Below.grown (balloc hB.out (.cells #[.int .i64 (k : Int)] 3)) hgrow (by simp; omega) (fun j hj => (hown.lt j hj).1))
        clear hown' hgrow hnil hown
        go_roundw
        case rel => exact ⟨k + 1, _, by omega, rfl, by go_num, by rw [hn.out]; simpa using HO.out, HB4⟩
        case measure => simp [intOf]; omega
    · obtain rfl : k = 10 := by omega
      have HN := Lib.hid hown
      obtain ⟨Av, cv, hv⟩ := own_slice hown
      subst hv
      clear hown
      go_wp2_with fail
      go_ret
      exact ⟨_, rfl, HN.out, hB.out⟩

end Go.Proofs.YtbbdmaakphoofaaDoor
