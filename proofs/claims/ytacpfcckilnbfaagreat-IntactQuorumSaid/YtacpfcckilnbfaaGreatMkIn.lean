/- The contracts of mk.Sets and mk.In. -/
import Derived.Test.YtacpfcckilnbfaaGreatB6
namespace Go.Proofs.YtacpfcckilnbfaaGreat
set_option linter.unusedVariables false
set_option linter.unusedSimpArgs false
open Go.RowKit

set_option maxHeartbeats 1000000 in
theorem mkin_run (P : Nat → Prop) (v : Value) (ls : List Nat) (x : Nat) (w : World) (hl : ls.length ≤ 1000000) (hN : NodesAt P w v (zs ls)) :
    Calls Tryz.prog 17 #[v, .int .i64 (x : Int)] w fun e w' => e = .returned (.bool (decide (x ∈ ls))) ∧ Below w.heap.size w w' := by
  obtain ⟨A, c, rfl, hN2⟩ := hN
  rw [zs_len] at hN2 ⊢
  have H := Lib.hid hN2
  clear hN2
  go_enter Tryz.func17, Tryz.ntmps17
  go_wp2_with fail
  go_loopw [9] (fun t W => ∃ k : Nat, k ≤ ls.length ∧ t = .int .i64 k ∧ Hid (x ∉ ls.take k) ∧ Hid (Below w.heap.size w W)) (fun t _ => ls.length - (intOf t).toNat)
  case atStart => exact ⟨0, Nat.zero_le _, rfl, Lib.hid (by simp), Lib.hid (bref _)⟩
  case round =>
    obtain ⟨k, hk, rfl, hA, hB⟩ := hrel
    by_cases hlt : k < ls.length
    · obtain ⟨b, off, rfl, hPb, hcc⟩ := H.out k hlt
      have hx0 : ls[k]? = some (ls.getD k 0) := by rw [List.getD_eq_getElem?_getD, List.getElem?_eq_getElem hlt]; rfl
      have hxm := List.mem_of_getElem? hx0
      rw [zs_get] at hcc
      have hc2 := (World.cell?_of_block (a := ⟨b, off + k, none⟩) (hB.out.block b (cell_lt hcc))).trans hcc
      have HTK := Lib.hid (show ls.take (k + 1) = ls.take k ++ [ls.getD k 0] by rw [List.take_add_one, hx0]; rfl)
      clear hx0 hPb hcc
      generalize ls.getD k 0 = y at *
      by_cases hxy : x = y
      · subst hxy
        have HV := Lib.hid (decide_eq_true hxm)
        clear hxm
        go_wp2_with fail
        go_ret
        exact ⟨by rw [HV.out]; rfl, by first | exact hB.out | exact bdrew hB.out⟩
      · have HA2 := Lib.hid (show x ∉ ls.take (k + 1) by rw [HTK.out, List.mem_append, List.mem_singleton]; exact fun h => h.elim hA.out hxy)
        have hne : ((x : Int) == (y : Int)) = false := by rw [beq_eq_false_iff_ne]; omega
        clear hxm
        go_wp2_with fail
        go_roundw
        case rel => exact ⟨k + 1, hlt, by go_num, HA2, by first | exact hB | exact Lib.hid (bdrew hB.out)⟩
        case measure => simp [intOf]; omega
    · obtain rfl : k = ls.length := by omega
      have HV := Lib.hid (decide_eq_false (show x ∉ ls by have := hA.out; rwa [List.take_length] at this))
      go_wp2_with fail
      go_ret
      exact ⟨by rw [HV.out]; rfl, hB.out⟩
end Go.Proofs.YtacpfcckilnbfaaGreat
