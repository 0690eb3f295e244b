/- The contract of mk.Ints, for equal lists. -/
import Derived.Test.YthbiopmfbnpmfaaDual
namespace Go.Proofs.Ythbiopmfbnpmfaa
set_option linter.unusedVariables false
set_option linter.unusedSimpArgs false
open Go.RowKit

set_option maxHeartbeats 1000000 in
theorem ints_run (P Q : Nat → Prop) (v u : Value) (ns : List Int) (w : World) (hn : ns.length ≤ 1000000) (h : NodesAt P w v ns) (h2 : NodesAt Q w u ns) :
    Calls Try.prog 15 #[v, u] w fun e w' => e = .returned (.bool true) ∧ Below w.heap.size w w' := by
  obtain ⟨A, c, rfl, hA⟩ := h
  obtain ⟨B, c', rfl, hB⟩ := h2
  have HA := Lib.hid hA
  have HB := Lib.hid hB
  clear hA hB
  go_enter Try.func15, Try.ntmps15
  go_wp2_with fail
  go_loopw [13] (fun t wr => ∃ k : Nat, k ≤ ns.length ∧ t = .int .i64 k ∧ Hid (Below w.heap.size w wr)) (fun t _ => ns.length - (intOf t).toNat)
  case atStart => exact ⟨0, by omega, rfl, Lib.hid (bref _)⟩
  case round =>
    obtain ⟨k, hk, rfl, hBr⟩ := hrel
    by_cases hlt : k < ns.length
    · obtain ⟨b, off, rfl, _, hc⟩ := HA.out k hlt
      obtain ⟨b', off', rfl, _, hc'⟩ := HB.out k hlt
      have d1 := (hBr.out.cell (cell_lt hc)).trans hc
      have d2 := (hBr.out.cell (cell_lt hc')).trans hc'
      clear hc hc'
      generalize ns.getD k 0 = x at *
      have hxx : (x == x) = true := by simp
      go_wp2_with fail
      go_quiet (fail)
      go_wp2_with fail
      go_roundw
      case rel => exact ⟨k + 1, by omega, by go_num, Lib.hid (bdrewN hBr.out _)⟩
      case measure => simp [intOf]; omega
    · obtain rfl : k = ns.length := by omega
      go_wp2_with fail
      go_ret
      exact ⟨rfl, hBr.out⟩

end Go.Proofs.Ythbiopmfbnpmfaa
