/- The contracts of amount.Native and amount.Asset over the assets that the law asks of. -/
import Derived.Test.YtfmdnhhdjjndbaaAsset
namespace Go.Proofs.Ytfmdnhhdjjndbaa
set_option linter.unusedVariables false
set_option linter.unusedSimpArgs false
open Go.RowKit

theorem iterBelow (w : World) (s : ByteArray) (pos : Nat) : Below w.heap.size w (w.iter s pos) := balloc (bref w) (.stringIter s pos)

set_option maxHeartbeats 1000000 in
theorem native_usd (w : World) : Calls Try.prog 77 #[.agg #[.string ⟨#[85, 83, 68]⟩, .int .i64 1]] w fun e w' => e = .returned (.bool false) ∧ Below w.heap.size w w' := by
  go_enter Try.func77, Try.ntmps77
  go_wp2
  go_ret
  exact ⟨rfl, balloc (bref _) _⟩

set_option maxHeartbeats 1000000 in
theorem asset_usd (w : World) : Calls Try.prog 76 #[.agg #[.string ⟨#[85, 83, 68]⟩, .int .i64 1]] w fun e w' => e = .returned (.bool true) ∧ Below w.heap.size w w' := by
  go_enter Try.func76, Try.ntmps76
  go_wp2_with fail
  refine (native_usd _).mono ?_
  rintro e w1 ⟨rfl, hb1⟩
  have HB1 := Lib.hid (bstep (balloc (bref w) (.cells #[.string ⟨#[85, 83, 68]⟩, .int .i64 1] 49)) hb1)
  have hb2 : w1.heap[w.heap.size]? = some (.cells #[.string ⟨#[85, 83, 68]⟩, .int .i64 1] 49 (0, 0)) := by
    rw [hb1.block w.heap.size (by simp)]
    exact heap_alloc_new _ _
  have d0 : w1.cell? ⟨w.heap.size, 0, none⟩ = some (.string ⟨#[85, 83, 68]⟩) := cell_of_row _ _ 0 _ _ (0, 0) hb2
  have HH := Lib.hid hb2
  clear hb1 hb2
  go_wp2_with fail
  go_loopw [] (fun W => ∃ q : Nat, q ≤ 3 ∧ W = w1.iter ⟨#[85, 83, 68]⟩ q) (fun W => 3 - W.iterPos w1.heap.size)
  case atStart => exact ⟨0, by omega, rfl⟩
  case round =>
    obtain ⟨q, hq, rfl⟩ := hrel
    match q, hq with
    | 0, _ =>
      have hnx : ∀ ty, (Instr.next (.pointer (some ⟨w1.heap.size, 0, none⟩)) true ty).run Try.prog (w1.iter ⟨#[85, 83, 68]⟩ 0) = _ := fun ty => run_next_ascii w1 ⟨#[85, 83, 68]⟩ 0 ty (by decide) (by decide)
      go_wp2_with fail
      go_roundw
      case rel => exact ⟨1, by omega, rfl⟩
      case measure => simp [World.iterPos, World.iter_heap]
    | 1, _ =>
      have hnx : ∀ ty, (Instr.next (.pointer (some ⟨w1.heap.size, 0, none⟩)) true ty).run Try.prog (w1.iter ⟨#[85, 83, 68]⟩ 1) = _ := fun ty => run_next_ascii w1 ⟨#[85, 83, 68]⟩ 1 ty (by decide) (by decide)
      go_wp2_with fail
      go_roundw
      case rel => exact ⟨2, by omega, rfl⟩
      case measure => simp [World.iterPos, World.iter_heap]
    | 2, _ =>
      have hnx : ∀ ty, (Instr.next (.pointer (some ⟨w1.heap.size, 0, none⟩)) true ty).run Try.prog (w1.iter ⟨#[85, 83, 68]⟩ 2) = _ := fun ty => run_next_ascii w1 ⟨#[85, 83, 68]⟩ 2 ty (by decide) (by decide)
      go_wp2_with fail
      go_roundw
      case rel => exact ⟨3, by omega, rfl⟩
      case measure => simp [World.iterPos, World.iter_heap]
    | 3, _ =>
      have hnx : ∀ ty, (Instr.next (.pointer (some ⟨w1.heap.size, 0, none⟩)) true ty).run Try.prog (w1.iter ⟨#[85, 83, 68]⟩ 3) = _ := fun ty => run_next_end w1 ⟨#[85, 83, 68]⟩ 3 ty (by decide)
      have hbi := iterBelow w1 ⟨#[85, 83, 68]⟩ 3
      have hl : w.heap.size < w1.heap.size := by
        have := HH.out
        rcases Nat.lt_or_ge w.heap.size w1.heap.size with h | h
        · exact h
        · rw [Array.getElem?_eq_none h] at this; cases this
      have hb3 := (hbi.block _ hl).trans HH.out
      have e0 : (w1.iter ⟨#[85, 83, 68]⟩ 3).cell? ⟨w.heap.size, 0, none⟩ = some (.string ⟨#[85, 83, 68]⟩) := cell_of_row _ _ 0 _ _ (0, 0) hb3
      have e1 : (w1.iter ⟨#[85, 83, 68]⟩ 3).cell? ⟨w.heap.size, 1, none⟩ = some (.int .i64 1) := cell_of_row _ _ 1 _ _ (0, 0) hb3
      have HI := Lib.hid (bstep HB1.out hbi)
      clear hbi hb3
      go_wp2_with fail
      go_ret
      exact ⟨rfl, HI.out⟩

set_option maxHeartbeats 1000000 in
theorem native_eur (w : World) : Calls Try.prog 77 #[.agg #[.string ⟨#[69, 85, 82]⟩, .int .i64 2]] w fun e w' => e = .returned (.bool false) ∧ Below w.heap.size w w' := by
  go_enter Try.func77, Try.ntmps77
  go_wp2
  go_ret
  exact ⟨rfl, balloc (bref _) _⟩

set_option maxHeartbeats 1000000 in
theorem asset_eur (w : World) : Calls Try.prog 76 #[.agg #[.string ⟨#[69, 85, 82]⟩, .int .i64 2]] w fun e w' => e = .returned (.bool true) ∧ Below w.heap.size w w' := by
  go_enter Try.func76, Try.ntmps76
  go_wp2_with fail
  refine (native_eur _).mono ?_
  rintro e w1 ⟨rfl, hb1⟩
  have HB1 := Lib.hid (bstep (balloc (bref w) (.cells #[.string ⟨#[69, 85, 82]⟩, .int .i64 2] 49)) hb1)
  have hb2 : w1.heap[w.heap.size]? = some (.cells #[.string ⟨#[69, 85, 82]⟩, .int .i64 2] 49 (0, 0)) := by
    rw [hb1.block w.heap.size (by simp)]
    exact heap_alloc_new _ _
  have d0 : w1.cell? ⟨w.heap.size, 0, none⟩ = some (.string ⟨#[69, 85, 82]⟩) := cell_of_row _ _ 0 _ _ (0, 0) hb2
  have HH := Lib.hid hb2
  clear hb1 hb2
  go_wp2_with fail
  go_loopw [] (fun W => ∃ q : Nat, q ≤ 3 ∧ W = w1.iter ⟨#[69, 85, 82]⟩ q) (fun W => 3 - W.iterPos w1.heap.size)
  case atStart => exact ⟨0, by omega, rfl⟩
  case round =>
    obtain ⟨q, hq, rfl⟩ := hrel
    match q, hq with
    | 0, _ =>
      have hnx : ∀ ty, (Instr.next (.pointer (some ⟨w1.heap.size, 0, none⟩)) true ty).run Try.prog (w1.iter ⟨#[69, 85, 82]⟩ 0) = _ := fun ty => run_next_ascii w1 ⟨#[69, 85, 82]⟩ 0 ty (by decide) (by decide)
      go_wp2_with fail
      go_roundw
      case rel => exact ⟨1, by omega, rfl⟩
      case measure => simp [World.iterPos, World.iter_heap]
    | 1, _ =>
      have hnx : ∀ ty, (Instr.next (.pointer (some ⟨w1.heap.size, 0, none⟩)) true ty).run Try.prog (w1.iter ⟨#[69, 85, 82]⟩ 1) = _ := fun ty => run_next_ascii w1 ⟨#[69, 85, 82]⟩ 1 ty (by decide) (by decide)
      go_wp2_with fail
      go_roundw
      case rel => exact ⟨2, by omega, rfl⟩
      case measure => simp [World.iterPos, World.iter_heap]
    | 2, _ =>
      have hnx : ∀ ty, (Instr.next (.pointer (some ⟨w1.heap.size, 0, none⟩)) true ty).run Try.prog (w1.iter ⟨#[69, 85, 82]⟩ 2) = _ := fun ty => run_next_ascii w1 ⟨#[69, 85, 82]⟩ 2 ty (by decide) (by decide)
      go_wp2_with fail
      go_roundw
      case rel => exact ⟨3, by omega, rfl⟩
      case measure => simp [World.iterPos, World.iter_heap]
    | 3, _ =>
      have hnx : ∀ ty, (Instr.next (.pointer (some ⟨w1.heap.size, 0, none⟩)) true ty).run Try.prog (w1.iter ⟨#[69, 85, 82]⟩ 3) = _ := fun ty => run_next_end w1 ⟨#[69, 85, 82]⟩ 3 ty (by decide)
      have hbi := iterBelow w1 ⟨#[69, 85, 82]⟩ 3
      have hl : w.heap.size < w1.heap.size := by
        have := HH.out
        rcases Nat.lt_or_ge w.heap.size w1.heap.size with h | h
        · exact h
        · rw [Array.getElem?_eq_none h] at this; cases this
      have hb3 := (hbi.block _ hl).trans HH.out
      have e0 : (w1.iter ⟨#[69, 85, 82]⟩ 3).cell? ⟨w.heap.size, 0, none⟩ = some (.string ⟨#[69, 85, 82]⟩) := cell_of_row _ _ 0 _ _ (0, 0) hb3
      have e1 : (w1.iter ⟨#[69, 85, 82]⟩ 3).cell? ⟨w.heap.size, 1, none⟩ = some (.int .i64 2) := cell_of_row _ _ 1 _ _ (0, 0) hb3
      have HI := Lib.hid (bstep HB1.out hbi)
      clear hbi hb3
      go_wp2_with fail
      go_ret
      exact ⟨rfl, HI.out⟩

set_option maxHeartbeats 1000000 in
theorem native_xau (w : World) : Calls Try.prog 77 #[.agg #[.string ⟨#[88, 65, 85]⟩, .int .i64 9]] w fun e w' => e = .returned (.bool false) ∧ Below w.heap.size w w' := by
  go_enter Try.func77, Try.ntmps77
  go_wp2
  go_ret
  exact ⟨rfl, balloc (bref _) _⟩

set_option maxHeartbeats 1000000 in
theorem asset_xau (w : World) : Calls Try.prog 76 #[.agg #[.string ⟨#[88, 65, 85]⟩, .int .i64 9]] w fun e w' => e = .returned (.bool true) ∧ Below w.heap.size w w' := by
  go_enter Try.func76, Try.ntmps76
  go_wp2_with fail
  refine (native_xau _).mono ?_
  rintro e w1 ⟨rfl, hb1⟩
  have HB1 := Lib.hid (bstep (balloc (bref w) (.cells #[.string ⟨#[88, 65, 85]⟩, .int .i64 9] 49)) hb1)
  have hb2 : w1.heap[w.heap.size]? = some (.cells #[.string ⟨#[88, 65, 85]⟩, .int .i64 9] 49 (0, 0)) := by
    rw [hb1.block w.heap.size (by simp)]
    exact heap_alloc_new _ _
  have d0 : w1.cell? ⟨w.heap.size, 0, none⟩ = some (.string ⟨#[88, 65, 85]⟩) := cell_of_row _ _ 0 _ _ (0, 0) hb2
  have HH := Lib.hid hb2
  clear hb1 hb2
  go_wp2_with fail
  go_loopw [] (fun W => ∃ q : Nat, q ≤ 3 ∧ W = w1.iter ⟨#[88, 65, 85]⟩ q) (fun W => 3 - W.iterPos w1.heap.size)
  case atStart => exact ⟨0, by omega, rfl⟩
  case round =>
    obtain ⟨q, hq, rfl⟩ := hrel
    match q, hq with
    | 0, _ =>
      have hnx : ∀ ty, (Instr.next (.pointer (some ⟨w1.heap.size, 0, none⟩)) true ty).run Try.prog (w1.iter ⟨#[88, 65, 85]⟩ 0) = _ := fun ty => run_next_ascii w1 ⟨#[88, 65, 85]⟩ 0 ty (by decide) (by decide)
      go_wp2_with fail
      go_roundw
      case rel => exact ⟨1, by omega, rfl⟩
      case measure => simp [World.iterPos, World.iter_heap]
    | 1, _ =>
      have hnx : ∀ ty, (Instr.next (.pointer (some ⟨w1.heap.size, 0, none⟩)) true ty).run Try.prog (w1.iter ⟨#[88, 65, 85]⟩ 1) = _ := fun ty => run_next_ascii w1 ⟨#[88, 65, 85]⟩ 1 ty (by decide) (by decide)
      go_wp2_with fail
      go_roundw
      case rel => exact ⟨2, by omega, rfl⟩
      case measure => simp [World.iterPos, World.iter_heap]
    | 2, _ =>
      have hnx : ∀ ty, (Instr.next (.pointer (some ⟨w1.heap.size, 0, none⟩)) true ty).run Try.prog (w1.iter ⟨#[88, 65, 85]⟩ 2) = _ := fun ty => run_next_ascii w1 ⟨#[88, 65, 85]⟩ 2 ty (by decide) (by decide)
      go_wp2_with fail
      go_roundw
      case rel => exact ⟨3, by omega, rfl⟩
      case measure => simp [World.iterPos, World.iter_heap]
    | 3, _ =>
      have hnx : ∀ ty, (Instr.next (.pointer (some ⟨w1.heap.size, 0, none⟩)) true ty).run Try.prog (w1.iter ⟨#[88, 65, 85]⟩ 3) = _ := fun ty => run_next_end w1 ⟨#[88, 65, 85]⟩ 3 ty (by decide)
      have hbi := iterBelow w1 ⟨#[88, 65, 85]⟩ 3
      have hl : w.heap.size < w1.heap.size := by
        have := HH.out
        rcases Nat.lt_or_ge w.heap.size w1.heap.size with h | h
        · exact h
        · rw [Array.getElem?_eq_none h] at this; cases this
      have hb3 := (hbi.block _ hl).trans HH.out
      have e0 : (w1.iter ⟨#[88, 65, 85]⟩ 3).cell? ⟨w.heap.size, 0, none⟩ = some (.string ⟨#[88, 65, 85]⟩) := cell_of_row _ _ 0 _ _ (0, 0) hb3
      have e1 : (w1.iter ⟨#[88, 65, 85]⟩ 3).cell? ⟨w.heap.size, 1, none⟩ = some (.int .i64 9) := cell_of_row _ _ 1 _ _ (0, 0) hb3
      have HI := Lib.hid (bstep HB1.out hbi)
      clear hbi hb3
      go_wp2_with fail
      go_ret
      exact ⟨rfl, HI.out⟩

set_option maxHeartbeats 1000000 in
theorem native_xau0 (w : World) : Calls Try.prog 77 #[.agg #[.string ⟨#[88, 65, 85]⟩, .int .i64 0]] w fun e w' => e = .returned (.bool false) ∧ Below w.heap.size w w' := by
  go_enter Try.func77, Try.ntmps77
  go_wp2
  go_ret
  exact ⟨rfl, balloc (bref _) _⟩

set_option maxHeartbeats 1000000 in
theorem asset_xau0 (w : World) : Calls Try.prog 76 #[.agg #[.string ⟨#[88, 65, 85]⟩, .int .i64 0]] w fun e w' => e = .returned (.bool false) ∧ Below w.heap.size w w' := by
  go_enter Try.func76, Try.ntmps76
  go_wp2_with fail
  refine (native_xau0 _).mono ?_
  rintro e w1 ⟨rfl, hb1⟩
  have HB1 := Lib.hid (bstep (balloc (bref w) (.cells #[.string ⟨#[88, 65, 85]⟩, .int .i64 0] 49)) hb1)
  have hb2 : w1.heap[w.heap.size]? = some (.cells #[.string ⟨#[88, 65, 85]⟩, .int .i64 0] 49 (0, 0)) := by
    rw [hb1.block w.heap.size (by simp)]
    exact heap_alloc_new _ _
  have d0 : w1.cell? ⟨w.heap.size, 0, none⟩ = some (.string ⟨#[88, 65, 85]⟩) := cell_of_row _ _ 0 _ _ (0, 0) hb2
  have HH := Lib.hid hb2
  clear hb1 hb2
  go_wp2_with fail
  go_loopw [] (fun W => ∃ q : Nat, q ≤ 3 ∧ W = w1.iter ⟨#[88, 65, 85]⟩ q) (fun W => 3 - W.iterPos w1.heap.size)
  case atStart => exact ⟨0, by omega, rfl⟩
  case round =>
    obtain ⟨q, hq, rfl⟩ := hrel
    match q, hq with
    | 0, _ =>
      have hnx : ∀ ty, (Instr.next (.pointer (some ⟨w1.heap.size, 0, none⟩)) true ty).run Try.prog (w1.iter ⟨#[88, 65, 85]⟩ 0) = _ := fun ty => run_next_ascii w1 ⟨#[88, 65, 85]⟩ 0 ty (by decide) (by decide)
      go_wp2_with fail
      go_roundw
      case rel => exact ⟨1, by omega, rfl⟩
      case measure => simp [World.iterPos, World.iter_heap]
    | 1, _ =>
      have hnx : ∀ ty, (Instr.next (.pointer (some ⟨w1.heap.size, 0, none⟩)) true ty).run Try.prog (w1.iter ⟨#[88, 65, 85]⟩ 1) = _ := fun ty => run_next_ascii w1 ⟨#[88, 65, 85]⟩ 1 ty (by decide) (by decide)
      go_wp2_with fail
      go_roundw
      case rel => exact ⟨2, by omega, rfl⟩
      case measure => simp [World.iterPos, World.iter_heap]
    | 2, _ =>
      have hnx : ∀ ty, (Instr.next (.pointer (some ⟨w1.heap.size, 0, none⟩)) true ty).run Try.prog (w1.iter ⟨#[88, 65, 85]⟩ 2) = _ := fun ty => run_next_ascii w1 ⟨#[88, 65, 85]⟩ 2 ty (by decide) (by decide)
      go_wp2_with fail
      go_roundw
      case rel => exact ⟨3, by omega, rfl⟩
      case measure => simp [World.iterPos, World.iter_heap]
    | 3, _ =>
      have hnx : ∀ ty, (Instr.next (.pointer (some ⟨w1.heap.size, 0, none⟩)) true ty).run Try.prog (w1.iter ⟨#[88, 65, 85]⟩ 3) = _ := fun ty => run_next_end w1 ⟨#[88, 65, 85]⟩ 3 ty (by decide)
      have hbi := iterBelow w1 ⟨#[88, 65, 85]⟩ 3
      have hl : w.heap.size < w1.heap.size := by
        have := HH.out
        rcases Nat.lt_or_ge w.heap.size w1.heap.size with h | h
        · exact h
        · rw [Array.getElem?_eq_none h] at this; cases this
      have hb3 := (hbi.block _ hl).trans HH.out
      have e0 : (w1.iter ⟨#[88, 65, 85]⟩ 3).cell? ⟨w.heap.size, 0, none⟩ = some (.string ⟨#[88, 65, 85]⟩) := cell_of_row _ _ 0 _ _ (0, 0) hb3
      have e1 : (w1.iter ⟨#[88, 65, 85]⟩ 3).cell? ⟨w.heap.size, 1, none⟩ = some (.int .i64 0) := cell_of_row _ _ 1 _ _ (0, 0) hb3
      have HI := Lib.hid (bstep HB1.out hbi)
      clear hbi hb3
      go_wp2_with fail
      go_ret
      exact ⟨rfl, HI.out⟩

end Go.Proofs.Ytfmdnhhdjjndbaa
