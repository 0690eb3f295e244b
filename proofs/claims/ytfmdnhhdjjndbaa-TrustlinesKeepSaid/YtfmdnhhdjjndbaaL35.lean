/- The reference for amounts over the three assets. -/
import Derived.Test.YtfmdnhhdjjndbaaAcc
import Derived.Test.YtfmdnhhdjjndbaaR35
import Derived.PlainAid
namespace Go.Proofs.Ytfmdnhhdjjndbaa
set_option linter.unusedVariables false
set_option linter.unusedSimpArgs false
open Go.RowKit Go.PlainAid

def valS (a : Nat) : Value := .agg #[.string (codeOf a), .int .i64 (issOf a)]

def rkS (a : Nat) : Nat := match a with | 0 => 0 | 1 => 2 | _ => 1

def lessR (a b : Nat) : Bool := decide (rkS a < rkS b)

set_option maxHeartbeats 1000000 in
theorem rnative_run (a : Nat) (w : World) (ha : a ≤ 2) :
    Calls Try.prog 87 #[valS a] w fun e w' => e = .returned (.bool (a == 0)) ∧ Below w.heap.size w w' := by
  unfold valS
  match a, ha with
  | 0, _ | 1, _ | 2, _ =>
    unfold codeOf issOf
    go_enter Try.func87, Try.ntmps87
    go_wp2
    go_ret
    exact ⟨rfl, balloc (bref _) _⟩

set_option maxHeartbeats 1000000 in
theorem rless_run (a b : Nat) (w : World) (ha : a ≤ 2) (hb : b ≤ 2) :
    Calls Try.prog 104 #[valS a, valS b] w fun e w' => e = .returned (.bool (lessR a b)) ∧ Below w.heap.size w w' := by
  unfold valS
  match a, b, ha, hb with
  | 0, 0, _, _ | 0, 1, _, _ | 0, 2, _, _ | 1, 0, _, _ | 1, 1, _, _ | 1, 2, _, _ | 2, 0, _, _ | 2, 1, _, _ | 2, 2, _, _ =>
    unfold codeOf issOf
    go_enter Try.func104, Try.ntmps104
    go_wp2
    go_ret
    exact ⟨rfl, balloc (balloc (bref _) _) _⟩

set_option maxRecDepth 100000 in
set_option maxHeartbeats 4000000 in
theorem rasset_run (a : Nat) (w : World) (ha : a ≤ 2) :
    Calls Try.prog 66 #[valS a] w fun e w' => e = .returned (.bool true) ∧ Below w.heap.size w w' := by
  have hn := fun W => rnative_run a W ha
  unfold valS at *
  match a, ha with
  | 0, _ =>
    unfold codeOf issOf at *
    go_enter Try.func66, Try.ntmps66
    go_wp2_with (go_at_call 87; refine (hn _).mono ?_; rintro e w2 ⟨rfl, hb2⟩)
    go_ret
    exact ⟨rfl, ((Below.refl _ _).alloc (Nat.le_refl _) _).trans (hb2.mono (by simp))⟩
  | 1, _ =>
    have HN := Lib.hid hn
    clear hn
    unfold codeOf issOf at *
    go_enter Try.func66, Try.ntmps66
    go_wp2_with fail
    refine (HN.out _).mono ?_
    rintro e w2 ⟨rfl, hb2⟩
    have e0 : w2.cell? ⟨w.heap.size, 0, none⟩ = some (.string ⟨#[85, 83, 68]⟩) := (hb2.cell (p := ⟨w.heap.size, 0, none⟩) (by simp)).trans (row_new w _ _ 0)
    have e1 : w2.cell? ⟨w.heap.size, 1, none⟩ = some (.int .i64 1) := (hb2.cell (p := ⟨w.heap.size, 1, none⟩) (by simp)).trans (row_new w _ _ 1)
    have HB := Lib.hid (bstep (balloc (bref w) (.cells #[.string ⟨#[85, 83, 68]⟩, .int .i64 1] 49)) hb2)
    clear hb2
    go_wp2_with fail
    go_loop [3] (fun t => ∃ q : Nat, q ≤ 3 ∧ t = .int .i64 q) (fun t => 3 - (intOf t).toNat)
    case atStart => exact ⟨0, by omega, rfl⟩
    case round =>
      obtain ⟨q, hq, rfl⟩ := hrel
      match q, hq with
      | 0, _ =>
        go_wp2_with fail
        go_round
        case rel => exact ⟨1, by omega, rfl⟩
        case measure => simp [intOf]
      | 1, _ =>
        go_wp2_with fail
        go_round
        case rel => exact ⟨2, by omega, rfl⟩
        case measure => simp [intOf]
      | 2, _ =>
        go_wp2_with fail
        go_round
        case rel => exact ⟨3, by omega, rfl⟩
        case measure => simp [intOf]
      | 3, _ =>
        go_wp2_with fail
        go_ret
        exact ⟨rfl, HB.out⟩
  | 2, _ =>
    have HN := Lib.hid hn
    clear hn
    unfold codeOf issOf at *
    go_enter Try.func66, Try.ntmps66
    go_wp2_with fail
    refine (HN.out _).mono ?_
    rintro e w2 ⟨rfl, hb2⟩
    have e0 : w2.cell? ⟨w.heap.size, 0, none⟩ = some (.string ⟨#[69, 85, 82]⟩) := (hb2.cell (p := ⟨w.heap.size, 0, none⟩) (by simp)).trans (row_new w _ _ 0)
    have e1 : w2.cell? ⟨w.heap.size, 1, none⟩ = some (.int .i64 2) := (hb2.cell (p := ⟨w.heap.size, 1, none⟩) (by simp)).trans (row_new w _ _ 1)
    have HB := Lib.hid (bstep (balloc (bref w) (.cells #[.string ⟨#[69, 85, 82]⟩, .int .i64 2] 49)) hb2)
    clear hb2
    go_wp2_with fail
    go_loop [3] (fun t => ∃ q : Nat, q ≤ 3 ∧ t = .int .i64 q) (fun t => 3 - (intOf t).toNat)
    case atStart => exact ⟨0, by omega, rfl⟩
    case round =>
      obtain ⟨q, hq, rfl⟩ := hrel
      match q, hq with
      | 0, _ =>
        go_wp2_with fail
        go_round
        case rel => exact ⟨1, by omega, rfl⟩
        case measure => simp [intOf]
      | 1, _ =>
        go_wp2_with fail
        go_round
        case rel => exact ⟨2, by omega, rfl⟩
        case measure => simp [intOf]
      | 2, _ =>
        go_wp2_with fail
        go_round
        case rel => exact ⟨3, by omega, rfl⟩
        case measure => simp [intOf]
      | 3, _ =>
        go_wp2_with fail
        go_ret
        exact ⟨rfl, HB.out⟩

end Go.Proofs.Ytfmdnhhdjjndbaa
