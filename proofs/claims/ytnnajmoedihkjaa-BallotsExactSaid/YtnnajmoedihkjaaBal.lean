/- Ballots out of the source: values a, b, c, aa (numbered 1 to 4, none is 0), and the contracts of package ballots over them. -/
import Derived.Test.YtnnajmoedihkjaaSrc
namespace Go.Proofs.Ytnnajmoedihkjaa
set_option linter.unusedVariables false
set_option linter.unusedSimpArgs false
open Go.RowKit

theorem grown_set {w a : World} {r : Option Nat} (h : w.grownBy a r) {p : Addr} (hp : w.heap.size ≤ p.block) (u : Value) : w.grownBy (a.setCell p u) r :=
  ⟨h.os, h.tape, h.output, by simpa [World.setCell] using h.size, fun k hk hr => (Below.heap_setCell _ _ _ _ (by omega)).trans (h.block k hk hr)⟩

theorem row_new (w : World) (xs : Array Value) (t : TypeId) (j : Nat) : (w.alloc (.cells xs t)).cell? ⟨w.heap.size, j, none⟩ = xs[j]? :=
  cell_of_row _ _ j xs t (0, 0) (heap_alloc_new _ _)

theorem row_at (w : World) (xs : Array Value) (t : TypeId) (j g : Nat) (hg : g = w.heap.size) : (w.alloc (.cells xs t)).cell? ⟨g, j, none⟩ = xs[j]? := by subst hg; exact row_new w xs t j

set_option maxHeartbeats 400000 in
theorem Value_run (w : World) (sb : Nat) (hs : SrcOk w sb) :
    Calls Try.prog 30 #[.pointer (some ⟨sb, 0, none⟩)] w fun e w' => ∃ i, 1 ≤ i ∧ i ≤ 4 ∧ e = .returned (.string (valOf i)) ∧ SrcOk w' sb ∧ w.grownBy w' (some sb) := by
  have HS := Lib.hid hs
  have hl := hs.lt
  clear hs
  go_enter Try.func30, Try.ntmps30
  go_wp2_with fail
  refine (Text_run _ sb w.heap.size [⟨#[97]⟩, ⟨#[98]⟩, ⟨#[99]⟩, ⟨#[97, 97]⟩] 4 rfl (by omega) (by omega) ?_ (by omega) (HS.out.alloc _)).mono ?_
  · intro j hj
    rw [row_new]
    match j, hj with
    | 0, _ => rfl
    | 1, _ => rfl
    | 2, _ => rfl
    | 3, _ => rfl
  · rintro e w1 ⟨j, hj, rfl, hs1, hg1⟩
    have HS1 := Lib.hid hs1
    have HG1 := Lib.hid hg1
    clear hs1 hg1
    match j, hj with
    | 0, _ => go_wp2_with fail; go_ret; exact ⟨1, by omega, by omega, rfl, HS1.out, grown_trans (grown_below (balloc (bref _) _)) HG1.out⟩
    | 1, _ => go_wp2_with fail; go_ret; exact ⟨2, by omega, by omega, rfl, HS1.out, grown_trans (grown_below (balloc (bref _) _)) HG1.out⟩
    | 2, _ => go_wp2_with fail; go_ret; exact ⟨3, by omega, by omega, rfl, HS1.out, grown_trans (grown_below (balloc (bref _) _)) HG1.out⟩
    | 3, _ => go_wp2_with fail; go_ret; exact ⟨4, by omega, by omega, rfl, HS1.out, grown_trans (grown_below (balloc (bref _) _)) HG1.out⟩

/-- A counter that the source gives. -/
def cntOf (j : Nat) : Int := [1, 2, 3, 4, 5, 1000, 1000000].getD j 0

theorem cntOf_bd {j : Nat} (h : j < 7) : 1 ≤ cntOf j ∧ cntOf j ≤ 1000000 ∧ (cntOf j ≤ 1000 ∨ cntOf j = 1000000) := by
  match j, h with
  | 0, _ | 1, _ | 2, _ | 3, _ | 4, _ | 5, _ | 6, _ => decide

set_option maxHeartbeats 400000 in
theorem Ballot_run (w : World) (sb : Nat) (hs : SrcOk w sb) :
    Calls Try.prog 10 #[.pointer (some ⟨sb, 0, none⟩)] w fun e w' => ∃ (c : Int) (i : Nat), 1 ≤ c ∧ c ≤ 1000000 ∧ (c ≤ 1000 ∨ c = 1000000) ∧ 1 ≤ i ∧ i ≤ 4 ∧ e = .returned (.agg #[.int .i64 c, .string (valOf i)]) ∧ SrcOk w' sb ∧ w.grownBy w' (some sb) := by
  have HS := Lib.hid hs
  have hl := hs.lt
  clear hs
  go_enter Try.func10, Try.ntmps10
  go_wp2_with fail
  refine (Pick_run _ sb (w.heap.size + 1) [1, 2, 3, 4, 5, 1000, 1000000] 7 rfl (by omega) (by omega) ?_ (by omega) ((HS.out.alloc _).alloc _)).mono ?_
  · intro j hj
    rw [row_at _ _ _ _ _ (by simp)]
    match j, hj with
    | 0, _ | 1, _ | 2, _ | 3, _ | 4, _ | 5, _ | 6, _ => rfl
  · rintro e w1 ⟨j, hj, rfl, hs1, hg1⟩
    have hbd := cntOf_bd hj
    have hl1 := hg1.block w.heap.size (by simp; omega) (by simp; omega)
    obtain ⟨c, hc⟩ : ∃ c, [1, 2, 3, 4, 5, 1000, 1000000].getD j (0 : Int) = c := ⟨_, rfl⟩
    have hbd' : 1 ≤ c ∧ c ≤ 1000000 ∧ (c ≤ 1000 ∨ c = 1000000) := by rw [← hc]; exact hbd
    rw [hc]
    have HS1 := Lib.hid hs1
    have HG1 := Lib.hid hg1
    have HL1 := Lib.hid hl1
    clear hs1 hg1 hbd hc hl1
    go_wp2_with fail
    refine (Value_run _ sb HS1.out).mono ?_
    rintro e w2 ⟨i, hi0, hi1, rfl, hs2, hg2⟩
    have hlt : w.heap.size < w1.heap.size := by have := HG1.out.size; simp at this; omega
    have hb2 : w2.heap[w.heap.size]? = some (.cells #[.int .i64 0, .string ⟨#[]⟩] 25 (0, 0)) := by
      rw [hg2.block w.heap.size hlt (by simp; omega), HL1.out, Below.heap_alloc _ _ _ (by simp)]
      exact heap_alloc_new _ _
    have c0 : w2.cell? ⟨w.heap.size, 0, none⟩ = some (.int .i64 0) := cell_of_row _ _ 0 _ _ (0, 0) hb2
    have c1 : w2.cell? ⟨w.heap.size, 1, none⟩ = some (.string ⟨#[]⟩) := cell_of_row _ _ 1 _ _ (0, 0) hb2
    have f0 : w2.frozen? ⟨w.heap.size, 0, none⟩ = false := by simp [World.frozen?, hb2]
    have f1 : w2.frozen? ⟨w.heap.size, 1, none⟩ = false := by simp [World.frozen?, hb2]
    have hl2 : w.heap.size < w2.heap.size := by have := hg2.size; omega
    have HS2 := Lib.hid hs2
    have HG2 := Lib.hid hg2
    clear hs2 hg2
    go_wp2_with fail
    refine bodyPost_ret (v := .agg #[.int .i64 c, .string (valOf i)]) ?_ rfl ⟨c, i, hbd'.1, hbd'.2.1, hbd'.2.2, hi0, hi1, rfl, (HS2.out.setCell (by omega) _).setCell (by omega) _, ?_⟩
    · simp [results, Try.results10, go_sem, hb2, c0, c1]
    · have g2 : w.grownBy w2 (some sb) := grown_trans (grown_trans (grown_below (balloc (balloc (bref _) _) _)) HG1.out) HG2.out
      exact grown_set (grown_set g2 (Nat.le_refl _) _) (Nat.le_refl _) _

/-- Does ballot (c, i) come before (d, j)? -/
def lessB (c : Int) (i : Nat) (d : Int) (j : Nat) : Bool := decide (c < d) || (decide (c = d) && decide (i < j))

def zeroB (c : Int) (i : Nat) : Bool := decide (c = 0) && decide (i = 0)

def covB (c : Int) (i : Nat) (d : Int) (j : Nat) : Bool := !zeroB c i && (decide (i = j) && decide (d ≤ c))

def abB (c : Int) (i : Nat) (d : Int) (j : Nat) : Bool := !zeroB c i && (!decide (i = j) && lessB d j c i)

theorem valOf_eq {i j : Nat} (hi : i ≤ 4) (hj : j ≤ 4) : (valOf i == valOf j) = decide (i = j) := by
  match i, j, hi, hj with
  | 0, 0, _, _ | 0, 1, _, _ | 0, 2, _, _ | 0, 3, _, _ | 0, 4, _, _ => rfl
  | 1, 0, _, _ | 1, 1, _, _ | 1, 2, _, _ | 1, 3, _, _ | 1, 4, _, _ => rfl
  | 2, 0, _, _ | 2, 1, _, _ | 2, 2, _, _ | 2, 3, _, _ | 2, 4, _, _ => rfl
  | 3, 0, _, _ | 3, 1, _, _ | 3, 2, _, _ | 3, 3, _, _ | 3, 4, _, _ => rfl
  | 4, 0, _, _ | 4, 1, _, _ | 4, 2, _, _ | 4, 3, _, _ | 4, 4, _, _ => rfl

set_option maxHeartbeats 4000000 in
theorem lessValue_run (i j : Nat) (w : World) (hi : i ≤ 4) (hj : j ≤ 4) :
    Calls Try.prog 18 #[.string (valOf i), .string (valOf j)] w fun e w' => e = .returned (.bool (decide (i < j))) ∧ w = w' := by
  match i, j, hi, hj with
  | 0, 0, _, _ | 0, 1, _, _ | 0, 2, _, _ | 0, 3, _, _ | 0, 4, _, _ | 1, 0, _, _ | 1, 1, _, _ | 1, 2, _, _ | 1, 3, _, _ | 1, 4, _, _
  | 2, 0, _, _ | 2, 1, _, _ | 2, 2, _, _ | 2, 3, _, _ | 2, 4, _, _ | 3, 0, _, _ | 3, 1, _, _ | 3, 2, _, _ | 3, 3, _, _ | 3, 4, _, _
  | 4, 0, _, _ | 4, 1, _, _ | 4, 2, _, _ | 4, 3, _, _ | 4, 4, _, _ =>
    unfold valOf
    go_enter Try.func18, Try.ntmps18
    go_wp2
    go_ret
    exact ⟨rfl, rfl⟩

end Go.Proofs.Ytnnajmoedihkjaa
