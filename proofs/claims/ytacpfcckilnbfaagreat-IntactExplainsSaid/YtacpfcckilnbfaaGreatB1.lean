/- What the laws of this seat share: part 1. -/
import Derived.Test.YtacpfcckilnbfaaGreatProg
import Derived.WalkKit
import Derived.WalkSpells
import Derived.WalkLawsBesides
import Derived.ArgAppend
import Derived.OwnWalk
import Derived.Lib.Hide
import Derived.IntWalk
import Derived.Deep.AppendLies
import Derived.Laws.OwnMore
import Derived.Laws.Rows
import Derived.ChangeSame
import Derived.OpenShut
import Derived.Deep.QuietTactic
import Derived.BigQuiet
import Derived.RegionTactic
import Derived.ChangeAlike
import Derived.BigRegion
import Derived.Laws.BitsAllLaws
import Derived.Laws.BitsLemmas
import Derived.Deep.DeepCutAuto
import Derived.Deep.CutRange
import Derived.Deep.Onto
import Derived.Deep.RegionLaw
import Derived.Deep.RegionHeld3

namespace Go.Proofs.YtacpfcckilnbfaaGreat
set_option linter.unusedVariables false
set_option linter.unusedSimpArgs false
open Go.RowKit Go.WideShapes Go.ChangeShapes

theorem infoInt : (Tryz.prog.info? 3).map (fun i => (i.zero, i.size, i.bytes)) = some (some (.int .i64 0), 1, 8) := by kernel_rfl

theorem below_drewN {B : Nat} {a w : World} (h : Below B a w) (n : Nat) : Below B a (w.drewN n) := ⟨h.os, h.tape, h.output, h.size, h.block⟩

theorem bstep {w a b : World} (h : Below w.heap.size w a) (k : Below a.heap.size a b) : Below w.heap.size w b := h.trans (k.mono h.size)

theorem bref (w : World) : Below w.heap.size w w := Below.refl _ _

theorem balloc {w a : World} (h : Below w.heap.size w a) (o : Obj) : Below w.heap.size w (a.alloc o) := h.alloc h.size o

theorem bdrew {w a : World} (h : Below w.heap.size w a) : Below w.heap.size w a.drew := h.drew

theorem bdrewN {w a : World} (h : Below w.heap.size w a) (n : Nat) : Below w.heap.size w (a.drewN n) := below_drewN h n

theorem bset {w a : World} (h : Below w.heap.size w a) {p : Addr} (hp : w.heap.size ≤ p.block) (u : Value) : Below w.heap.size w (a.setCell p u) := h.setCell hp u

section
variable {H : Type} {enc : TypeId × Value → H} {P : Program}

end

end Go.Proofs.YtacpfcckilnbfaaGreat

namespace Go.Proofs.YtacpfcckilnbfaaGreat
set_option linter.unusedVariables false
set_option linter.unusedSimpArgs false
open Go.RowKit

/-- A slice of integers that is read below block B. -/
def IsRow (k : IntKind) (w : World) (a : Option Addr) (len cap : Nat) (zs : List Int) : Prop :=
  (a = none ∧ len = 0 ∧ cap = 0 ∧ zs = []) ∨
  ∃ x, a = some x ∧ len ≤ cap ∧ cap ≤ maxLen ∧ zs.length = cap ∧ (∀ i, i < zs.length → w.cell? (x.add i) = some (.int k (zs.getD i 0))) ∧ ∀ n ∈ zs, (Lit.int k n).wf = true

theorem cell_lt {w : World} {p : Addr} {v : Value} (h : w.cell? p = some v) : p.block < w.heap.size := by
  rcases Nat.lt_or_ge p.block w.heap.size with h1 | h1
  · exact h1
  · simp [World.cell?, Array.getElem?_eq_none h1] at h

/-- What a call on a source leaves: new blocks, and its own block written. -/
abbrev Upto (w w' : World) (sb : Nat) : Prop := w.grownBy w' (some sb)

theorem grown_trans {a b c : World} {r : Option Nat} (h : a.grownBy b r) (k : b.grownBy c r) : a.grownBy c r :=
  ⟨k.os.trans h.os, k.tape.trans h.tape, k.output.trans h.output, Nat.le_trans h.size k.size, fun n hn hr => (k.block n (Nat.lt_of_lt_of_le hn h.size) hr).trans (h.block n hn hr)⟩

theorem grown_below {a b : World} {r : Option Nat} (h : Below a.heap.size a b) : a.grownBy b r := ⟨h.os, h.tape, h.output, h.size, fun n hn _ => h.block n hn⟩

/-- The five values: none, a, b, c, aa; in their order. -/
def valOf (i : Nat) : ByteArray := match i with | 1 => ⟨#[97]⟩ | 2 => ⟨#[98]⟩ | 3 => ⟨#[99]⟩ | 4 => ⟨#[97, 97]⟩ | _ => ⟨#[]⟩

end Go.Proofs.YtacpfcckilnbfaaGreat

namespace Go.Proofs.YtacpfcckilnbfaaGreat
set_option linter.unusedVariables false
set_option linter.unusedSimpArgs false
open Go.RowKit

/-- Block sb is a source. -/
def TapeOk (w : World) (sb : Nat) : Prop :=
  ∃ (a : Option Addr) (len cap at_ : Nat), w.heap[sb]? = some (.cells #[.slice a len cap, .int .i64 at_] 68 (0, 0)) ∧ at_ ≤ len ∧ len ≤ cap ∧ cap ≤ maxLen ∧
    ∀ i, i < len → ∃ (b off : Nat) (z : Int), a = some ⟨b, off, none⟩ ∧ b < sb ∧ w.cell? ⟨b, off + i, none⟩ = some (.int .i64 z) ∧ -9223372036854775808 ≤ z ∧ z ≤ 9223372036854775807

theorem TapeOk.lt {w : World} {sb : Nat} (h : TapeOk w sb) : sb < w.heap.size := by
  obtain ⟨a, len, cap, at_, hb, _⟩ := h
  rcases Nat.lt_or_ge sb w.heap.size with h | h
  · exact h
  · rw [Array.getElem?_eq_none h] at hb; cases hb

/-- A source outlives whatever leaves its own block and the older blocks alone. -/
theorem TapeOk.keep {w w' : World} {sb : Nat} (h : TapeOk w sb) (hk : ∀ k, k < w.heap.size → w'.heap[k]? = w.heap[k]?) : TapeOk w' sb := by
  have hl := h.lt
  obtain ⟨a, len, cap, at_, hb, h1, h2, h3, h4⟩ := h
  refine ⟨a, len, cap, at_, (hk _ hl).trans hb, h1, h2, h3, fun i hi => ?_⟩
  obtain ⟨b, off, z, e1, e2, e3, e4⟩ := h4 i hi
  exact ⟨b, off, z, e1, e2, (World.cell?_of_block (hk _ (cell_lt e3))).trans e3, e4⟩

theorem TapeOk.setCell {w : World} {sb : Nat} (h : TapeOk w sb) {p : Addr} (hp : sb < p.block) (v : Value) : TapeOk (w.setCell p v) sb := by
  obtain ⟨a, len, cap, at_, hb, h1, h2, h3, h4⟩ := h
  refine ⟨a, len, cap, at_, (Below.heap_setCell _ _ _ _ (by omega)).trans hb, h1, h2, h3, fun i hi => ?_⟩
  obtain ⟨b, off, z, e1, e2, e3, e4⟩ := h4 i hi
  exact ⟨b, off, z, e1, e2, (World.cell?_of_block (Below.heap_setCell _ _ _ b (by omega))).trans e3, e4⟩

theorem TapeOk.below {w w' : World} {sb : Nat} (h : TapeOk w sb) (hb : Below w.heap.size w w') : TapeOk w' sb := h.keep hb.block

theorem TapeOk.alloc {w : World} {sb : Nat} (h : TapeOk w sb) (o : Obj) : TapeOk (w.alloc o) sb := h.below (balloc (bref _) _)

theorem TapeOk.drewN {w : World} {sb : Nat} (h : TapeOk w sb) (n : Nat) : TapeOk (w.drewN n) sb := h

theorem TapeOk.drew {w : World} {sb : Nat} (h : TapeOk w sb) : TapeOk w.drew sb := h

theorem tape_step {w : World} {sb len cap at_ : Nat} {a : Option Addr} (hb : w.heap[sb]? = some (.cells #[.slice a len cap, .int .i64 at_] 68 (0, 0))) (h1 : at_ < len) (h2 : len ≤ cap) (h3 : cap ≤ maxLen)
    (h4 : ∀ i, i < len → ∃ (b off : Nat) (z : Int), a = some ⟨b, off, none⟩ ∧ b < sb ∧ w.cell? ⟨b, off + i, none⟩ = some (.int .i64 z) ∧ -9223372036854775808 ≤ z ∧ z ≤ 9223372036854775807) (k : Nat) :
    TapeOk ((w.drewN k).setCell ⟨sb, 1, none⟩ (.int .i64 ((at_ : Int) + 1))) sb ∧ w.grownBy ((w.drewN k).setCell ⟨sb, 1, none⟩ (.int .i64 ((at_ : Int) + 1))) (some sb) := by
  have hold : ∀ k', k' ≠ sb → ((w.drewN k).setCell ⟨sb, 1, none⟩ (.int .i64 ((at_ : Int) + 1))).heap[k']? = w.heap[k']? := by
    intro k' hks
    rw [Below.heap_setCell _ _ _ _ (by simpa using hks)]
    rfl
  refine ⟨⟨a, len, cap, at_ + 1, ?_, by omega, h2, h3, fun i hi => ?_⟩, ⟨rfl, rfl, rfl, by simp [World.setCell], fun k' _ hks => hold k' (fun e => hks (by rw [e]))⟩⟩
  · simp [World.setCell, Array.getElem?_modify, hb]
  · obtain ⟨b, off, z, e1, e2, e3, e4⟩ := h4 i hi
    exact ⟨b, off, z, e1, e2, (World.cell?_of_block (hold b (by omega))).trans e3, e4⟩

set_option maxHeartbeats 400000 in
theorem TN_run (w : World) (sb : Nat) (n : Int) (hn : 1 ≤ n) (hn1 : n ≤ 1000000000000000) (hs : TapeOk w sb) :
    Calls Tryz.prog 21 #[.pointer (some ⟨sb, 0, none⟩), .int .i64 n] w fun e w' => ∃ r : Int, 0 ≤ r ∧ r < n ∧ e = .returned (.int .i64 r) ∧ TapeOk w' sb ∧ w.grownBy w' (some sb) := by
  obtain ⟨a, len, cap, at_, hb, h1, h2, h3, h4⟩ := id hs
  have hl := hs.lt
  have c0 : w.cell? ⟨sb, 0, none⟩ = some (.slice a len cap) := by simp [World.cell?, hb]
  have c1 : w.cell? ⟨sb, 1, none⟩ = some (.int .i64 at_) := by simp [World.cell?, hb]
  have hf : w.frozen? ⟨sb, 1, none⟩ = false := by simp [World.frozen?, hb]
  have hm : len ≤ 9223372036854775807 := by unfold maxLen at h3; omega
  rcases Nat.lt_or_ge at_ len with hlt | hge
  · obtain ⟨b, off, z, rfl, hne, hz, z0, z1⟩ := h4 at_ hlt
    have ta := Int.lt_tmod_of_pos z (show 0 < n by omega)
    have tb := Int.tmod_lt_of_pos z (show 0 < n by omega)
    have HT := Lib.hid (fun k => tape_step hb hlt h2 h3 h4 k)
    have hd : decide ((len : Int) ≤ (at_ : Int)) = false := by simpa using hlt
    have t0 : (at_ : Int) < (len : Int) := by omega
    clear hb h4 hs
    by_cases hneg : z.tmod n < 0
    all_goals
      go_enter Tryz.func21, Tryz.ntmps21
      go_wp2_with fail
      go_quiet (fail)
      go_wp2_with fail
      go_quiet (fail)
      go_wp2_with fail
      go_ret
    · exact ⟨z.tmod n + n, by omega, by omega, rfl, (HT.out _).1, (HT.out _).2⟩
    · exact ⟨z.tmod n, by omega, by omega, rfl, (HT.out _).1, (HT.out _).2⟩
  · have HS := Lib.hid hs
    clear hb h4 hs
    have hd : decide ((len : Int) ≤ (at_ : Int)) = true := by simpa using hge
    go_enter Tryz.func21, Tryz.ntmps21
    go_wp2_with fail
    go_quiet (fail)
    go_wp2_with fail
    go_ret
    exact ⟨0, by omega, by omega, rfl, HS.out.drewN _, grown_below (bdrewN (bref _) _)⟩

set_option maxHeartbeats 400000 in
theorem TRange_run (w : World) (sb : Nat) (lo hi : Int) (h0 : -1000000 ≤ lo) (h1 : lo ≤ hi) (h2 : hi ≤ 1000000000000) (hs : TapeOk w sb) :
    Calls Tryz.prog 81 #[.pointer (some ⟨sb, 0, none⟩), .int .i64 lo, .int .i64 hi] w fun e w' => ∃ r : Int, lo ≤ r ∧ r ≤ hi ∧ e = .returned (.int .i64 r) ∧ TapeOk w' sb ∧ w.grownBy w' (some sb) := by
  have HS := Lib.hid hs
  clear hs
  go_enter Tryz.func81, Tryz.ntmps81
  go_wp2_with fail
  refine (TN_run _ _ _ (by omega) (by omega) HS.out).mono ?_
  rintro e w1 ⟨r, r0, r1, rfl, hs1, hg1⟩
  go_wp2_with fail
  go_ret
  exact ⟨lo + r, by omega, by omega, rfl, hs1, hg1⟩

theorem tape_new {w : World} {x : Addr} {L cap : Nat} {zs : List Int} (hL : L ≤ cap) (h2 : cap ≤ maxLen) (h3 : zs.length = cap)
    (h4 : ∀ i, i < zs.length → w.cell? (x.add i) = some (.int .i64 (zs.getD i 0))) (h5 : ∀ n ∈ zs, (Lit.int .i64 n).wf = true) :
    TapeOk (w.alloc (.cells #[.slice (some x) L cap, .int .i64 0] 68)) w.heap.size := by
  refine ⟨some x, L, cap, 0, heap_alloc_new _ _, by omega, hL, h2, fun i hi => ?_⟩
  obtain ⟨b, off, rfl, hc⟩ := Go.ints_at h4 (by omega)
  have h6 := hc i (by omega)
  have hb := cell_lt h6
  refine ⟨b, off, zs.getD i 0, rfl, by simp at hb; omega, (World.cell?_alloc_lt _ _ _ hb).trans h6, ?_⟩
  have hm : zs.getD i 0 ∈ zs := by
    rw [List.getD_eq_getElem?_getD, List.getElem?_eq_getElem (by omega)]
    exact List.getElem_mem _
  exact bounds_i64 (h5 _ hm)

set_option maxHeartbeats 400000 in
theorem TNew_run (w : World) (a : Option Addr) (len cap : Nat) (zs : List Int) (hr : IsRow .i64 w a len cap zs) :
    Calls Tryz.prog 12 #[.slice a len cap] w fun e w' => e = .returned (.pointer (some ⟨w.heap.size, 0, none⟩)) ∧ TapeOk w' w.heap.size ∧ Below w.heap.size w w' := by
  rcases hr with ⟨rfl, rfl, rfl, rfl⟩ | ⟨x, rfl, h1, h2, h3, h4, h5⟩
  · go_enter Tryz.func12, Tryz.ntmps12
    go_wp2_with fail
    go_ret
    refine ⟨rfl, ⟨none, 0, 0, 0, heap_alloc_new _ _, by omega, by omega, by unfold maxLen; omega, fun i hi => by omega⟩, balloc (bref _) _⟩
  · have hm : cap ≤ 9223372036854775807 := by unfold maxLen at h2; omega
    have H3 := Lib.hid h3
    have H4 := Lib.hid h4
    have H5 := Lib.hid h5
    clear h3 h4 h5
    by_cases h8 : len ≤ 400
    all_goals
      go_enter Tryz.func12, Tryz.ntmps12
      go_wp2_with fail
    all_goals first | (exfalso; omega) | skip
    all_goals
      go_ret
      exact ⟨rfl, tape_new (by omega) h2 H3.out H4.out H5.out, balloc (bref _) _⟩

end Go.Proofs.YtacpfcckilnbfaaGreat

namespace Go.Proofs.YtacpfcckilnbfaaGreat
set_option linter.unusedVariables false
set_option linter.unusedSimpArgs false
open Go.RowKit

/-- Block g is a row of at least n cells, of which the first n are numbers from 0 on below N, each once. -/
def OrdAt (w : World) (g n : Nat) (N : Int) : Prop :=
  ∃ cur : Array Value, w.heap[g]? = some (.cells cur 3 (0, 0)) ∧ n ≤ cur.size ∧ (∀ k, k < n → ∃ z : Int, cur[k]? = some (.int .i64 z) ∧ 0 ≤ z ∧ z < N) ∧
    ∀ k1 k2 z, k1 < n → k2 < n → cur[k1]? = some (.int .i64 z) → cur[k2]? = some (.int .i64 z) → k1 = k2

theorem OrdAt.lt {w : World} {g n : Nat} {N : Int} (h : OrdAt w g n N) : g < w.heap.size := by
  obtain ⟨cur, h1, _⟩ := h
  rcases Nat.lt_or_ge g w.heap.size with h2 | h2
  · exact h2
  · rw [Array.getElem?_eq_none h2] at h1; cases h1

theorem OrdAt.keep {w w' : World} {g n : Nat} {N : Int} (h : OrdAt w g n N) (hk : w'.heap[g]? = w.heap[g]?) : OrdAt w' g n N := by
  obtain ⟨cur, h1, h2⟩ := h
  exact ⟨cur, hk.trans h1, h2⟩

theorem OrdAt.cell {w : World} {g n : Nat} {N : Int} (h : OrdAt w g n N) {k : Nat} (hk : k < n) : ∃ z : Int, w.cell? ⟨g, k, none⟩ = some (.int .i64 z) ∧ w.frozen? ⟨g, k, none⟩ = false ∧ 0 ≤ z ∧ z < N := by
  obtain ⟨cur, h1, h2, h3, _⟩ := h
  obtain ⟨z, hz, z0, z1⟩ := h3 k hk
  exact ⟨z, (cell_of_row _ _ k _ _ (0, 0) h1).trans hz, by simp [World.frozen?, h1], z0, z1⟩

/-- Two cells exchanged. -/
theorem OrdAt.swap {w : World} {g n i k : Nat} {N x y : Int} (h : OrdAt w g n N) (hi : i < n) (hk : k < n) (hx : w.cell? ⟨g, i, none⟩ = some (.int .i64 x)) (hy : w.cell? ⟨g, k, none⟩ = some (.int .i64 y)) :
    OrdAt ((w.setCell ⟨g, i, none⟩ (.int .i64 y)).setCell ⟨g, k, none⟩ (.int .i64 x)) g n N := by
  obtain ⟨cur, h1, h2, h3, h4⟩ := h
  rw [cell_of_row _ _ i _ _ (0, 0) h1] at hx
  rw [cell_of_row _ _ k _ _ (0, 0) h1] at hy
  have hg : ((w.setCell ⟨g, i, none⟩ (.int .i64 y)).setCell ⟨g, k, none⟩ (.int .i64 x)).heap[g]? = some (.cells ((cur.setIfInBounds i (.int .i64 y)).setIfInBounds k (.int .i64 x)) 3 (0, 0)) := by
    simp [World.setCell, Array.getElem?_modify, h1]
  have key : ∀ m, ((cur.setIfInBounds i (.int .i64 y)).setIfInBounds k (.int .i64 x))[m]? = if m = k then (if m < cur.size then some (.int .i64 x) else none) else if m = i then (if m < cur.size then some (.int .i64 y) else none) else cur[m]? := by
    intro m
    simp only [Array.getElem?_setIfInBounds, Array.size_setIfInBounds]
    by_cases e1 : k = m <;> by_cases e2 : i = m <;> simp [e1, e2, eq_comm]
  refine ⟨_, hg, by simpa using h2, fun m hm => ?_, fun m1 m2 z hm1 hm2 e1 e2 => ?_⟩
  · rw [key]
    obtain ⟨zx, ex, bx⟩ := h3 i hi
    obtain ⟨zy, ey, byy⟩ := h3 k hk
    rw [hx] at ex; rw [hy] at ey
    cases ex; cases ey
    by_cases m1 : m = k
    · rw [if_pos m1, if_pos (by omega)]; exact ⟨x, rfl, bx⟩
    · rw [if_neg m1]
      by_cases m2 : m = i
      · rw [if_pos m2, if_pos (by omega)]; exact ⟨y, rfl, byy⟩
      · rw [if_neg m2]; exact h3 m hm
  · have tr : ∀ m, m < n → ((cur.setIfInBounds i (.int .i64 y)).setIfInBounds k (.int .i64 x))[m]? = cur[if m = k then i else if m = i then k else m]? := by
      intro m hm
      rw [key]
      by_cases f1 : m = k
      · simp only [f1, if_true]; rw [if_pos (by omega), hx]
      · by_cases f2 : m = i
        · subst f2; simp only [f1, if_false, if_true]; rw [if_pos (by omega), hy]
        · simp only [f1, f2, if_false]
    rw [tr m1 hm1] at e1
    rw [tr m2 hm2] at e2
    have := h4 _ _ z (by split <;> (try split) <;> omega) (by split <;> (try split) <;> omega) e1 e2
    split at this <;> split at this <;> (try split at this) <;> (try split at this) <;> omega

theorem ord_of_own {w : World} {v : Value} {n : Nat} {B : Nat} (h : w.ownsRow B 3 1 v n ((List.range n).map fun (i : Nat) => Value.int .i64 (i : Int))) (hn : 0 < n) :
    ∃ g cap, v = .slice (some ⟨g, 0, none⟩) n cap ∧ B ≤ g ∧ n ≤ cap ∧ cap ≤ maxLen ∧ OrdAt w g n n := by
  rcases h.2 with ⟨_, h0⟩ | ⟨g, cap, cur, hv, hb, hg, hnc, hcm, hsz, htake⟩
  · omega
  · refine ⟨g, cap, hv, hb, hnc, hcm, cur, hg, by omega, ?_, ?_⟩
    · intro k hk
      refine ⟨(k : Int), ?_, by omega, by omega⟩
      have : (cur.toList.take (n * 1))[k]? = some (Value.int .i64 (k : Int)) := by
        rw [htake]; simp [hk]
      rw [List.getElem?_take_of_lt (by omega)] at this
      simpa using this
    · intro k1 k2 z h1 h2 e1 e2
      have q1 : (cur.toList.take (n * 1))[k1]? = some (Value.int .i64 (k1 : Int)) := by rw [htake]; simp [h1]
      have q2 : (cur.toList.take (n * 1))[k2]? = some (Value.int .i64 (k2 : Int)) := by rw [htake]; simp [h2]
      rw [List.getElem?_take_of_lt (by omega)] at q1 q2
      rw [Array.getElem?_toList, e1] at q1
      rw [Array.getElem?_toList, e2] at q2
      simp at q1 q2
      omega

end Go.Proofs.YtacpfcckilnbfaaGreat

namespace Go.Proofs.YtacpfcckilnbfaaGreat
set_option linter.unusedVariables false
set_option linter.unusedSimpArgs false
open Go.RowKit

theorem gset {w a : World} {r : Option Nat} (h : w.grownBy a r) {p : Addr} (hp : w.heap.size ≤ p.block) (u : Value) : w.grownBy (a.setCell p u) r :=
  ⟨h.os, h.tape, h.output, by simpa [World.setCell] using h.size, fun k hk hr => (Below.heap_setCell _ _ _ _ (by omega)).trans (h.block k hk hr)⟩

theorem gdrew {w a : World} {r : Option Nat} (h : w.grownBy a r) : w.grownBy a.drew r := ⟨h.os, h.tape, h.output, h.size, h.block⟩

theorem own_step {w : World} {v : Value} {k : Nat} {B : Nat} (h : w.ownsRow B 3 1 v (k + 1) (((List.range k).map fun (i : Nat) => Value.int .i64 (i : Int)) ++ [.int .i64 (k : Int)])) :
    w.ownsRow B 3 1 v (k + 1) ((List.range (k + 1)).map fun (i : Nat) => Value.int .i64 (i : Int)) := by
  rw [List.range_succ, List.map_append]; exact h

set_option maxHeartbeats 4000000 in
theorem Order_run (w : World) (sb n : Nat) (hn : 1 ≤ n) (hn1 : n ≤ 1000) (hs : TapeOk w sb) :
    Calls Tryz.prog 132 #[.pointer (some ⟨sb, 0, none⟩), .int .i64 n] w fun e w' => ∃ g cap, e = .returned (.slice (some ⟨g, 0, none⟩) n cap) ∧ w.heap.size ≤ g ∧ n ≤ cap ∧ cap ≤ maxLen ∧ OrdAt w' g n n ∧ TapeOk w' sb ∧ w.grownBy w' (some sb) := by
  obtain ⟨i0, hi, hz0, hz1, hz2⟩ := info_parts infoInt
  have HS := Lib.hid hs
  have hsl := hs.lt
  clear hs
  go_enter Tryz.func132, Tryz.ntmps132
  go_wp2_with fail
  go_loopw [5, 6] (fun v t wr => ∃ k : Nat, k ≤ n ∧ t = .int .i64 k ∧ wr.ownsRow w.heap.size 3 1 v k ((List.range k).map fun (i : Nat) => Value.int .i64 (i : Int)) ∧ Hid (Below w.heap.size w wr)) (fun _ t _ => n - (intOf t).toNat)
  case atStart => exact ⟨0, by omega, rfl, World.ownsRow_nil _ _ _ _, Lib.hid (bref _)⟩
  case round =>
    obtain ⟨k, hk, rfl, hown, hb⟩ := hrel
    have hbz := hb.out.size
    by_cases hlt : k < n
    · go_wp2_with (at_builtin; refine wpList_append_own _ rfl _ _ 22 rfl w.heap.size 3 i0 (.int .i64 0) 1 8 Tryz.underlying22 hi hz0 hz1 hz2 rfl (by decide) _ _ _ rfl (hown.alloc _) ⟨wr.heap.size, 0, none⟩ 1 1 [.int .i64 (k : Int)] rfl rfl (cell_one_new _ _ _) (fun u hu => by simp at hu; subst hu; rfl) (by unfold maxLen; omega) (by omega) (by simp; omega) ?_; intro v' w1 hown' hgrow hnil)
      have HO := Lib.hid (own_step hown')
      have hb1 := Lib.hid (Below.grown (balloc hb.out (.cells #[.int .i64 (k : Int)] 3)) hgrow (by simp; omega) (fun j hj => (hown.lt j hj).1))
      clear hown' hgrow hnil hown
      go_wp2_with fail
      go_roundw
      case rel => exact ⟨k + 1, by omega, by go_num, HO.out, hb1⟩
      case measure => simp [intOf]; omega
    · obtain rfl : k = n := by omega
      obtain ⟨g, cap, rfl, hg0, hg1, hg2, hord⟩ := ord_of_own hown (by omega)
      have HT := Lib.hid (HS.out.below hb.out)
      have HOR := Lib.hid hord
      have hgl := hord.lt
      have HG := Lib.hid (grown_below (r := some sb) hb.out)
      clear hown hord
      go_wp2_with fail
      have hk1 : ((k : Int) - 1) = ((k - 1 : Nat) : Int) := by omega
      go_loopw [7] (fun t W => ∃ i : Nat, i < k ∧ t = .int .i64 i ∧ Hid (OrdAt W g k k) ∧ Hid (TapeOk W sb) ∧ Hid (w.grownBy W (some sb))) (fun t _ => (intOf t).toNat)
      case atStart => exact ⟨k - 1, by omega, by rw [hk1], HOR, HT, HG⟩
      case round =>
        clear hk1
        rename_i W
        obtain ⟨i, hi', rfl, hO, hTp, hGr⟩ := hrel
        by_cases hpos : 0 < i
        · go_wp2_with fail
          refine (TN_run _ sb _ (by omega) (by omega) hTp.out).mono ?_
          rintro e W2 ⟨r, hr0, hr1, rfl, hs2, hg2⟩
          obtain ⟨j, rfl⟩ := Int.eq_ofNat_of_zero_le hr0
          have hO2 : OrdAt W2 g k k := hO.out.keep (hg2.block g hO.out.lt (by simp; omega))
          obtain ⟨x, hx, fx, _, _⟩ := hO2.cell hi'
          obtain ⟨y, hy, fy, _, _⟩ := hO2.cell (show j < k by omega)
          have HO2 := Lib.hid hO2
          have HG2 := Lib.hid (grown_trans hGr.out hg2)
          have HS2 := Lib.hid hs2
          clear hO2 hs2 hg2
          have i0 : (0 : Int) ≤ (i : Int) := by omega
          have i1 : (i : Int) < (k : Int) := by omega
          have j1 : (j : Int) < (k : Int) := by omega
          by_cases hij : i = j
          · subst hij
            have hxy : x = y := by
              rw [hx] at hy
              simpa using hy
            subst hxy
            clear hy fy
            have hx2 : (W2.setCell ⟨g, i, none⟩ (.int .i64 x)).cell? ⟨g, i, none⟩ = some (.int .i64 x) := by
              obtain ⟨v', hv⟩ := cell?_setCell_some (w := W2) (p := ⟨g, i, none⟩) (x := .int .i64 x) (q := ⟨g, i, none⟩) (v := .int .i64 x) hx
              have := (HO2.out.swap hi' hi' hx hx)
              obtain ⟨cur, h1, h2, h3, _⟩ := HO2.out
              have hg' : (W2.setCell ⟨g, i, none⟩ (.int .i64 x)).heap[g]? = some (.cells (cur.setIfInBounds i (.int .i64 x)) 3 (0, 0)) := by
                simp [World.setCell, Array.getElem?_modify, h1]
              rw [cell_of_row _ _ i _ _ (0, 0) hg', Array.getElem?_setIfInBounds]
              simp
              omega
            go_wp2_with fail
            go_region
            all_goals
              go_wp2_with fail
              go_roundw
              case rel => exact ⟨i - 1, by omega, by go_num, Lib.hid ((HO2.out.swap hi' hi' hx hx).keep rfl), Lib.hid (((HS2.out.setCell (by simp; omega) _).setCell (by simp; omega) _).drew), Lib.hid (gdrew (gset (gset HG2.out (by simp; omega) _) (by simp; omega) _))⟩
              case measure => simp [intOf]; omega
          · go_wp2_with fail
            go_region
            all_goals
              go_wp2_with fail
              go_roundw
              case rel => exact ⟨i - 1, by omega, by go_num, Lib.hid ((HO2.out.swap hi' (show j < k by omega) hx hy).keep rfl), Lib.hid (((HS2.out.setCell (by simp; omega) _).setCell (by simp; omega) _).drew), Lib.hid (gdrew (gset (gset HG2.out (by simp; omega) _) (by simp; omega) _))⟩
              case measure => simp [intOf]; omega
        · obtain rfl : i = 0 := by omega
          go_wp2_with fail
          go_ret
          exact ⟨g, cap, rfl, hg0, hg1, hg2, hO.out, hTp.out, hGr.out⟩

end Go.Proofs.YtacpfcckilnbfaaGreat

namespace Go.Proofs.YtacpfcckilnbfaaGreat
set_option linter.unusedVariables false
set_option linter.unusedSimpArgs false
open Go.RowKit

def setB (s : Int) : Bool := decide (0 ≤ s) && decide (s ≤ 1023)

def nodeB (k : Int) : Bool := decide (0 ≤ k) && decide (k < 10)

theorem setB_iff {s : Int} : setB s = true ↔ 0 ≤ s ∧ s ≤ 1023 := by unfold setB; simp

theorem nodeB_iff {s : Int} : nodeB s = true ↔ 0 ≤ s ∧ s < 10 := by unfold nodeB; simp

/-- Is node k in set s? -/
def hasB (s k : Int) : Bool := setB s && (nodeB k && s.toNat.testBit k.toNat)

set_option maxHeartbeats 400000 in
theorem setValid_run (s : Int) (w : World) : Calls Tryz.prog 88 #[.int .i64 s] w fun e w' => e = .returned (.bool (setB s)) ∧ w = w' := by
  cases hb : setB s
  all_goals
    have hi := setB_iff (s := s)
    rw [hb] at hi
    simp only [reduceCtorEq, false_iff, true_iff] at hi
    clear hb
    by_cases h0 : 0 ≤ s <;> by_cases h1 : s ≤ 1023
  all_goals first | (exfalso; omega) | skip
  all_goals
    clear hi
    go_enter Tryz.func88, Tryz.ntmps88
    go_wp2
    go_ret
    exact ⟨rfl, rfl⟩

set_option maxHeartbeats 400000 in
theorem isNode_run (s : Int) (w : World) : Calls Tryz.prog 109 #[.int .i64 s] w fun e w' => e = .returned (.bool (nodeB s)) ∧ w = w' := by
  cases hb : nodeB s
  all_goals
    have hi := nodeB_iff (s := s)
    rw [hb] at hi
    simp only [reduceCtorEq, false_iff, true_iff] at hi
    clear hb
    by_cases h0 : 0 ≤ s <;> by_cases h1 : s < 10
  all_goals first | (exfalso; omega) | skip
  all_goals
    clear hi
    go_enter Tryz.func109, Tryz.ntmps109
    go_wp2
    go_ret
    exact ⟨rfl, rfl⟩

theorem ofInt_i64 (a : Nat) (ha : a < 9223372036854775808) : (BitVec.ofInt 64 (a : Int)).toNat = a := by
  rw [BitVec.ofInt_natCast, BitVec.toNat_ofNat]; exact Nat.mod_eq_of_lt (by omega)

theorem i64_and_nat (a b : Nat) (ha : a < 9223372036854775808) (hb : b < 9223372036854775808) : bits .and .i64 (a : Int) (b : Int) = ((a &&& b : Nat) : Int) := by
  have hx : a &&& b < 2 ^ 63 := Nat.and_lt_two_pow _ (by omega)
  show IntKind.i64.wrap ((BitVec.ofInt 64 (a : Int) &&& BitVec.ofInt 64 (b : Int)).toNat : Int) = _
  rw [BitVec.toNat_and, ofInt_i64 a ha, ofInt_i64 b hb, IntKind.wrap_i64]
  omega

theorem bit_fact (S K : Nat) (h : S ≤ 1023) : (bits .and .i64 ((S : Int) / 2 ^ K) 1 == 1) = S.testBit K := by
  have e : ((S : Int) / 2 ^ K) = ((S / 2 ^ K : Nat) : Int) := by
    rw [Int.natCast_ediv, Int.natCast_pow]; rfl
  have hq := Nat.div_le_self S (2 ^ K)
  have h1 := i64_and_nat (S / 2 ^ K) 1 (by omega) (by omega)
  rw [e, show (1 : Int) = ((1 : Nat) : Int) from rfl, h1, Nat.and_one_is_mod, Nat.testBit_eq_decide_div_mod_eq, Bool.eq_iff_iff]
  simp
  omega

set_option maxHeartbeats 1000000 in
theorem has_run (s k : Int) (w : World) : Calls Tryz.prog 76 #[.int .i64 s, .int .i64 k] w fun e w' => e = .returned (.bool (hasB s k)) ∧ w = w' := by
  cases h1 : setB s
  · have HH := Lib.hid (show hasB s k = false by unfold hasB; simp [h1])
    go_enter Tryz.func76, Tryz.ntmps76
    go_wp2_with (first | (go_at_call 88; refine (setValid_run _ _).mono ?_; rintro e w2 ⟨rfl, rfl⟩) | (go_at_call 109; refine (isNode_run _ _).mono ?_; rintro e w2 ⟨rfl, rfl⟩))
    go_ret
    exact ⟨by rw [HH.out]; rfl, rfl⟩
  · cases h2 : nodeB k
    · have HH := Lib.hid (show hasB s k = false by unfold hasB; simp [h1, h2])
      go_enter Tryz.func76, Tryz.ntmps76
      go_wp2_with (first | (go_at_call 88; refine (setValid_run _ _).mono ?_; rintro e w2 ⟨rfl, rfl⟩) | (go_at_call 109; refine (isNode_run _ _).mono ?_; rintro e w2 ⟨rfl, rfl⟩))
      go_ret
      exact ⟨by rw [HH.out]; rfl, rfl⟩
    · obtain ⟨s0, s1⟩ := setB_iff.1 h1
      obtain ⟨k0, k1⟩ := nodeB_iff.1 h2
      obtain ⟨S, rfl⟩ := Int.eq_ofNat_of_zero_le s0
      obtain ⟨K, rfl⟩ := Int.eq_ofNat_of_zero_le k0
      have HH := Lib.hid (show hasB (S : Int) (K : Int) = S.testBit K by unfold hasB; simp [h1, h2])
      go_enter Tryz.func76, Tryz.ntmps76
      go_wp2_with (first | (go_at_call 88; refine (setValid_run _ _).mono ?_; rintro e w2 ⟨rfl, rfl⟩) | (go_at_call 109; refine (isNode_run _ _).mono ?_; rintro e w2 ⟨rfl, rfl⟩))
      go_ret
      exact ⟨by rw [HH.out, ← bit_fact S K (by omega)]; rfl, rfl⟩

end Go.Proofs.YtacpfcckilnbfaaGreat

namespace Go.Proofs.YtacpfcckilnbfaaGreat
set_option linter.unusedVariables false
set_option linter.unusedSimpArgs false
open Go.RowKit

/-- A trust as a datum. -/
inductive Tree where
  | mk (thr : Int) (nodes : List Int) (inner : List Tree)

/-- The three cells of a trust, v0 v1 v2, read as T; at most d levels. -/
def TAt (P : Nat → Prop) : Nat → World → Value → Value → Value → Tree → Prop
  | 0, _, _, _, _, _ => False
  | d + 1, w, v0, v1, v2, .mk thr ns is =>
      v0 = .int .i64 thr ∧ ns.length ≤ 1000000 ∧ is.length ≤ 1000000 ∧
      (∃ A c, v1 = .slice A ns.length c ∧ ∀ k, k < ns.length → ∃ b off, A = some ⟨b, off, none⟩ ∧ P b ∧ w.cell? ⟨b, off + k, none⟩ = some (.int .i64 (ns.getD k 0))) ∧
      (∃ A c, v2 = .slice A is.length c ∧ ∀ k T, is[k]? = some T → ∃ b off x0 x1 x2, A = some ⟨b, off, none⟩ ∧ P b ∧ w.cell? ⟨b, off + k * 3, none⟩ = some x0 ∧ w.cell? ⟨b, off + k * 3 + 1, none⟩ = some x1 ∧ w.cell? ⟨b, off + k * 3 + 2, none⟩ = some x2 ∧ TAt P d w x0 x1 x2 T)

theorem TAt.both {P Q : Nat → Prop} {w w' : World} (hk : ∀ k, k < w.heap.size → P k → w'.heap[k]? = w.heap[k]?) (hq : ∀ k, k < w.heap.size → P k → Q k) : ∀ (d : Nat) (v0 v1 v2 : Value) (T : Tree), TAt P d w v0 v1 v2 T → TAt Q d w' v0 v1 v2 T := by
  intro d
  induction d with
  | zero => intro v0 v1 v2 T h; exact h.elim
  | succ d ih =>
    intro v0 v1 v2 T h
    obtain ⟨thr, ns, is⟩ := T
    obtain ⟨h0, hn, hi, ⟨A, c, h1, h2⟩, ⟨B, c', h3, h4⟩⟩ := h
    refine ⟨h0, hn, hi, ⟨A, c, h1, fun k hk' => ?_⟩, ⟨B, c', h3, fun k T hT => ?_⟩⟩
    · obtain ⟨b, off, e1, en, e2⟩ := h2 k hk'
      exact ⟨b, off, e1, hq _ (cell_lt e2) en, (World.cell?_of_block (hk _ (cell_lt e2) en)).trans e2⟩
    · obtain ⟨b, off, x0, x1, x2, e1, en, e2, e3, e4, e5⟩ := h4 k T hT
      exact ⟨b, off, x0, x1, x2, e1, hq _ (cell_lt e2) en, (World.cell?_of_block (hk _ (cell_lt e2) en)).trans e2, (World.cell?_of_block (hk _ (cell_lt e3) en)).trans e3, (World.cell?_of_block (hk _ (cell_lt e4) en)).trans e4, ih _ _ _ _ e5⟩

theorem TAt.keep {P : Nat → Prop} {w w' : World} (hk : ∀ k, k < w.heap.size → P k → w'.heap[k]? = w.heap[k]?) {d : Nat} {v0 v1 v2 : Value} {T : Tree} (h : TAt P d w v0 v1 v2 T) : TAt P d w' v0 v1 v2 T := TAt.both hk (fun _ _ h => h) _ _ _ _ _ h

theorem TAt.imp {P Q : Nat → Prop} {w : World} (hq : ∀ k, k < w.heap.size → P k → Q k) {d : Nat} {v0 v1 v2 : Value} {T : Tree} (h : TAt P d w v0 v1 v2 T) : TAt Q d w v0 v1 v2 T := TAt.both (fun _ _ _ => rfl) hq _ _ _ _ _ h

theorem TAt.below {P : Nat → Prop} {w w' : World} {d : Nat} {v0 v1 v2 : Value} {T : Tree} (h : TAt P d w v0 v1 v2 T) (hb : Below w.heap.size w w') : TAt P d w' v0 v1 v2 T := TAt.keep (fun k h1 _ => hb.block k h1) h

theorem TAt.up {P : Nat → Prop} {w : World} : ∀ {d : Nat} {v0 v1 v2 : Value} {T : Tree}, TAt P d w v0 v1 v2 T → TAt P (d + 1) w v0 v1 v2 T := by
  intro d
  induction d with
  | zero => intro v0 v1 v2 T h; exact h.elim
  | succ d ih =>
    intro v0 v1 v2 T h
    obtain ⟨thr, ns, is⟩ := T
    obtain ⟨h0, hn, hi, h1, ⟨B, c', h3, h4⟩⟩ := h
    refine ⟨h0, hn, hi, h1, ⟨B, c', h3, fun k T hT => ?_⟩⟩
    obtain ⟨b, off, x0, x1, x2, e1, en, e2, e3, e4, e5⟩ := h4 k T hT
    exact ⟨b, off, x0, x1, x2, e1, en, e2, e3, e4, ih e5⟩

theorem TAt.form {P : Nat → Prop} {w : World} {d : Nat} {v0 v1 v2 : Value} {T : Tree} (h : TAt P d w v0 v1 v2 T) : ∃ (t : Int) (A : Option Addr) (n c : Nat) (B : Option Addr) (m c' : Nat), v0 = .int .i64 t ∧ v1 = .slice A n c ∧ v2 = .slice B m c' := by
  cases d with
  | zero => exact h.elim
  | succ d =>
    obtain ⟨thr, ns, is⟩ := T
    obtain ⟨h0, _, _, ⟨A, c, h1, _⟩, ⟨B, c', h2, _⟩⟩ := h
    exact ⟨thr, A, _, c, B, _, c', h0, h1, h2⟩

/-- How many of a list hold. -/
def cnt {α : Type} (p : α → Bool) (l : List α) : Nat := (l.filter p).length

theorem cnt_take_succ {α : Type} (p : α → Bool) (l : List α) (k : Nat) (x : α) (h : l[k]? = some x) : cnt p (l.take (k + 1)) = cnt p (l.take k) + if p x then 1 else 0 := by
  unfold cnt
  rw [List.take_add_one, h]
  simp only [Option.toList_some, List.filter_append, List.length_append]
  by_cases hp : p x <;> simp [hp]

theorem cnt_take_le {α : Type} (p : α → Bool) (l : List α) (k : Nat) : cnt p (l.take k) ≤ cnt p l := by
  unfold cnt
  exact (List.Sublist.filter p (List.take_sublist k l)).length_le

theorem cnt_le {α : Type} (p : α → Bool) (l : List α) : cnt p l ≤ l.length := by unfold cnt; exact List.length_filter_le _ _

/-- Does the predicate p of nodes satisfy the trust? -/
def holdsT : Nat → (Int → Bool) → Tree → Bool
  | 0, _, _ => false
  | d + 1, p, .mk thr ns is => decide (thr ≤ ((cnt p ns + cnt (holdsT d p) is : Nat) : Int))

theorem cnt_full {α : Type} (p : α → Bool) (l : List α) : cnt p (l.take l.length) = cnt p l := by rw [List.take_length]

set_option maxHeartbeats 4000000 in
theorem holds_run (P : Nat → Prop) : ∀ (d : Nat) (T : Tree) (v0 v1 v2 : Value) (s : Int) (w : World), TAt P d w v0 v1 v2 T →
    Calls Tryz.prog 126 #[.agg #[v0, v1, v2], .int .i64 s] w fun e w' => e = .returned (.bool (holdsT d (hasB s) T)) ∧ Below w.heap.size w w' := by
  intro d
  induction d with
  | zero => intro T v0 v1 v2 s w h; exact h.elim
  | succ d ih =>
    intro T v0 v1 v2 s w h
    have hT := Lib.hid h
    obtain ⟨thr, ns, is⟩ := T
    obtain ⟨rfl, hn, hi, ⟨A, c, rfl, h2⟩, ⟨B, c', rfl, h4⟩⟩ := h
    have hB1 := Lib.hid (balloc (bref w) (.cells #[.int .i64 thr, .slice A ns.length c, .slice B is.length c'] 73))
    have hbox : (w.alloc (.cells #[.int .i64 thr, .slice A ns.length c, .slice B is.length c'] 73)).heap[w.heap.size]? = some (.cells #[.int .i64 thr, .slice A ns.length c, .slice B is.length c'] 73 (0, 0)) := heap_alloc_new _ _
    have H2 := Lib.hid (fun k hk => by
      obtain ⟨b, off, e1, _, e2⟩ := h2 k hk
      exact (⟨b, off, e1, (World.cell?_alloc_lt _ _ _ (cell_lt e2)).trans e2⟩ : ∃ b off, A = some ⟨b, off, none⟩ ∧ (w.alloc (.cells #[.int .i64 thr, .slice A ns.length c, .slice B is.length c'] 73)).cell? ⟨b, off + k, none⟩ = some (.int .i64 (ns.getD k 0))))
    have H4 := Lib.hid (fun k T (hT : is[k]? = some T) => by
      obtain ⟨b, off, x0, x1, x2, e1, _, e2, e3, e4, e5⟩ := h4 k T hT
      exact (⟨b, off, x0, x1, x2, e1, (World.cell?_alloc_lt _ _ _ (cell_lt e2)).trans e2, (World.cell?_alloc_lt _ _ _ (cell_lt e3)).trans e3, (World.cell?_alloc_lt _ _ _ (cell_lt e4)).trans e4, e5.below (balloc (bref w) (.cells #[.int .i64 thr, .slice A ns.length c, .slice B is.length c'] 73))⟩ :
        ∃ b off x0 x1 x2, B = some ⟨b, off, none⟩ ∧ (w.alloc (.cells #[.int .i64 thr, .slice A ns.length c, .slice B is.length c'] 73)).cell? ⟨b, off + k * 3, none⟩ = some x0 ∧ (w.alloc (.cells #[.int .i64 thr, .slice A ns.length c, .slice B is.length c'] 73)).cell? ⟨b, off + k * 3 + 1, none⟩ = some x1 ∧ (w.alloc (.cells #[.int .i64 thr, .slice A ns.length c, .slice B is.length c'] 73)).cell? ⟨b, off + k * 3 + 2, none⟩ = some x2 ∧ TAt P d (w.alloc (.cells #[.int .i64 thr, .slice A ns.length c, .slice B is.length c'] 73)) x0 x1 x2 T))
    have HD := Lib.hid (show holdsT (d + 1) (hasB s) (.mk thr ns is) = decide (thr ≤ ((cnt (hasB s) ns + cnt (holdsT d (hasB s)) is : Nat) : Int)) from rfl)
    have IH := Lib.hid ih
    have hcn := cnt_le (hasB s) ns
    have hci := cnt_le (holdsT d (hasB s)) is
    clear h2 h4 ih hT
    go_enter Tryz.func126, Tryz.ntmps126
    go_upto_region 2 with fail
    generalize w.alloc (.cells #[.int .i64 thr, .slice A ns.length c, .slice B is.length c'] 73) = W1 at *
    have hbl : w.heap.size < W1.heap.size := by
      rcases Nat.lt_or_ge w.heap.size W1.heap.size with h | h
      · exact h
      · rw [Array.getElem?_eq_none h] at hbox; cases hbox
    generalize hg : w.heap.size = g at *
    have hgw := Lib.hid hg
    clear hg
    have b0 : W1.cell? ⟨g, 0, none⟩ = some (.int .i64 thr) := cell_of_row _ _ 0 _ _ (0, 0) hbox
    have b1 : W1.cell? ⟨g, 1, none⟩ = some (.slice A ns.length c) := cell_of_row _ _ 1 _ _ (0, 0) hbox
    have b2 : W1.cell? ⟨g, 2, none⟩ = some (.slice B is.length c') := cell_of_row _ _ 2 _ _ (0, 0) hbox
    have HX := Lib.hid hbox
    clear hbox
    go_wp2_with fail
    go_loop [5, 13] (fun u t => ∃ k : Nat, k ≤ ns.length ∧ t = .int .i64 k ∧ u = .int .i64 ((cnt (hasB s) (ns.take k) : Nat) : Int)) (fun _ t => ns.length - (intOf t).toNat)
    case atStart => exact ⟨0, by omega, rfl, rfl⟩
    case round =>
      obtain ⟨k, hk, rfl, rfl⟩ := hrel
      have hle := cnt_take_le (hasB s) ns k
      by_cases hlt : k < ns.length
      · obtain ⟨b, off, rfl, hc⟩ := H2.out k hlt
        have hs' := cnt_take_succ (hasB s) ns k (ns.getD k 0) (by rw [List.getD_eq_getElem?_getD, List.getElem?_eq_getElem hlt]; rfl)
        obtain ⟨x, hx⟩ : ∃ x, ns.getD k 0 = x := ⟨_, rfl⟩
        rw [hx] at hc hs'
        clear hx
        cases hv : hasB s x
        all_goals
          rw [hv] at hs'
          have HS := Lib.hid hs'
          clear hs'
          go_wp2_with fail
          refine (has_run _ _ _).mono ?_
          rintro e w2 ⟨rfl, rfl⟩
          rw [hv]
          go_wp2_with fail
          go_round
          case rel => exact ⟨k + 1, by omega, by go_num, by rw [HS.out]; first | rfl | (simp)⟩
          case measure => simp [intOf]; omega
      · obtain rfl : k = ns.length := by omega
        have hfull := Lib.hid (cnt_full (hasB s) ns)
        go_wp2_with fail
        go_loopw [5, 26] (fun u t W => ∃ k : Nat, k ≤ is.length ∧ t = .int .i64 k ∧ u = .int .i64 ((cnt (hasB s) ns + cnt (holdsT d (hasB s)) (is.take k) : Nat) : Int) ∧ Hid (Below W1.heap.size W1 W)) (fun _ t _ => is.length - (intOf t).toNat)
        case atStart => exact ⟨0, by omega, rfl, rfl, Lib.hid (bref _)⟩
        case round =>
          obtain ⟨k, hk, rfl, rfl, hBr⟩ := hrel
          have hle := cnt_take_le (holdsT d (hasB s)) is k
          have d0 : wr.cell? ⟨g, 0, none⟩ = some (.int .i64 thr) := (hBr.out.cell (p := ⟨g, 0, none⟩) hbl).trans b0
          have hgr : g < wr.heap.size := Nat.lt_of_lt_of_le hbl hBr.out.size
          by_cases hlt : k < is.length
          · obtain ⟨b, off, x0, x1, x2, rfl, c0, c1, c2, hTk⟩ := H4.out k (is[k]) (List.getElem?_eq_getElem hlt)
            obtain ⟨t', A', n', ca, B', m', cb, rfl, rfl, rfl⟩ := hTk.form
            have hs' := cnt_take_succ (holdsT d (hasB s)) is k (is[k]) (List.getElem?_eq_getElem hlt)
            have e0 : wr.cell? ⟨b, off + k * 3, none⟩ = some (.int .i64 t') := (hBr.out.cell (p := ⟨b, off + k * 3, none⟩) (cell_lt c0)).trans c0
            have e1 : wr.cell? ⟨b, off + k * 3 + 1, none⟩ = some (.slice A' n' ca) := (hBr.out.cell (p := ⟨b, off + k * 3 + 1, none⟩) (cell_lt c1)).trans c1
            have e2 : wr.cell? ⟨b, off + k * 3 + 2, none⟩ = some (.slice B' m' cb) := (hBr.out.cell (p := ⟨b, off + k * 3 + 2, none⟩) (cell_lt c2)).trans c2
            have hlb := cell_lt e0
            have hTr := Lib.hid ((hTk.below hBr.out).below (balloc (bref wr) (.cells #[.int .i64 t', .slice A' n' ca, .slice B' m' cb] 73)))
            have hBa := Lib.hid (balloc hBr.out (.cells #[.int .i64 t', .slice A' n' ca, .slice B' m' cb] 73))
            clear c0 c1 c2 hTk
            by_cases hbr : thr ≤ ((cnt (hasB s) ns + cnt (holdsT d (hasB s)) (is.take k) : Nat) : Int)
            · have HT : Hid (holdsT (d + 1) (hasB s) (.mk thr ns is) = true) := Lib.hid (by rw [HD.out, decide_eq_true_eq]; omega)
              go_wp2_with fail
              go_ret
              exact ⟨by rw [HT.out]; rfl, by have h1 := hB1.out; rw [← hgw.out] at h1; exact bstep h1 (balloc hBr.out _)⟩
            · generalize is[k] = Tk at *
              cases hv : holdsT d (hasB s) Tk
              all_goals
                rw [hv] at hs'
                have HS := Lib.hid hs'
                clear hs'
                go_wp2_with fail
                refine (IH.out Tk _ _ _ s _ hTr.out).mono ?_
                rintro e w2 ⟨rfl, hb2⟩
                rw [hv]
                have hB2 := Lib.hid (bstep hBa.out hb2)
                clear hb2
                go_wp2_with fail
                go_roundw
                case rel => exact ⟨k + 1, by omega, by go_num, by rw [HS.out]; first | rfl | (simp; omega) | simp, hB2⟩
                case measure => simp [intOf]; omega
          · obtain rfl : k = is.length := by omega
            have hful2 := Lib.hid (cnt_full (holdsT d (hasB s)) is)
            have HT : Hid (holdsT (d + 1) (hasB s) (.mk thr ns is) = decide (thr ≤ (cnt (hasB s) ns : Int) + (cnt (holdsT d (hasB s)) is : Int))) := Lib.hid (by rw [HD.out, Int.natCast_add])
            by_cases hend : thr ≤ (cnt (hasB s) ns : Int) + (cnt (holdsT d (hasB s)) is : Int)
            all_goals
              go_wp2_with fail
              go_ret
              exact ⟨by rw [HT.out]; simp [hend], by have h1 := hB1.out; rw [← hgw.out] at h1; exact bstep h1 hBr.out⟩

end Go.Proofs.YtacpfcckilnbfaaGreat

namespace Go.Proofs.YtacpfcckilnbfaaGreat
set_option linter.unusedVariables false
set_option linter.unusedSimpArgs false
open Go.RowKit

def satB (d : Nat) (T : Tree) (s : Int) : Bool := setB s && holdsT d (hasB s) T

def blkB (d : Nat) (T : Tree) (s : Int) : Bool := setB s && !holdsT d (hasB (1023 - s)) T

set_option maxHeartbeats 1000000 in
theorem satisfied_run (P : Nat → Prop) (d : Nat) (T : Tree) (v0 v1 v2 : Value) (s : Int) (w : World) (h : TAt P d w v0 v1 v2 T) :
    Calls Tryz.prog 99 #[.agg #[v0, v1, v2], .int .i64 s] w fun e w' => e = .returned (.bool (satB d T s)) ∧ Below w.heap.size w w' := by
  obtain ⟨t', A', n', ca, B', m', cb, rfl, rfl, rfl⟩ := h.form
  have hT := Lib.hid (h.below (balloc (bref w) (.cells #[.int .i64 t', .slice A' n' ca, .slice B' m' cb] 73)))
  clear h
  cases hs : setB s
  · have HS := Lib.hid (show satB d T s = false by unfold satB; simp [hs])
    go_enter Tryz.func99, Tryz.ntmps99
    go_wp2_with fail
    refine (setValid_run _ _).mono ?_
    rintro e w2 ⟨rfl, rfl⟩
    rw [hs]
    go_wp2_with fail
    go_ret
    exact ⟨by rw [HS.out]; rfl, balloc (bref _) _⟩
  · have HS := Lib.hid (show satB d T s = holdsT d (hasB s) T by unfold satB; simp [hs])
    go_enter Tryz.func99, Tryz.ntmps99
    go_wp2_with fail
    refine (setValid_run _ _).mono ?_
    rintro e w2 ⟨rfl, rfl⟩
    rw [hs]
    go_wp2_with fail
    refine (holds_run P d T _ _ _ s _ hT.out).mono ?_
    rintro e w3 ⟨rfl, hb3⟩
    go_wp2_with fail
    go_ret
    exact ⟨by rw [HS.out]; rfl, bstep (balloc (bref _) _) hb3⟩

end Go.Proofs.YtacpfcckilnbfaaGreat

namespace Go.Proofs.YtacpfcckilnbfaaGreat
set_option linter.unusedVariables false
set_option linter.unusedSimpArgs false
open Go.RowKit

theorem infoTrust : (Tryz.prog.info? 73).map (fun i => (i.zero, i.size, i.bytes)) = some (some (.agg #[.int .i64 0, .slice none 0 0, .slice none 0 0]), 3, 56) := by kernel_rfl

set_option maxHeartbeats 400000 in
theorem TPick_run (w : World) (sb g : Nat) (l : List Int) (n : Nat) (hn : l.length = n) (hn0 : 1 ≤ n) (hn1 : n ≤ 1000) (hc : ∀ j, j < n → w.cell? ⟨g, j, none⟩ = some (.int .i64 (l.getD j 0))) (hne : g ≠ sb) (hs : TapeOk w sb) :
    Calls Tryz.prog 46 #[.pointer (some ⟨sb, 0, none⟩), .slice (some ⟨g, 0, none⟩) n n] w fun e w' => ∃ j, j < n ∧ e = .returned (.int .i64 (l.getD j 0)) ∧ TapeOk w' sb ∧ w.grownBy w' (some sb) := by
  have HS := Lib.hid hs
  have HC := Lib.hid hc
  have HN := Lib.hid hn
  clear hs hc hn
  go_enter Tryz.func46, Tryz.ntmps46
  go_wp2_with fail
  refine (TN_run _ _ _ (by omega) (by omega) HS.out).mono ?_
  rintro e w1 ⟨r, r0, r1, rfl, hs1, hg1⟩
  obtain ⟨j, rfl⟩ := Int.eq_ofNat_of_zero_le r0
  have hj : j < n := by omega
  have hcell : w1.cell? ⟨g, j, none⟩ = some (.int .i64 (l.getD j 0)) := (World.cell?_of_block (hg1.block g (cell_lt (HC.out j hj)) (by simpa using hne))).trans (HC.out j hj)
  obtain ⟨x, hx⟩ : ∃ x, l.getD j 0 = x := ⟨_, rfl⟩
  rw [hx] at hcell
  have HX := Lib.hid hx
  clear hx
  have HS1 := Lib.hid hs1
  have HG1 := Lib.hid hg1
  clear hs1 hg1
  go_wp2_with fail
  go_ret
  exact ⟨j, hj, by rw [HX.out]; rfl, HS1.out, HG1.out⟩


/-- A trust as it is made: thresholds from 1 to the number of entries, nodes from 0 on below n, each once at its level. -/
def WF (n : Int) : Nat → Tree → Prop
  | 0, _ => False
  | d + 1, .mk thr ns is => 1 ≤ thr ∧ thr ≤ ((ns.length + is.length : Nat) : Int) ∧ ns.length ≤ 10 ∧ is.length ≤ 3 ∧ (∀ x ∈ ns, 0 ≤ x ∧ x < n) ∧ ns.Nodup ∧ ∀ T ∈ is, WF n d T

/-- Block o is the trust that is being made. -/
def OutAt (w : World) (o : Nat) (x : Int) (v1 v2 : Value) : Prop := w.heap[o]? = some (.cells #[.int .i64 x, v1, v2] 73 (0, 0))

theorem OutAt.lt {w : World} {o : Nat} {x : Int} {v1 v2 : Value} (h : OutAt w o x v1 v2) : o < w.heap.size := by
  rcases Nat.lt_or_ge o w.heap.size with h1 | h1
  · exact h1
  · unfold OutAt at h; rw [Array.getElem?_eq_none h1] at h; cases h

theorem OutAt.cs {w : World} {o : Nat} {x : Int} {v1 v2 : Value} (h : OutAt w o x v1 v2) : w.cell? ⟨o, 0, none⟩ = some (.int .i64 x) ∧ w.cell? ⟨o, 1, none⟩ = some v1 ∧ w.cell? ⟨o, 2, none⟩ = some v2 :=
  ⟨cell_of_row _ _ 0 _ _ (0, 0) h, cell_of_row _ _ 1 _ _ (0, 0) h, cell_of_row _ _ 2 _ _ (0, 0) h⟩

theorem OutAt.fr {w : World} {o : Nat} {x : Int} {v1 v2 : Value} (h : OutAt w o x v1 v2) (k : Nat) : w.frozen? ⟨o, k, none⟩ = false := by
  unfold OutAt at h
  simp [World.frozen?, h]

theorem OutAt.keep {w w' : World} {o : Nat} {x : Int} {v1 v2 : Value} (h : OutAt w o x v1 v2) (hk : w'.heap[o]? = w.heap[o]?) : OutAt w' o x v1 v2 := hk.trans h

theorem OutAt.set0 {w : World} {o : Nat} {x : Int} {v1 v2 : Value} (h : OutAt w o x v1 v2) (y : Int) : OutAt (w.setCell ⟨o, 0, none⟩ (.int .i64 y)) o y v1 v2 := by
  unfold OutAt at h ⊢
  simp [World.setCell, Array.getElem?_modify, h]

theorem OutAt.set1 {w : World} {o : Nat} {x : Int} {v1 v2 : Value} (h : OutAt w o x v1 v2) (y : Value) : OutAt (w.setCell ⟨o, 1, none⟩ y) o x y v2 := by
  unfold OutAt at h ⊢
  simp [World.setCell, Array.getElem?_modify, h]

theorem OutAt.set2 {w : World} {o : Nat} {x : Int} {v1 v2 : Value} (h : OutAt w o x v1 v2) (y : Value) : OutAt (w.setCell ⟨o, 2, none⟩ y) o x v1 y := by
  unfold OutAt at h ⊢
  simp [World.setCell, Array.getElem?_modify, h]

theorem gown {w a b : World} {r row : Option Nat} (h : w.grownBy a r) (k : a.grownBy b row) (hr : ∀ j, row = some j → w.heap.size ≤ j) : w.grownBy b r :=
  ⟨k.os.trans h.os, k.tape.trans h.tape, k.output.trans h.output, Nat.le_trans h.size k.size, fun n hn hne => (k.block n (Nat.lt_of_lt_of_le hn h.size) (fun e => by have := hr n e.symm; omega)).trans (h.block n hn hne)⟩

theorem gset1 (w : World) (p : Addr) (u : Value) : w.grownBy (w.setCell p u) (some p.block) :=
  ⟨rfl, rfl, rfl, by simp [World.setCell], fun k _ hne => Below.heap_setCell _ _ _ _ (fun e => hne (by rw [e]))⟩

theorem TapeOk.keepLow {w w' : World} {sb : Nat} (h : TapeOk w sb) (hk : ∀ k, k ≤ sb → w'.heap[k]? = w.heap[k]?) : TapeOk w' sb := by
  obtain ⟨a, len, cap, at_, hb, h1, h2, h3, h4⟩ := h
  refine ⟨a, len, cap, at_, (hk _ (Nat.le_refl _)).trans hb, h1, h2, h3, fun i hi => ?_⟩
  obtain ⟨b, off, z, e1, e2, e3, e4⟩ := h4 i hi
  exact ⟨b, off, z, e1, e2, (World.cell?_of_block (hk b (by omega))).trans e3, e4⟩

/-- The order as a list. -/
theorem OrdAt.list {w : World} {g n : Nat} {N : Int} (h : OrdAt w g n N) : ∃ zs : List Int, zs.length = n ∧ zs.Nodup ∧ (∀ x ∈ zs, 0 ≤ x ∧ x < N) ∧ ∀ k, k < n → w.cell? ⟨g, k, none⟩ = some (.int .i64 (zs.getD k 0)) := by
  obtain ⟨cur, h1, h2, h3, h4⟩ := h
  have hz : ∀ k, ∃ z : Int, k < n → cur[k]? = some (.int .i64 z) ∧ 0 ≤ z ∧ z < N := fun k => by
    by_cases hk : k < n
    · obtain ⟨z, e⟩ := h3 k hk
      exact ⟨z, fun _ => e⟩
    · exact ⟨0, fun h => absurd h hk⟩
  let f : Nat → Int := fun k => Classical.choose (hz k)
  have hf : ∀ k, k < n → cur[k]? = some (.int .i64 (f k)) ∧ 0 ≤ f k ∧ f k < N := fun k => Classical.choose_spec (hz k)
  have hget : ∀ k, k < n → ((List.range n).map f).getD k 0 = f k := fun k hk => by simp [List.getD, hk]
  refine ⟨(List.range n).map f, by simp, ?_, ?_, fun k hk => ?_⟩
  · rw [List.nodup_iff_pairwise_ne, List.pairwise_map]
    refine List.Pairwise.imp_of_mem ?_ (List.nodup_iff_pairwise_ne.1 (List.nodup_range (n := n)))
    intro a b ha hb hne e
    have ha' := hf a (List.mem_range.1 ha)
    have hb' := hf b (List.mem_range.1 hb)
    exact hne (h4 a b (f a) (List.mem_range.1 ha) (List.mem_range.1 hb) ha'.1 (by rw [hb'.1, e]))
  · intro x hx
    obtain ⟨k, hk, rfl⟩ := List.mem_map.1 hx
    exact (hf k (List.mem_range.1 hk)).2
  · rw [hget k hk]
    exact (cell_of_row _ _ k _ _ (0, 0) h1).trans (hf k hk).1

theorem gown_step {w : World} {v : Value} {k B : Nat} {zs : List Int} (hk : k < zs.length) (h : w.ownsRow B 3 1 v (k + 1) ((zs.take k).map (Value.int .i64) ++ [.int .i64 (zs.getD k 0)])) :
    w.ownsRow B 3 1 v (k + 1) ((zs.take (k + 1)).map (Value.int .i64)) := by
  have e : (zs.take (k + 1)).map (Value.int .i64) = (zs.take k).map (Value.int .i64) ++ [.int .i64 (zs.getD k 0)] := by
    rw [List.take_add_one, List.getElem?_eq_getElem hk, List.map_append, List.getD_eq_getElem?_getD, List.getElem?_eq_getElem hk]
    rfl
  rw [e]; exact h

end Go.Proofs.YtacpfcckilnbfaaGreat

namespace Go.Proofs.YtacpfcckilnbfaaGreat
set_option linter.unusedVariables false
set_option linter.unusedSimpArgs false
open Go.RowKit

def Inner (B d : Nat) (W : World) (v : Value) (is : List Tree) : Prop :=
  ∃ cs : List Value, W.ownsRow B 73 3 v is.length cs ∧ ∀ k T, is[k]? = some T → ∃ x0 x1 x2, cs[k * 3]? = some x0 ∧ cs[k * 3 + 1]? = some x1 ∧ cs[k * 3 + 2]? = some x2 ∧ TAt (fun b => B ≤ b ∧ v.ownBlock ≠ some b) d W x0 x1 x2 T

theorem Inner.nil (B d : Nat) (W : World) : Inner B d W (.slice none 0 0) [] := ⟨[], World.ownsRow_nil _ _ _ _, fun k T h => by simp at h⟩

theorem Inner.own {B d : Nat} {W : World} {v : Value} {is : List Tree} (h : Inner B d W v is) : ∀ j, v.ownBlock = some j → B ≤ j ∧ j < W.heap.size := by
  obtain ⟨cs, h1, _⟩ := h
  exact h1.lt

theorem Inner.slice {B d : Nat} {W : World} {v : Value} {is : List Tree} (h : Inner B d W v is) : ∃ A c, v = .slice A is.length c := by
  obtain ⟨cs, h1, _⟩ := h
  rcases h1.2 with ⟨hv, h0⟩ | ⟨g, cap, cur, hv, _⟩
  · exact ⟨none, 0, by rw [hv, h0]⟩
  · exact ⟨some ⟨g, 0, none⟩, cap, hv⟩

/-- What leaves all blocks from B on alone. -/
theorem Inner.keep {B d : Nat} {W W' : World} {v : Value} {is : List Tree} (h : Inner B d W v is) {r : Option Nat} (hg : W.grownBy W' r) (hr : ∀ j, r = some j → j < B) : Inner B d W' v is := by
  obtain ⟨cs, h1, h2⟩ := h
  refine ⟨cs, h1.kept hg ?_, fun k T hT => ?_⟩
  · rcases hv : v.ownBlock with _ | j
    · exact .inl rfl
    · right; intro e; have := hr j e.symm; have := (h1.lt j hv).1; omega
  · obtain ⟨x0, x1, x2, e0, e1, e2, e3⟩ := h2 k T hT
    exact ⟨x0, x1, x2, e0, e1, e2, e3.keep (fun q hq hP => hg.block q hq (fun e => by have := hr q e.symm; omega))⟩

theorem Inner.below {B d : Nat} {W W' : World} {v : Value} {is : List Tree} (h : Inner B d W v is) (hb : Below W.heap.size W W') : Inner B d W' v is :=
  h.keep (r := none) ⟨hb.os, hb.tape, hb.output, hb.size, fun k hk _ => hb.block k hk⟩ (fun j hj => by cases hj)

theorem Inner.alloc {B d : Nat} {W : World} {v : Value} {is : List Tree} (h : Inner B d W v is) (o : Obj) : Inner B d (W.alloc o) v is := h.below (balloc (bref _) _)

theorem Inner.setLow {B d : Nat} {W : World} {v : Value} {is : List Tree} (h : Inner B d W v is) {p : Addr} (hp : p.block < B) (u : Value) : Inner B d (W.setCell p u) v is :=
  h.keep (gset1 W p u) (fun j hj => by obtain rfl := Option.some.inj hj; exact hp)

theorem Inner.drew {B d : Nat} {W : World} {v : Value} {is : List Tree} (h : Inner B d W v is) : Inner B d W.drew v is := by
  obtain ⟨cs, h1, h2⟩ := h
  refine ⟨cs, h1, fun k T hT => ?_⟩
  obtain ⟨x0, x1, x2, e0, e1, e2, e3⟩ := h2 k T hT
  exact ⟨x0, x1, x2, e0, e1, e2, TAt.keep (w := W) (w' := W.drew) (fun q hq hP => rfl) e3⟩

/-- One more: the trust T lies in blocks that are not the row's; behind the append. -/
theorem Inner.append {B d : Nat} {W W' : World} {v : Value} {is : List Tree} {x0 x1 x2 : Value} {T : Tree} {cs : List Value} {g cap : Nat}
    (h1 : ∀ k T, is[k]? = some T → ∃ x0 x1 x2, cs[k * 3]? = some x0 ∧ cs[k * 3 + 1]? = some x1 ∧ cs[k * 3 + 2]? = some x2 ∧ TAt (fun b => B ≤ b ∧ v.ownBlock ≠ some b) d W x0 x1 x2 T)
    (hl : cs.length = is.length * 3)
    (hT : TAt (fun b => B ≤ b ∧ v.ownBlock ≠ some b) d W x0 x1 x2 T)
    (hown : W'.ownsRow B 73 3 (.slice (some ⟨g, 0, none⟩) (is.length + 1) cap) (is.length + 1) (cs ++ [x0, x1, x2])) (hg : W.grownBy W' v.ownBlock) (hat : v.ownBlock = some g ∨ g = W.heap.size) :
    Inner B d W' (.slice (some ⟨g, 0, none⟩) (is.length + 1) cap) (is ++ [T]) := by
  have up : ∀ {y0 y1 y2 : Value} {S : Tree}, TAt (fun b => B ≤ b ∧ v.ownBlock ≠ some b) d W y0 y1 y2 S → TAt (fun b => B ≤ b ∧ (Value.slice (some ⟨g, 0, none⟩) (is.length + 1) cap).ownBlock ≠ some b) d W' y0 y1 y2 S := fun h =>
    TAt.both (fun q hq hP => hg.block q hq (fun e => hP.2 e.symm)) (fun q hq hP => ⟨hP.1, fun e => by
      have e' : g = q := by simpa [Value.ownBlock] using e
      rcases hat with hat | hat
      · exact hP.2 (by rw [hat, e'])
      · omega⟩) _ _ _ _ _ h
  refine ⟨cs ++ [x0, x1, x2], by simpa using hown, fun k S hS => ?_⟩
  rcases Nat.lt_or_ge k is.length with hk | hk
  · rw [List.getElem?_append_left hk] at hS
    obtain ⟨y0, y1, y2, e0, e1, e2, e3⟩ := h1 k S hS
    exact ⟨y0, y1, y2, by rw [List.getElem?_append_left (by omega)]; exact e0, by rw [List.getElem?_append_left (by omega)]; exact e1, by rw [List.getElem?_append_left (by omega)]; exact e2, up e3⟩
  · have hk2 : k = is.length := by
      have := (List.getElem?_eq_some_iff.1 hS).1
      simp at this; omega
    subst hk2
    have hS' : S = T := by simpa using hS.symm
    subst hS'
    refine ⟨x0, x1, x2, ?_, ?_, ?_, up hT⟩
    · rw [List.getElem?_append_right (by omega)]; simp [hl]
    · rw [List.getElem?_append_right (by omega), show is.length * 3 + 1 - cs.length = 1 by omega]; rfl
    · rw [List.getElem?_append_right (by omega), show is.length * 3 + 2 - cs.length = 2 by omega]; rfl

/-- The trust that has been made, out of its parts. -/
theorem made {B d : Nat} {W : World} {t : Int} {v1 v2 : Value} {ns : List Int} {is : List Tree} {P : Nat → Prop} (hP : ∀ b, B ≤ b → P b) (hn : ns.length ≤ 1000000) (hi : is.length ≤ 1000000)
    (h1 : W.ownsRow B 3 1 v1 ns.length (ns.map (Value.int .i64))) (h2 : Inner B d W v2 is) : TAt P (d + 1) W (.int .i64 t) v1 v2 (.mk t ns is) := by
  refine ⟨rfl, hn, hi, ?_, ?_⟩
  · rcases h1.2 with ⟨hv, h0⟩ | ⟨g, cap, cur, hv, hb, _⟩
    · exact ⟨none, 0, by rw [hv, h0], fun k hk => by omega⟩
    · refine ⟨some ⟨g, 0, none⟩, cap, hv, fun k hk => ⟨g, 0, rfl, hP g hb, ?_⟩⟩
      have := h1.cells (g := g) (by rw [hv]; rfl) k (.int .i64 (ns.getD k 0)) (by
        rw [List.getElem?_map, List.getD_eq_getElem?_getD, List.getElem?_eq_getElem hk]; rfl)
      rw [Addr.add_lit] at this
      exact this
  · obtain ⟨cs, h2, h3⟩ := h2
    rcases h2.2 with ⟨hv, h0⟩ | ⟨g, cap, cur, hv, hb, _⟩
    · exact ⟨none, 0, by rw [hv, h0], fun k T hT => by have := (List.getElem?_eq_some_iff.1 hT).1; omega⟩
    · refine ⟨some ⟨g, 0, none⟩, cap, hv, fun k T hT => ?_⟩
      obtain ⟨x0, x1, x2, e0, e1, e2, e3⟩ := h3 k T hT
      have c : ∀ j u, cs[j]? = some u → W.cell? ⟨g, 0 + j, none⟩ = some u := fun j u hu => by
        have := h2.cells (g := g) (by rw [hv]; rfl) j u hu
        rwa [Addr.add_lit] at this
      exact ⟨g, 0, x0, x1, x2, rfl, hP g hb, c _ _ e0, by rw [Nat.add_assoc]; exact c _ _ e1, by rw [Nat.add_assoc]; exact c _ _ e2, e3.imp (fun q _ hq => hP q hq.1)⟩

theorem own_apart {W : World} {B : Nat} {v1 v2 : Value} {n m : Nat} {xs ys : List Value} (h1 : W.ownsRow B 3 1 v1 n xs) (h2 : W.ownsRow B 73 3 v2 m ys) : v1.ownBlock = none ∨ v1.ownBlock ≠ v2.ownBlock := by
  rcases h1.2 with ⟨hv, h0⟩ | ⟨g, cap, cur, hv, hb, hg, _⟩
  · exact .inl (by rw [hv]; rfl)
  · rcases h2.2 with ⟨hv', h0'⟩ | ⟨g', cap', cur', hv', hb', hg', _⟩
    · right; rw [hv, hv']; simp [Value.ownBlock]
    · right; rw [hv, hv']; simp only [Value.ownBlock]
      intro e
      obtain rfl := Option.some.inj e
      rw [hg] at hg'
      simp at hg'

theorem cell_three_new (w : World) (a b c : Value) (t : TypeId) : ∀ j u, [a, b, c][j]? = some u → (w.alloc (.cells #[a, b, c] t)).cell? ((⟨w.heap.size, 0, none⟩ : Addr).add j) = some u :=
  fun j u hu => World.news_of_block (heap_alloc_new w _) j u (by simpa using hu)

end Go.Proofs.YtacpfcckilnbfaaGreat

namespace Go.Proofs.YtacpfcckilnbfaaGreat
set_option linter.unusedVariables false
set_option linter.unusedSimpArgs false
open Go.RowKit

theorem ne_own {v : Value} {B sb S : Nat} (h : ∀ j, v.ownBlock = some j → B ≤ j ∧ j < S) (hb : sb < B) : v.ownBlock = none ∨ v.ownBlock ≠ some sb := by
  right; intro e; have := (h sb e).1; omega

theorem own_slice {W : World} {B n : Nat} {v : Value} {xs : List Value} (h : W.ownsRow B 3 1 v n xs) : ∃ A c, v = .slice A n c := by
  rcases h.2 with ⟨hv, h0⟩ | ⟨g, cap, cur, hv, _⟩
  · exact ⟨none, 0, by rw [hv, h0]⟩
  · exact ⟨some ⟨g, 0, none⟩, cap, hv⟩

theorem own_below {W : World} {B n e size : Nat} {v : Value} {xs : List Value} {k : Nat} (h : W.ownsRow B e size v n xs) (hk : k < B) : v.ownBlock = none ∨ v.ownBlock ≠ some k := by
  right; intro e; have := (h.lt k e).1; omega

/-- What the making of a trust is to return. -/
def TrustC (sb n D : Nat) : Prop := ∀ w : World, TapeOk w sb →
  Calls Tryz.prog 111 #[.pointer (some ⟨sb, 0, none⟩), .int .i64 n, .int .i64 ((D + 1 : Nat) : Int)] w fun e w' => ∃ (v0 v1 v2 : Value) (T : Tree), e = .returned (.agg #[v0, v1, v2]) ∧ TAt (fun b => w.heap.size ≤ b) (D + 1) w' v0 v1 v2 T ∧ WF n (D + 1) T ∧ TapeOk w' sb ∧ w.grownBy w' (some sb)

theorem infoTr : (Tryz.prog.info? 73).map (fun i => (i.zero, i.size, i.bytes)) = some (some (.agg #[.int .i64 0, .slice none 0 0, .slice none 0 0]), 3, 56) := infoTrust

set_option maxRecDepth 100000 in
set_option maxHeartbeats 4000000 in
theorem trust_step (sb : Nat) (n : Nat) (hn : 1 ≤ n) (hn1 : n ≤ 10) (D : Nat) (hD5 : D ≤ 5) (ih : ∀ d, D = d + 1 → TrustC sb n d) : TrustC sb n D := by
  intro w hs
  obtain ⟨i0, hi, hz0, hz1, hz2⟩ := info_parts infoInt
  have HS := Lib.hid hs
  have hsl := hs.lt
  clear hs
  go_enter Tryz.func111, Tryz.ntmps111
  go_wp2_with fail
  refine (Order_run _ sb n hn (by omega) ((HS.out.alloc _).alloc _)).mono ?_
  rintro e w1 ⟨g, cap, rfl, hg0, hg1, hg2, hord, hs1, hgr1⟩
  obtain ⟨zs, zl, znd, zb, zc⟩ := hord.list
  have hgl := hord.lt
  have hout : OutAt w1 (w.heap.size + 1) 0 (.slice none 0 0) (.slice none 0 0) := by
    refine (hgr1.block (w.heap.size + 1) (by simp) (by simp; omega)).trans ?_
    have := heap_alloc_new (w.alloc (.cells #[.int .i64 0, .slice none 0 0, .slice none 0 0] 73)) (.cells #[.int .i64 0, .slice none 0 0, .slice none 0 0] 73)
    simpa using this
  have hres : OutAt w1 w.heap.size 0 (.slice none 0 0) (.slice none 0 0) := by
    refine (hgr1.block w.heap.size (by simp; omega) (by simp; omega)).trans ?_
    rw [Below.heap_alloc _ _ _ (by simp)]
    exact heap_alloc_new _ _
  have hgg : w.grownBy w1 (some sb) := grown_trans (grown_below (balloc (balloc (bref _) _) _)) hgr1
  simp only [World.size_alloc] at hg0
  have HO := Lib.hid hout
  have HR := Lib.hid hres
  have HG := Lib.hid hgg
  have HS1 := Lib.hid hs1
  have HZ := Lib.hid zc
  clear hgr1 hout hres hgg hs1 hord zc
  go_upto_region 3 with fail
  go_cut [20, 21, 22] (fun a b c W => ∃ m : Nat, 1 ≤ m ∧ m ≤ 5 ∧ m ≤ n ∧ a = .slice (some ⟨g, 0, none⟩) m cap ∧ b = .int .i64 m ∧ c = .int .i64 0 ∧ Hid (OutAt W (w.heap.size + 1) 0 (.slice none 0 0) (.slice none 0 0)) ∧ Hid (OutAt W w.heap.size 0 (.slice none 0 0) (.slice none 0 0)) ∧ Hid (w.grownBy W (some sb)) ∧ Hid (TapeOk W sb) ∧ Hid (∀ k, k < n → W.cell? ⟨g, k, none⟩ = some (.int .i64 (zs.getD k 0))) ∧ g < W.heap.size)
  case first =>
    have hcm : cap ≤ 9223372036854775807 := by unfold maxLen at hg2; omega
    go_wp2_with fail
    all_goals
      refine (TRange_run _ sb _ _ (by omega) (by omega) (by omega) HS1.out).mono ?_
      rintro e w2 ⟨r, hr0, hr1, rfl, hs2, hg2'⟩
      obtain ⟨m, rfl⟩ := Int.eq_ofNat_of_zero_le (show 0 ≤ r by omega)
      have E1 := Lib.hid (HO.out.keep (hg2'.block _ HO.out.lt (by simp; omega)))
      have E2 := Lib.hid (HR.out.keep (hg2'.block _ HR.out.lt (by simp; omega)))
      have E3 := Lib.hid (grown_trans HG.out hg2')
      have E4 := Lib.hid hs2
      have E5 := Lib.hid (fun k (hk : k < n) => (World.cell?_of_block (hg2'.block g hgl (by simp; omega))).trans (HZ.out k hk))
      have E6 : g < w2.heap.size := Nat.lt_of_lt_of_le hgl hg2'.size
      have m1 : m ≤ n := by omega
      have m2 : m ≤ 5 := by omega
      have m3 : 1 ≤ m := by omega
      have m4 : m ≤ cap := by omega
      clear hg2' hs2
      go_wp2_with fail
      go_meet
      exact ⟨m, m3, m2, m1, rfl, rfl, rfl, E1, E2, E3, E4, E5, E6⟩
  case rest =>
    obtain ⟨m, m0, m1, m2, rfl, rfl, rfl, HO2, HR2, HG2, HS2, HZ2, hg3⟩ := hcut
    clear HO HR HG HS1 HZ HS
    go_wp2_with fail
    go_loopw [22] (fun t W => ∃ (k : Nat) (v : Value), k ≤ m ∧ t = .int .i64 k ∧ W.ownsRow wc.heap.size 3 1 v k ((zs.take k).map (Value.int .i64)) ∧ Hid (OutAt W (w.heap.size + 1) 0 v (.slice none 0 0)) ∧ Hid (OutAt W w.heap.size 0 (.slice none 0 0) (.slice none 0 0)) ∧ Hid (w.grownBy W (some sb)) ∧ Hid (TapeOk W sb) ∧ Hid (∀ k, k < n → W.cell? ⟨g, k, none⟩ = some (.int .i64 (zs.getD k 0))) ∧ wc.heap.size ≤ W.heap.size) (fun t _ => m - (intOf t).toNat)
    case atStart => exact ⟨0, .slice none 0 0, by omega, rfl, World.ownsRow_nil _ _ _ _, HO2, HR2, HG2, HS2, HZ2, Nat.le_refl _⟩
    case round =>
      obtain ⟨k, v, hk, rfl, hown, hO, hR, hG, hT, hZ, hsz⟩ := hrel
      by_cases hlt : k < m
      · have hcell := hZ.out k (by omega)
        obtain ⟨o0, o1, o2⟩ := hO.out.cs
        have of1 := hO.out.fr 1
        have hol := hO.out.lt
        have ki : (k : Int) < (m : Int) := by omega
        obtain ⟨z, hz⟩ : ∃ z, zs.getD k 0 = z := ⟨_, rfl⟩
        rw [hz] at hcell
        have HZK := Lib.hid hz
        clear hz
        have hwl : wc.heap.size ≤ wc.heap.size := Nat.le_refl _
        have hol2 := HO2.out.lt
        have HOB := Lib.hid (fun (j : Nat) (hj : v.ownBlock = some j) => (hown.lt j hj).1)
        go_wp2_with (at_builtin; refine wpList_append_own _ rfl _ _ 22 rfl wc.heap.size 3 i0 (.int .i64 0) 1 8 Tryz.underlying22 hi hz0 hz1 hz2 rfl (by decide) _ _ _ rfl (hown.alloc _) ⟨wr.heap.size, 0, none⟩ 1 1 [.int .i64 z] rfl rfl (cell_one_new _ _ _) (fun u hu => by simp at hu; subst hu; rfl) (by unfold maxLen; omega) (by omega) (by simp; omega) ?_; intro v' W2 hown' hgrow hnil; obtain ⟨gq, cq, rfl, hgq, hlq⟩ := hown'.form (by omega); have hO3 := hO.out.keep ((hgrow.block _ (by simp; omega) (fun e => by have := HOB.out _ e.symm; omega)).trans (Below.heap_alloc _ _ _ hol)); obtain ⟨p0, p1, p2⟩ := hO3.cs; have pf1 := hO3.fr 1)
        have hge : ∀ j, v.ownBlock = some j → wc.heap.size ≤ j := HOB.out
        have hlow : ∀ q, q < wc.heap.size → W2.heap[q]? = wr.heap[q]? := fun q hq => (hgrow.block q (by simp; omega) (fun e => by have := hge q e.symm; omega)).trans (Below.heap_alloc _ _ _ (by omega))
        have hsz2 : wc.heap.size ≤ W2.heap.size := by have := hgrow.size; simp at this; omega
        have hlow2 : ∀ q, q < wc.heap.size → q ≠ w.heap.size + 1 → (W2.setCell ⟨w.heap.size + 1, 1, none⟩ (.slice (some ⟨gq, 0, none⟩) (k + 1) cq)).heap[q]? = wr.heap[q]? := fun q hq hne => (Below.heap_setCell _ _ _ _ (by simpa using hne)).trans (hlow q hq)
        have HR3 := Lib.hid (hR.out.keep (hlow2 w.heap.size (by omega) (by omega)))
        have hown3 := gown_step (zs := zs) (k := k) (by omega) (by rw [HZK.out]; exact hown')
        have hown4 := hown3.kept (gset1 W2 ⟨w.heap.size + 1, 1, none⟩ (.slice (some ⟨gq, 0, none⟩) (k + 1) cq)) (.inr (by simp [Value.ownBlock]; omega))
        have HG3 := Lib.hid (gset (gown (grown_trans hG.out (grown_below (balloc (bref wr) (.cells #[.int .i64 z] 3)))) hgrow (fun j hj => by have := hge j hj; omega)) (p := ⟨w.heap.size + 1, 1, none⟩) (by simp) (.slice (some ⟨gq, 0, none⟩) (k + 1) cq))
        have HT3 := Lib.hid ((hT.out.keepLow (fun q hq => hlow q (by omega))).setCell (p := ⟨w.heap.size + 1, 1, none⟩) (by simp; omega) (.slice (some ⟨gq, 0, none⟩) (k + 1) cq))
        have HZ3 := Lib.hid (fun q (hq : q < n) => (World.cell?_of_block (hlow2 g hg3 (by omega))).trans (hZ.out q hq))
        have HO4 := Lib.hid (hO3.set1 (.slice (some ⟨gq, 0, none⟩) (k + 1) cq))
        go_roundw
        case rel => exact ⟨k + 1, _, by omega, by go_num, hown4, HO4, HR3, HG3, HT3, HZ3, by simpa [World.setCell] using hsz2⟩
        case measure => simp [intOf]; omega
      · obtain rfl : k = m := by omega
        obtain ⟨gq, cq, rfl, hgq, hlq⟩ := hown.form (by omega)
        obtain ⟨o0, o1, o2⟩ := hO.out.cs
        have of0 := hO.out.fr 0
        have hol := hO.out.lt
        have HW := Lib.hid hown
        clear hown
        have hsz0 : wc.heap.size ≤ wr.heap.size := hsz
        have hol2 := HO2.out.lt
        clear hsz HO2 HR2 HG2 HS2 HZ2
        go_upto_if 34 with fail
        have hB : w.heap.size + 2 ≤ wc.heap.size := by omega
        have HX := Lib.hid (HW.out.mono hB)
        have hlk : (zs.take k).length = k := by rw [List.length_take]; omega
        have HNS := Lib.hid (show (∀ x ∈ zs.take k, 0 ≤ x ∧ x < (n : Int)) ∧ (zs.take k).Nodup from ⟨fun x hx => zb x (List.mem_of_mem_take hx), List.Nodup.sublist (List.take_sublist _ _) znd⟩)
        go_cut [11] (fun a W => ∃ (v1 v2 : Value) (ns : List Int) (is : List Tree), 1 ≤ ns.length + is.length ∧ ns.length ≤ 5 ∧ is.length ≤ 3 ∧ Hid (OutAt W (w.heap.size + 1) 0 v1 v2) ∧ Hid (OutAt W w.heap.size 0 (.slice none 0 0) (.slice none 0 0)) ∧ Hid (w.grownBy W (some sb)) ∧ Hid (TapeOk W sb) ∧
          Hid (W.ownsRow (w.heap.size + 2) 3 1 v1 ns.length (ns.map (Value.int .i64))) ∧ Hid (Inner (w.heap.size + 2) D W v2 is) ∧ Hid ((∀ x ∈ ns, 0 ≤ x ∧ x < (n : Int)) ∧ ns.Nodup) ∧ Hid (∀ T ∈ is, WF n D T))
        case first =>
          rcases D with _ | D
          · go_wp2_with fail
            go_meet
            exact ⟨_, _, zs.take k, [], by rw [hlk]; simp; omega, by rw [hlk]; omega, by simp, hO, hR, hG, hT, by rw [hlk]; exact HX, Lib.hid (Inner.nil _ _ _), HNS, Lib.hid (fun T hT => by simp at hT)⟩
          · have HC := Lib.hid (ih D rfl)
            have hDz : (1 : Int) < ((D + 1 + 1 : Nat) : Int) := by omega
            clear HW
            go_wp2_with fail
            have hp6 : ∀ j, j < 6 → (wr.alloc (.cells #[.int .i64 0, .int .i64 0, .int .i64 1, .int .i64 1, .int .i64 2, .int .i64 3] 3)).cell? ⟨wr.heap.size, j, none⟩ = some (.int .i64 (([0, 0, 1, 1, 2, 3] : List Int).getD j 0)) := by
              intro j hj
              rw [cell_of_row _ _ j _ _ (0, 0) (heap_alloc_new _ _)]
              match j, hj with
              | 0, _ | 1, _ | 2, _ | 3, _ | 4, _ | 5, _ => rfl
            have hsb : wr.heap.size ≠ sb := by have := hT.out.lt; omega
            refine (TPick_run _ sb wr.heap.size [0, 0, 1, 1, 2, 3] 6 rfl (by omega) (by omega) hp6 hsb (hT.out.alloc _)).mono ?_
            rintro e W1 ⟨j, hj, rfl, hs1, hg1⟩
            obtain ⟨q, hq, hq3⟩ : ∃ q : Nat, ([0, 0, 1, 1, 2, 3] : List Int).getD j 0 = (q : Int) ∧ q ≤ 3 := by
              match j, hj with
              | 0, _ => exact ⟨0, rfl, by omega⟩
              | 1, _ => exact ⟨0, rfl, by omega⟩
              | 2, _ => exact ⟨1, rfl, by omega⟩
              | 3, _ => exact ⟨1, rfl, by omega⟩
              | 4, _ => exact ⟨2, rfl, by omega⟩
              | 5, _ => exact ⟨3, rfl, by omega⟩
            rw [hq]
            have hba := balloc (bref wr) (.cells #[.int .i64 0, .int .i64 0, .int .i64 1, .int .i64 1, .int .i64 2, .int .i64 3] 3)
            have hgq := grown_trans (grown_below (r := some sb) hba) hg1
            have HO1 := Lib.hid (hO.out.keep (hgq.block _ hol (by simp; omega)))
            have HR1 := Lib.hid (hR.out.keep (hgq.block _ hR.out.lt (by simp; omega)))
            have HG1 := Lib.hid (grown_trans hG.out hgq)
            have HX1 := Lib.hid (HX.out.kept hgq (.inr (by simp [Value.ownBlock]; omega)))
            have HS1' := Lib.hid hs1
            clear hp6 hq hj hs1 hg1 hgq hba HX hO hR hG hT
            go_wp2_with fail
            go_loopw [11] (fun t W => ∃ (q : Nat) (v2 : Value) (is : List Tree), is.length + q ≤ 3 ∧ t = .int .i64 q ∧ Hid (OutAt W (w.heap.size + 1) 0 (.slice (some ⟨gq, 0, none⟩) k cq) v2) ∧ Hid (OutAt W w.heap.size 0 (.slice none 0 0) (.slice none 0 0)) ∧ Hid (w.grownBy W (some sb)) ∧ Hid (TapeOk W sb) ∧
              Hid (W.ownsRow (w.heap.size + 2) 3 1 (.slice (some ⟨gq, 0, none⟩) k cq) k ((zs.take k).map (Value.int .i64))) ∧ Hid (Inner (w.heap.size + 2) (D + 1) W v2 is) ∧ Hid (∀ T ∈ is, WF n (D + 1) T)) (fun t _ => (intOf t).toNat)
            case atStart => exact ⟨q, .slice none 0 0, [], by simpa using hq3, rfl, HO1, HR1, HG1, HS1', HX1, Lib.hid (Inner.nil _ _ _), Lib.hid (fun T hT => by simp at hT)⟩
            case round =>
              clear HO1 HR1 HG1 HS1' HX1
              obtain ⟨q, v2, is, hq3, rfl, hO, hR, hG, hT, hX, hI, hW⟩ := hrel
              obtain ⟨o0, o1, o2⟩ := hO.out.cs
              have of2 := hO.out.fr 2
              have hol := hO.out.lt
              by_cases hpos : 0 < q
              · go_upto_region 12 with fail
                obtain ⟨cs, hcs, hcl⟩ := hI.out
                have hcn := hcs.1
                have HCS := Lib.hid hcs
                have HCL := Lib.hid hcl
                have hown := hI.out.own
                have HOW := Lib.hid hown
                obtain ⟨i3, hi3, hy0, hy1, hy2⟩ := info_parts infoTrust
                clear hcs hcl hown
                have hsl3 := hT.out.lt
                have hwrap : IntKind.i64.wrap ((D : Int) + 1) = (D : Int) + 1 := IntWalk.i64_in _ (by omega)
                go_region_law (first
                  | (go_simp; go_at_call 111; refine (HC.out _ (by exact hT.out)).mono ?_; rintro e W2 ⟨x0, x1, x2, T, rfl, hTT, hWF, hs2, hg2⟩; obtain ⟨y0, A1, n1, c1, A2, n2, c2, rfl, rfl, rfl⟩ := hTT.form; have hgr2 : wr.grownBy W2 (some sb) := ⟨hg2.os, hg2.tape, hg2.output, hg2.size, hg2.block⟩; have hgz := hgr2.size; have hO2 : OutAt W2 (w.heap.size + 1) 0 (.slice (some ⟨gq, 0, none⟩) k cq) v2 := hO.out.keep (hg2.block _ hol (by simp; omega)); obtain ⟨p0, p1, p2⟩ := hO2.cs; have hol2 := hO2.lt)
                  | (refine step_append_lies _ (by rfl) _ _ _ (by rfl) (w.heap.size + 2) 73 i3 (.agg #[.int .i64 0, .slice none 0 0, .slice none 0 0]) 3 56 Tryz.underlying71 hi3 hy0 hy1 hy2 rfl (by decide) v2 is.length cs (by rfl) (by exact ((HCS.out.kept hgr2 (ne_own HOW.out (by omega))).alloc _)) ⟨W2.heap.size, 0, none⟩ 1 1 [.int .i64 y0, .slice A1 n1 c1, .slice A2 n2 c2] (by rfl) rfl (by exact cell_three_new _ _ _ _ _) (by intro u hu; simp at hu; rcases hu with rfl | rfl | rfl <;> rfl) (by omega) (by unfold maxLen; omega) (by omega) (by simp; omega) _ rfl ?_; intro g3 cap3 W3 hown3 hgrow3 hat3 hlt3; have hO3 : OutAt W3 (w.heap.size + 1) 0 (.slice (some ⟨gq, 0, none⟩) k cq) v2 := hO2.keep ((hgrow3.block _ (by simp; omega) (fun e => by have := HOW.out _ e.symm; omega)).trans (Below.heap_alloc _ _ _ hol2)); obtain ⟨r0, r1, r2⟩ := hO3.cs; have rf2 := hO3.fr 2))
                all_goals
                  have HI3 := Lib.hid (Inner.append (W := W2.alloc (.cells #[.int .i64 y0, .slice A1 n1 c1, .slice A2 n2 c2] 73)) (fun k T hT => by
                    obtain ⟨z0, z1, z2, e0, e1, e2, e3⟩ := HCL.out k T hT
                    exact ⟨z0, z1, z2, e0, e1, e2, TAt.below (TAt.keep (w := wr) (w' := W2) (fun q hq hP => hgr2.block q hq (by simp; omega)) e3) (balloc (bref _) _)⟩) hcn
                    (TAt.below (TAt.imp (fun q _ hq => ⟨by simp at hq; omega, fun e => by have := HOW.out q e; simp at hq; omega⟩) hTT) (balloc (bref _) _)) hown3 ⟨hgrow3.os, hgrow3.tape, hgrow3.output, hgrow3.size, hgrow3.block⟩ (by simpa using hat3))
                  have hgA : wr.grownBy (W2.alloc (.cells #[.int .i64 y0, .slice A1 n1 c1, .slice A2 n2 c2] 73)) (some sb) := grown_trans hgr2 (grown_below (balloc (bref _) _))
                  have hgB : (W2.alloc (.cells #[.int .i64 y0, .slice A1 n1 c1, .slice A2 n2 c2] 73)).grownBy W3 v2.ownBlock := ⟨hgrow3.os, hgrow3.tape, hgrow3.output, hgrow3.size, hgrow3.block⟩
                  have hzA := hgA.size
                  have hlowA : ∀ j, j < w.heap.size + 2 → j ≠ sb → W3.heap[j]? = wr.heap[j]? := fun j hj hne =>
                    (hgB.block j (by omega) (fun e => by have := HOW.out _ e.symm; omega)).trans (hgA.block j (by omega) (by simpa using hne))
                  have HO4 := Lib.hid (hO3.set2 (.slice (some ⟨g3, 0, none⟩) (is.length + 1) cap3))
                  have HR4 := Lib.hid (hR.out.keep ((Below.heap_setCell W3 ⟨w.heap.size + 1, 2, none⟩ (.slice (some ⟨g3, 0, none⟩) (is.length + 1) cap3) w.heap.size (by simp)).trans (hlowA w.heap.size (by omega) (by omega))))
                  have HG4 := Lib.hid (gset (gown (grown_trans hG.out hgA) hgB (fun j hj => by have := HOW.out j hj; omega)) (p := ⟨w.heap.size + 1, 2, none⟩) (by simp) (.slice (some ⟨g3, 0, none⟩) (is.length + 1) cap3))
                  have HT4 := Lib.hid (((hs2.alloc (.cells #[.int .i64 y0, .slice A1 n1 c1, .slice A2 n2 c2] 73)).keepLow (fun j hj => hgB.block j (by simp; omega) (fun e => by have := HOW.out _ e.symm; omega))).setCell (p := ⟨w.heap.size + 1, 2, none⟩) (by simp; omega) (.slice (some ⟨g3, 0, none⟩) (is.length + 1) cap3))
                  have hXA := hX.out.kept hgA (.inr (by simp [Value.ownBlock]; omega))
                  have HX4 := Lib.hid ((hXA.kept hgB (own_apart hXA (HCS.out.kept hgA (ne_own HOW.out (by omega))))).kept (gset1 W3 ⟨w.heap.size + 1, 2, none⟩ (.slice (some ⟨g3, 0, none⟩) (is.length + 1) cap3)) (.inr (by simp [Value.ownBlock]; omega)))
                  have HI4 := Lib.hid (HI3.out.setLow (p := ⟨w.heap.size + 1, 2, none⟩) (by simp) (.slice (some ⟨g3, 0, none⟩) (is.length + 1) cap3))
                  have HW4 := Lib.hid (show ∀ S ∈ is ++ [T], WF n (D + 1) S from fun S hS => by
                    rcases List.mem_append.1 hS with hS | hS
                    · exact hW.out S hS
                    · rw [List.mem_singleton] at hS; subst hS; exact hWF)
                  clear hgA hgB hlowA hXA hown3 hgrow3 hat3 hlt3 hO3 r0 r1 r2 rf2 hTT hWF hs2 hg2 hgr2 hO2 p0 p1 p2
                  go_wp2_with fail
                  go_roundw
                  case rel => exact ⟨q - 1, _, is ++ [T], by simp; omega, by go_num, HO4, HR4, HG4, HT4, HX4, by first | exact HI4 | simpa using HI4, HW4⟩
                  case measure => simp [intOf]; try omega
              · obtain rfl : q = 0 := by omega
                obtain ⟨A2, c2, rfl⟩ := hI.out.slice
                have o1f := hO.out.fr 1
                have HNL := Lib.hid hlk
                by_cases his : is.length = 0
                · have hi0 : ¬ (0 : Int) < (is.length : Int) := by omega
                  clear hpos
                  go_wp2_with fail
                  go_meet
                  exact ⟨_, _, zs.take k, is, by rw [HNL.out]; omega, by rw [HNL.out]; omega, by omega, hO, hR, hG, hT, by rw [HNL.out]; exact hX, hI, HNS, hW⟩
                · have hi0 : (0 : Int) < (is.length : Int) := by omega
                  clear hpos
                  go_wp2_with fail
                  refine (TN_run _ sb _ (by omega) (by omega) hT.out).mono ?_
                  rintro e W2 ⟨r, hr0, hr1, rfl, hs2, hg2⟩
                  have hO2 := hO.out.keep (hg2.block _ hol (by simp; omega))
                  obtain ⟨p0, p1, p2⟩ := hO2.cs
                  have pf1 := hO2.fr 1
                  have HO2' := Lib.hid hO2
                  have HR2' := Lib.hid (hR.out.keep (hg2.block _ hR.out.lt (by simp; omega)))
                  have HG2' := Lib.hid (grown_trans hG.out hg2)
                  have HT2' := Lib.hid hs2
                  have HX2' := Lib.hid (hX.out.kept hg2 (.inr (by simp [Value.ownBlock]; omega)))
                  have HI2' := Lib.hid (hI.out.keep hg2 (fun j hj => by obtain rfl := Option.some.inj hj; omega))
                  clear hO2 hs2 hg2 hO hR hG hT hX hI o0 o1 o2 of2 o1f
                  by_cases hr : r = 0
                  · subst hr
                    go_wp2_with fail
                    go_meet
                    exact ⟨_, _, [], is, by simp; omega, by simp, by omega, Lib.hid (HO2'.out.set1 _), Lib.hid (HR2'.out.keep (Below.heap_setCell _ ⟨w.heap.size + 1, 1, none⟩ _ w.heap.size (by simp))), Lib.hid (gset HG2'.out (p := ⟨w.heap.size + 1, 1, none⟩) (by simp) _), Lib.hid (HT2'.out.setCell (p := ⟨w.heap.size + 1, 1, none⟩) (by simp; omega) _), Lib.hid (World.ownsRow_nil _ _ _ _), Lib.hid (HI2'.out.setLow (p := ⟨w.heap.size + 1, 1, none⟩) (by simp) _), Lib.hid ⟨by simp, List.nodup_nil⟩, hW⟩
                  · have hr' : (r == 0) = false := by simpa using hr
                    clear hr
                    go_wp2_with fail
                    go_meet
                    exact ⟨_, _, zs.take k, is, by rw [HNL.out]; omega, by rw [HNL.out]; omega, by omega, HO2', HR2', HG2', HT2', by rw [HNL.out]; exact HX2', HI2', HNS, hW⟩
        case rest =>
          obtain ⟨v1, v2, ns, is, hb0, hb1, hb2, hO, hR, hG, hT, h1, h2, h3, h4⟩ := hcut
          obtain ⟨A1, c1, rfl⟩ := own_slice h1.out
          obtain ⟨A2, c2, rfl⟩ := h2.out.slice
          obtain ⟨o0, o1, o2⟩ := hO.out.cs
          have of0 := hO.out.fr 0
          have hol := hO.out.lt
          clear HW hlk HX HNS ih
          go_wp2_with fail
          refine (TRange_run _ sb _ _ (by omega) (by omega) (by omega) hT.out).mono ?_
          rintro e W2 ⟨t, ht0, ht1, rfl, hs2, hg2'⟩
          have hO3 := hO.out.keep (hg2'.block _ hol (by simp; omega))
          have hR3 := hR.out.keep (hg2'.block _ hR.out.lt (by simp; omega))
          obtain ⟨p0, p1, p2⟩ := hO3.cs
          have pf0 := hO3.fr 0
          obtain ⟨r0, r1, r2⟩ := hR3.cs
          have rf0 := hR3.fr 0
          have rf1 := hR3.fr 1
          have rf2 := hR3.fr 2
          have HRX := Lib.hid hR3
          have HG3 := Lib.hid (grown_trans hG.out hg2')
          have H1 := Lib.hid (h1.out.kept hg2' (own_below h1.out (by omega)))
          have H2 := Lib.hid (h2.out.keep hg2' (fun j hj => by obtain rfl := Option.some.inj hj; omega))
          have HS3 := Lib.hid hs2
          clear hs2 hg2' hO3 hR3 hO hR hG h1 h2
          go_wp2_with fail
          have K1 := ((((H1.out.kept (gset1 W2 ⟨w.heap.size + 1, 0, none⟩ (.int .i64 t)) (own_below H1.out (by simp))).kept (gset1 _ ⟨w.heap.size, 0, none⟩ (.int .i64 t)) (own_below H1.out (by simp))).kept (gset1 _ ⟨w.heap.size, 1, none⟩ (.slice A1 ns.length c1)) (own_below H1.out (by simp))).kept (gset1 _ ⟨w.heap.size, 2, none⟩ (.slice A2 is.length c2)) (own_below H1.out (by simp)))
          have K2 := (((H2.out.setLow (p := ⟨w.heap.size + 1, 0, none⟩) (by simp) (.int .i64 t)).setLow (p := ⟨w.heap.size, 0, none⟩) (by simp) (.int .i64 t)).setLow (p := ⟨w.heap.size, 1, none⟩) (by simp) (.slice A1 ns.length c1)).setLow (p := ⟨w.heap.size, 2, none⟩) (by simp) (.slice A2 is.length c2)
          refine bodyPost_ret (v := .agg #[.int .i64 t, .slice A1 ns.length c1, .slice A2 is.length c2]) ?_ rfl ⟨_, _, _, .mk t ns is, rfl, made (fun b hb => by omega) (by omega) (by omega) K1 K2, ?_, ?_, ?_⟩
          · simp [results, Tryz.results111, go_sem, r0, r1, r2]
          · exact ⟨ht0, by push_cast; omega, by omega, hb2, h3.out.1, h3.out.2, h4.out⟩
          · exact (((HS3.out.setCell (p := ⟨w.heap.size + 1, 0, none⟩) (by simp; omega) _).setCell (p := ⟨w.heap.size, 0, none⟩) (by simp; omega) _).setCell (p := ⟨w.heap.size, 1, none⟩) (by simp; omega) _).setCell (p := ⟨w.heap.size, 2, none⟩) (by simp; omega) _
          · exact gset (gset (gset (gset HG3.out (p := ⟨w.heap.size + 1, 0, none⟩) (by simp) _) (p := ⟨w.heap.size, 0, none⟩) (by simp) _) (p := ⟨w.heap.size, 1, none⟩) (by simp) _) (p := ⟨w.heap.size, 2, none⟩) (by simp) _

/-- THE CONTRACT, for each number of levels. -/
theorem trust_run (sb n : Nat) (hn : 1 ≤ n) (hn1 : n ≤ 10) : ∀ D, D ≤ 5 → TrustC sb n D
  | 0, h => trust_step sb n hn hn1 0 h (fun d e => by cases e)
  | D + 1, h => trust_step sb n hn hn1 (D + 1) h (fun d e => by cases e; exact trust_run sb n hn hn1 D (by omega))

end Go.Proofs.YtacpfcckilnbfaaGreat

namespace Go.Proofs.YtacpfcckilnbfaaGreat
set_option linter.unusedVariables false
set_option linter.unusedSimpArgs false
open Go.RowKit

def sizeT : Nat → Tree → Nat
  | 0, _ => 0
  | d + 1, .mk _ ns is => ns.length + is.length + (is.map (sizeT d)).sum

def depthT : Nat → Tree → Nat
  | 0, _ => 0
  | d + 1, .mk _ _ is => ((is.map (depthT d)).foldl max 0) + 1

theorem sum_take_succ {l : List Nat} {k : Nat} {x : Nat} (h : l[k]? = some x) : (l.take (k + 1)).sum = (l.take k).sum + x := by
  rw [List.take_add_one, h]; simp

theorem sum_take_le : ∀ (l : List Nat) (k : Nat), (l.take k).sum ≤ l.sum
  | [], k => by simp
  | x :: l, 0 => by simp
  | x :: l, k + 1 => by simp only [List.take_succ_cons, List.sum_cons]; have := sum_take_le l k; omega

theorem fmax_take_succ {l : List Nat} {k : Nat} {x : Nat} (h : l[k]? = some x) : (l.take (k + 1)).foldl max 0 = max ((l.take k).foldl max 0) x := by
  rw [List.take_add_one, h]; simp

theorem fmax_le {n : Nat} : ∀ (l : List Nat) (a : Nat), a ≤ n → (∀ x ∈ l, x ≤ n) → l.foldl max a ≤ n
  | [], a, h, _ => h
  | x :: l, a, h, hl => fmax_le l (max a x) (by have := hl x List.mem_cons_self; omega) (fun y hy => hl y (List.mem_cons_of_mem _ hy))

theorem depthT_le : ∀ (d : Nat) (T : Tree), depthT d T ≤ d
  | 0, _ => Nat.le_refl _
  | d + 1, .mk _ _ is => by
    unfold depthT
    have := fmax_le (n := d) (is.map (depthT d)) 0 (Nat.zero_le _) (fun x hx => by obtain ⟨T, _, rfl⟩ := List.mem_map.1 hx; exact depthT_le d T)
    omega

theorem sizeT_sub {d : Nat} {thr : Int} {ns : List Int} {is : List Tree} {k : Nat} {T : Tree} (h : is[k]? = some T) : sizeT d T ≤ sizeT (d + 1) (.mk thr ns is) := by
  have h1 : (is.map (sizeT d))[k]? = some (sizeT d T) := by rw [List.getElem?_map, h]; rfl
  have h2 := sum_take_le (is.map (sizeT d)) (k + 1)
  rw [sum_take_succ h1] at h2
  show _ ≤ ns.length + is.length + (is.map (sizeT d)).sum
  omega

/-- A trust in a box of its own, and what it reads, in the world behind the box. -/
structure Boxed3 (P : Nat → Prop) (d : Nat) (W : World) (g : Nat) (thr : Int) (A : Option Addr) (c : Nat) (B : Option Addr) (c' : Nat) (ns : List Int) (is : List Tree) : Prop where
  heap : W.heap[g]? = some (.cells #[.int .i64 thr, .slice A ns.length c, .slice B is.length c'] 73 (0, 0))
  lt : g < W.heap.size
  c0 : W.cell? ⟨g, 0, none⟩ = some (.int .i64 thr)
  c1 : W.cell? ⟨g, 1, none⟩ = some (.slice A ns.length c)
  c2 : W.cell? ⟨g, 2, none⟩ = some (.slice B is.length c')
  nodes : ∀ k, k < ns.length → ∃ b off, A = some ⟨b, off, none⟩ ∧ W.cell? ⟨b, off + k, none⟩ = some (.int .i64 (ns.getD k 0))
  inner : ∀ k T, is[k]? = some T → ∃ b off t' A' n' ca B' m' cb, B = some ⟨b, off, none⟩ ∧ b < W.heap.size ∧ W.cell? ⟨b, off + k * 3, none⟩ = some (.int .i64 t') ∧ W.cell? ⟨b, off + k * 3 + 1, none⟩ = some (.slice A' n' ca) ∧ W.cell? ⟨b, off + k * 3 + 2, none⟩ = some (.slice B' m' cb) ∧
    TAt P d W (.int .i64 t') (.slice A' n' ca) (.slice B' m' cb) T

theorem Boxed3.below {P : Nat → Prop} {d : Nat} {W W' : World} {g : Nat} {thr : Int} {A : Option Addr} {c : Nat} {B : Option Addr} {c' : Nat} {ns : List Int} {is : List Tree} (h : Boxed3 P d W g thr A c B c' ns is) (hb : Below W.heap.size W W') : Boxed3 P d W' g thr A c B c' ns is := by
  refine ⟨(hb.block g h.lt).trans h.heap, Nat.lt_of_lt_of_le h.lt hb.size, (hb.cell h.lt).trans h.c0, (hb.cell h.lt).trans h.c1, (hb.cell h.lt).trans h.c2, fun k hk => ?_, fun k T hT => ?_⟩
  · obtain ⟨b, off, e1, e2⟩ := h.nodes k hk
    exact ⟨b, off, e1, (hb.cell (cell_lt e2)).trans e2⟩
  · obtain ⟨b, off, t', A', n', ca, B', m', cb, e0, el, e1, e2, e3, e4⟩ := h.inner k T hT
    exact ⟨b, off, t', A', n', ca, B', m', cb, e0, Nat.lt_of_lt_of_le el hb.size, (hb.cell (cell_lt e1)).trans e1, (hb.cell (cell_lt e2)).trans e2, (hb.cell (cell_lt e3)).trans e3, e4.below hb⟩

theorem TAt.boxed {P : Nat → Prop} {d : Nat} {w : World} {v0 v1 v2 : Value} {thr : Int} {ns : List Int} {is : List Tree} (h : TAt P (d + 1) w v0 v1 v2 (.mk thr ns is)) :
    ∃ A c B c', v0 = .int .i64 thr ∧ v1 = .slice A ns.length c ∧ v2 = .slice B is.length c' ∧ ns.length ≤ 1000000 ∧ is.length ≤ 1000000 ∧
      Boxed3 P d (w.alloc (.cells #[.int .i64 thr, .slice A ns.length c, .slice B is.length c'] 73)) w.heap.size thr A c B c' ns is := by
  obtain ⟨rfl, hn, hi, ⟨A, c, rfl, h2⟩, ⟨B, c', rfl, h4⟩⟩ := h
  have hbox : (w.alloc (.cells #[.int .i64 thr, .slice A ns.length c, .slice B is.length c'] 73)).heap[w.heap.size]? = some (.cells #[.int .i64 thr, .slice A ns.length c, .slice B is.length c'] 73 (0, 0)) := heap_alloc_new _ _
  have hb := balloc (bref w) (.cells #[.int .i64 thr, .slice A ns.length c, .slice B is.length c'] 73)
  refine ⟨A, c, B, c', rfl, rfl, rfl, hn, hi, hbox, by simp, cell_of_row _ _ 0 _ _ (0, 0) hbox, cell_of_row _ _ 1 _ _ (0, 0) hbox, cell_of_row _ _ 2 _ _ (0, 0) hbox, fun k hk => ?_, fun k T hT => ?_⟩
  · obtain ⟨b, off, e1, _, e2⟩ := h2 k hk
    exact ⟨b, off, e1, (hb.cell (cell_lt e2)).trans e2⟩
  · obtain ⟨b, off, x0, x1, x2, e0, _, e1, e2, e3, e4⟩ := h4 k T hT
    obtain ⟨t', A', n', ca, B', m', cb, rfl, rfl, rfl⟩ := e4.form
    exact ⟨b, off, t', A', n', ca, B', m', cb, e0, Nat.lt_of_lt_of_le (cell_lt e1) hb.size, (hb.cell (cell_lt e1)).trans e1, (hb.cell (cell_lt e2)).trans e2, (hb.cell (cell_lt e3)).trans e3, e4.below hb⟩

set_option maxHeartbeats 4000000 in
theorem rsize_run (P : Nat → Prop) : ∀ (d : Nat) (T : Tree) (v0 v1 v2 : Value) (w : World), TAt P d w v0 v1 v2 T → sizeT d T ≤ 1000000 →
    Calls Tryz.prog 129 #[.agg #[v0, v1, v2]] w fun e w' => e = .returned (.int .i64 (sizeT d T)) ∧ Below w.heap.size w w' := by
  intro d
  induction d with
  | zero => intro T v0 v1 v2 w h; exact h.elim
  | succ d ih =>
    intro T v0 v1 v2 w h hS
    obtain ⟨thr, ns, is⟩ := T
    obtain ⟨A, c, B, c', rfl, rfl, rfl, hn, hi, hbx⟩ := h.boxed
    have HBX := Lib.hid hbx
    have HB1 := Lib.hid (balloc (bref w) (.cells #[.int .i64 thr, .slice A ns.length c, .slice B is.length c'] 73))
    have IH := Lib.hid ih
    have HSM := Lib.hid (show sizeT (d + 1) (.mk thr ns is) = ns.length + is.length + (is.map (sizeT d)).sum from rfl)
    have hsum : (is.map (sizeT d)).sum ≤ 1000000 := by have := HSM.out; omega
    have HLE := Lib.hid (fun k T (hT : is[k]? = some T) => Nat.le_trans (sizeT_sub (d := d) (thr := thr) (ns := ns) hT) hS)
    clear h hbx ih hS
    go_enter Tryz.func129, Tryz.ntmps129
    go_upto_region 1 with fail
    generalize w.alloc (.cells #[.int .i64 thr, .slice A ns.length c, .slice B is.length c'] 73) = W1 at *
    generalize hg : w.heap.size = g at *
    have hgw := Lib.hid hg
    clear hg
    have c0 := HBX.out.c1
    have c1 := HBX.out.c2
    go_wp2_with fail
    go_loopw [3, 16] (fun u t wr => ∃ k : Nat, k ≤ is.length ∧ t = .int .i64 k ∧ u = .int .i64 ((ns.length + is.length + ((is.map (sizeT d)).take k).sum : Nat) : Int) ∧ Hid (Below W1.heap.size W1 wr)) (fun _ t _ => is.length - (intOf t).toNat)
    case atStart => exact ⟨0, by omega, rfl, by simp, Lib.hid (bref _)⟩
    case round =>
      obtain ⟨k, hk, rfl, rfl, hBr⟩ := hrel
      have hle := sum_take_le (is.map (sizeT d)) k
      by_cases hlt : k < is.length
      · obtain ⟨T, hT⟩ : ∃ T, is[k]? = some T := ⟨_, List.getElem?_eq_getElem hlt⟩
        obtain ⟨b, off, t', A', n', ca, B', m', cb, rfl, hlb, e0, e1, e2, hTk⟩ := (HBX.out.below hBr.out).inner k T hT
        have hT1 := HLE.out k T hT
        have hs' := sum_take_succ (l := is.map (sizeT d)) (k := k) (x := sizeT d T) (by rw [List.getElem?_map, hT]; rfl)
        have hs2 := sum_take_le (is.map (sizeT d)) (k + 1)
        have HS := Lib.hid hs'
        have hbd : ((is.map (sizeT d)).take k).sum + sizeT d T ≤ 1000000 := by omega
        have hTr := Lib.hid (hTk.below (balloc (bref wr) (.cells #[.int .i64 t', .slice A' n' ca, .slice B' m' cb] 73)))
        have hBa := Lib.hid (balloc hBr.out (.cells #[.int .i64 t', .slice A' n' ca, .slice B' m' cb] 73))
        clear hT hTk hs' hs2
        generalize hz : sizeT d T = z at *
        have HZ := Lib.hid hz
        clear hz
        go_wp2_with fail
        refine (IH.out T _ _ _ _ hTr.out (by rw [HZ.out]; omega)).mono ?_
        rintro e w2 ⟨rfl, hb2⟩
        rw [HZ.out]
        have hB2 := Lib.hid (bstep hBa.out hb2)
        clear hb2
        go_wp2_with fail
        go_roundw
        case rel => exact ⟨k + 1, by omega, by go_num, by rw [HS.out]; go_num, hB2⟩
        case measure => simp [intOf]; omega
      · obtain rfl : k = is.length := by omega
        have hfull : ((is.map (sizeT d)).take is.length).sum = (is.map (sizeT d)).sum := by
          rw [show is.length = (is.map (sizeT d)).length by simp, List.take_length]
        have HF := Lib.hid hfull
        clear hfull
        go_wp2_with fail
        go_ret
        exact ⟨by rw [HSM.out, HF.out]; rfl, by have h1 := HB1.out; rw [← hgw.out] at h1; exact bstep h1 hBr.out⟩

end Go.Proofs.YtacpfcckilnbfaaGreat

namespace Go.Proofs.YtacpfcckilnbfaaGreat
set_option linter.unusedVariables false
set_option linter.unusedSimpArgs false
open Go.RowKit

set_option maxHeartbeats 4000000 in
theorem rdepth_run (P : Nat → Prop) : ∀ (d : Nat) (T : Tree) (v0 v1 v2 : Value) (w : World), d ≤ 1000 → TAt P d w v0 v1 v2 T →
    Calls Tryz.prog 128 #[.agg #[v0, v1, v2]] w fun e w' => e = .returned (.int .i64 (depthT d T)) ∧ Below w.heap.size w w' := by
  intro d
  induction d with
  | zero => intro T v0 v1 v2 w hd h; exact h.elim
  | succ d ih =>
    intro T v0 v1 v2 w hd h
    obtain ⟨thr, ns, is⟩ := T
    obtain ⟨A, c, B, c', rfl, rfl, rfl, hn, hi, hbx⟩ := h.boxed
    have HBX := Lib.hid hbx
    have HB1 := Lib.hid (balloc (bref w) (.cells #[.int .i64 thr, .slice A ns.length c, .slice B is.length c'] 73))
    have IH := Lib.hid ih
    have HSM := Lib.hid (show depthT (d + 1) (.mk thr ns is) = ((is.map (depthT d)).foldl max 0) + 1 from rfl)
    have HLE := Lib.hid (fun k => fmax_le (n := d) ((is.map (depthT d)).take k) 0 (Nat.zero_le _) (fun x hx => by obtain ⟨T, _, rfl⟩ := List.mem_map.1 (List.mem_of_mem_take hx); exact depthT_le d T))
    clear h hbx ih
    go_enter Tryz.func128, Tryz.ntmps128
    go_upto_region 1 with fail
    generalize w.alloc (.cells #[.int .i64 thr, .slice A ns.length c, .slice B is.length c'] 73) = W1 at *
    generalize hg : w.heap.size = g at *
    have hgw := Lib.hid hg
    clear hg
    have c0 := HBX.out.c1
    have c1 := HBX.out.c2
    go_wp2_with fail
    go_loopw [3, 9] (fun u t wr => ∃ (k m : Nat), k ≤ is.length ∧ t = .int .i64 k ∧ u = .int .i64 (m : Int) ∧ Hid (m = ((is.map (depthT d)).take k).foldl max 0) ∧ Hid (Below W1.heap.size W1 wr)) (fun _ t _ => is.length - (intOf t).toNat)
    case atStart => exact ⟨0, 0, by omega, rfl, rfl, Lib.hid (by simp), Lib.hid (bref _)⟩
    case round =>
      obtain ⟨k, m, hk, rfl, rfl, hm, hBr⟩ := hrel
      have hmd : m ≤ d := by rw [hm.out]; exact HLE.out k
      by_cases hlt : k < is.length
      · obtain ⟨T, hT⟩ : ∃ T, is[k]? = some T := ⟨_, List.getElem?_eq_getElem hlt⟩
        obtain ⟨b, off, t', A', n', ca, B', m', cb, rfl, hlb, e0, e1, e2, hTk⟩ := (HBX.out.below hBr.out).inner k T hT
        have hs' := fmax_take_succ (l := is.map (depthT d)) (k := k) (x := depthT d T) (by rw [List.getElem?_map, hT]; rfl)
        rw [← hm.out] at hs'
        have HS := Lib.hid hs'
        have hdl := depthT_le d T
        have hTr := Lib.hid (hTk.below (balloc (bref wr) (.cells #[.int .i64 t', .slice A' n' ca, .slice B' m' cb] 73)))
        have hBa := Lib.hid (balloc hBr.out (.cells #[.int .i64 t', .slice A' n' ca, .slice B' m' cb] 73))
        clear hT hTk hs'
        generalize hz : depthT d T = z at *
        have HZ := Lib.hid hz
        clear hz
        go_wp2_with fail
        refine (IH.out T _ _ _ _ (by omega) hTr.out).mono ?_
        rintro e w2 ⟨rfl, hb2⟩
        rw [HZ.out]
        have hB2 := Lib.hid (bstep hBa.out hb2)
        clear hb2
        by_cases hmz : (m : Int) < (z : Int)
        · have hx := Lib.hid (show max m z = z by omega)
          go_wp2_with fail
          go_roundw
          case rel => exact ⟨k + 1, z, by omega, by go_num, by go_num, Lib.hid (by rw [HS.out, hx.out]), hB2⟩
          case measure => simp [intOf]; omega
        · have hx := Lib.hid (show max m z = m by omega)
          go_wp2_with fail
          go_roundw
          case rel => exact ⟨k + 1, m, by omega, by go_num, by go_num, Lib.hid (by rw [HS.out, hx.out]), hB2⟩
          case measure => simp [intOf]; omega
      · obtain rfl : k = is.length := by omega
        have hfull : ((is.map (depthT d)).take is.length) = (is.map (depthT d)) := by
          rw [show is.length = (is.map (depthT d)).length by simp, List.take_length]
        have HF := Lib.hid (show depthT (d + 1) (.mk thr ns is) = m + 1 by rw [HSM.out, hm.out, hfull])
        clear hfull
        go_wp2_with fail
        go_ret
        exact ⟨by rw [HF.out]; rfl, by have h1 := HB1.out; rw [← hgw.out] at h1; exact bstep h1 hBr.out⟩

end Go.Proofs.YtacpfcckilnbfaaGreat

namespace Go.Proofs.YtacpfcckilnbfaaGreat
set_option linter.unusedVariables false
set_option linter.unusedSimpArgs false
open Go.RowKit

def bitS (s : Nat) (k : Int) : Nat := if 0 ≤ k ∧ k < 10 then s ||| 2 ^ k.toNat else s

def nodesS (ns : List Int) : Nat := ns.foldl bitS 0

def usesT : Nat → Tree → Nat
  | 0, _ => 0
  | d + 1, .mk _ ns is => (is.map (usesT d)).foldl (· ||| ·) (nodesS ns)

theorem bitS_lt {s : Nat} {k : Int} (h : s < 1024) : bitS s k < 1024 := by
  unfold bitS
  split
  · rename_i hk
    exact Nat.or_lt_two_pow (n := 10) h (Nat.pow_lt_pow_right (by omega) (by omega))
  · exact h

theorem foldBit_lt : ∀ (ns : List Int) (s : Nat), s < 1024 → ns.foldl bitS s < 1024
  | [], s, h => h
  | k :: ns, s, h => foldBit_lt ns _ (bitS_lt h)

theorem nodesS_lt (ns : List Int) : nodesS ns < 1024 := foldBit_lt ns 0 (by omega)

theorem foldOr_lt : ∀ (l : List Nat) (s : Nat), s < 1024 → (∀ x ∈ l, x < 1024) → l.foldl (· ||| ·) s < 1024
  | [], s, h, _ => h
  | k :: l, s, h, hl => foldOr_lt l _ (Nat.or_lt_two_pow (n := 10) h (hl k List.mem_cons_self)) (fun x hx => hl x (List.mem_cons_of_mem _ hx))

theorem usesT_lt : ∀ (d : Nat) (T : Tree), usesT d T < 1024
  | 0, _ => by unfold usesT; omega
  | d + 1, .mk _ ns is => foldOr_lt _ _ (nodesS_lt ns) (fun x hx => by obtain ⟨T, _, rfl⟩ := List.mem_map.1 hx; exact usesT_lt d T)

theorem foldl_take_succ {α β : Type} (f : β → α → β) (b : β) {l : List α} {k : Nat} {x : α} (h : l[k]? = some x) : (l.take (k + 1)).foldl f b = f ((l.take k).foldl f b) x := by
  rw [List.take_add_one, h]; simp

theorem i64_or_nat (a b : Nat) (ha : a < 9223372036854775808) (hb : b < 9223372036854775808) : bits .or .i64 (a : Int) (b : Int) = ((a ||| b : Nat) : Int) := by
  have hx : a ||| b < 2 ^ 63 := Nat.or_lt_two_pow (by omega) (by omega)
  show IntKind.i64.wrap ((BitVec.ofInt 64 (a : Int) ||| BitVec.ofInt 64 (b : Int)).toNat : Int) = _
  rw [BitVec.toNat_or, ofInt_i64 a ha, ofInt_i64 b hb, IntKind.wrap_i64]
  omega

theorem shl_or (s K : Nat) (hs : s < 1024) (hK : K < 10) : bits .or .i64 (s : Int) (wrap64 (2 ^ K)) = ((s ||| 2 ^ K : Nat) : Int) := by
  have all : ∀ K : Fin 10, wrap64 (2 ^ K.val) = ((2 ^ K.val : Nat) : Int) := by decide +kernel
  have e : wrap64 (2 ^ K) = ((2 ^ K : Nat) : Int) := all ⟨K, hK⟩
  rw [e]
  exact i64_or_nat s (2 ^ K) (by omega) (Nat.lt_of_le_of_lt (Nat.pow_le_pow_right (by omega) (show K ≤ 10 by omega)) (by omega))

set_option maxHeartbeats 4000000 in
theorem ruses_run (P : Nat → Prop) : ∀ (d : Nat) (T : Tree) (v0 v1 v2 : Value) (w : World), TAt P d w v0 v1 v2 T →
    Calls Tryz.prog 104 #[.agg #[v0, v1, v2]] w fun e w' => e = .returned (.int .i64 (usesT d T)) ∧ Below w.heap.size w w' := by
  intro d
  induction d with
  | zero => intro T v0 v1 v2 w h; exact h.elim
  | succ d ih =>
    intro T v0 v1 v2 w h
    obtain ⟨thr, ns, is⟩ := T
    obtain ⟨A, c, B, c', rfl, rfl, rfl, hn, hi, hbx⟩ := h.boxed
    have HBX := Lib.hid hbx
    have HB1 := Lib.hid (balloc (bref w) (.cells #[.int .i64 thr, .slice A ns.length c, .slice B is.length c'] 73))
    have IH := Lib.hid ih
    have HSM := Lib.hid (show usesT (d + 1) (.mk thr ns is) = (is.map (usesT d)).foldl (· ||| ·) (nodesS ns) from rfl)
    clear h hbx ih
    go_enter Tryz.func104, Tryz.ntmps104
    go_upto_region 2 with fail
    generalize w.alloc (.cells #[.int .i64 thr, .slice A ns.length c, .slice B is.length c'] 73) = W1 at *
    generalize hg : w.heap.size = g at *
    have hgw := Lib.hid hg
    clear hg
    have c0 := HBX.out.c1
    have c1 := HBX.out.c2
    go_wp2_with fail
    go_loop [3, 11] (fun u t => ∃ (k s : Nat), k ≤ ns.length ∧ t = .int .i64 k ∧ u = .int .i64 (s : Int) ∧ Hid (s = (ns.take k).foldl bitS 0)) (fun _ t => ns.length - (intOf t).toNat)
    case atStart => exact ⟨0, 0, by omega, rfl, rfl, Lib.hid (by simp)⟩
    case round =>
      obtain ⟨k, s, hk, rfl, rfl, hs⟩ := hrel
      have hs1 : s < 1024 := by rw [hs.out]; exact foldBit_lt _ 0 (by omega)
      by_cases hlt : k < ns.length
      · obtain ⟨b, off, rfl, hc⟩ := HBX.out.nodes k hlt
        have hs' := foldl_take_succ bitS 0 (l := ns) (k := k) (x := ns.getD k 0) (by rw [List.getD_eq_getElem?_getD, List.getElem?_eq_getElem hlt]; rfl)
        rw [← hs.out] at hs'
        generalize ns.getD k 0 = x at *
        by_cases h0 : 0 ≤ x
        · by_cases h10 : x < 10
          · obtain ⟨K, rfl⟩ := Int.eq_ofNat_of_zero_le h0
            have hK : K < 10 := by omega
            have HS := Lib.hid (show (ns.take (k + 1)).foldl bitS 0 = s ||| 2 ^ K by rw [hs']; unfold bitS; rw [if_pos ⟨h0, h10⟩]; rfl)
            have HOR := Lib.hid (shl_or s K (by omega) hK)
            clear hs'
            go_wp2_with fail
            rw [HOR.out]
            go_round
            case rel => exact ⟨k + 1, _, by omega, by go_num, rfl, Lib.hid HS.out.symm⟩
            case measure => simp [intOf]; omega
          · have HS := Lib.hid (show (ns.take (k + 1)).foldl bitS 0 = s by rw [hs']; unfold bitS; rw [if_neg (by omega)])
            clear hs'
            go_wp2_with fail
            go_round
            case rel => exact ⟨k + 1, s, by omega, by go_num, rfl, Lib.hid HS.out.symm⟩
            case measure => simp [intOf]; omega
        · have HS := Lib.hid (show (ns.take (k + 1)).foldl bitS 0 = s by rw [hs']; unfold bitS; rw [if_neg (by omega)])
          clear hs'
          go_wp2_with fail
          go_round
          case rel => exact ⟨k + 1, s, by omega, by go_num, rfl, Lib.hid HS.out.symm⟩
          case measure => simp [intOf]; omega
      · obtain rfl : k = ns.length := by omega
        have hN := Lib.hid (show s = nodesS ns by rw [hs.out, List.take_length]; rfl)
        go_wp2_with fail
        go_loopw [3, 29] (fun u t wr => ∃ (k m : Nat), k ≤ is.length ∧ t = .int .i64 k ∧ u = .int .i64 (m : Int) ∧ Hid (m = ((is.map (usesT d)).take k).foldl (· ||| ·) (nodesS ns)) ∧ Hid (Below W1.heap.size W1 wr)) (fun _ t _ => is.length - (intOf t).toNat)
        case atStart => exact ⟨0, s, by omega, rfl, rfl, Lib.hid (by simpa using hN.out), Lib.hid (bref _)⟩
        case round =>
          clear hs hs1
          obtain ⟨k, m, hk, rfl, rfl, hm, hBr⟩ := hrel
          have hm1 : m < 1024 := by
            rw [hm.out]
            exact foldOr_lt _ _ (nodesS_lt ns) (fun x hx => by obtain ⟨T, _, rfl⟩ := List.mem_map.1 (List.mem_of_mem_take hx); exact usesT_lt d T)
          by_cases hlt : k < is.length
          · obtain ⟨T, hT⟩ : ∃ T, is[k]? = some T := ⟨_, List.getElem?_eq_getElem hlt⟩
            obtain ⟨b, off, t', A', n', ca, B', m', cb, rfl, hlb, e0, e1, e2, hTk⟩ := (HBX.out.below hBr.out).inner k T hT
            have hs' := foldl_take_succ (· ||| ·) (nodesS ns) (l := is.map (usesT d)) (k := k) (x := usesT d T) (by rw [List.getElem?_map, hT]; rfl)
            rw [← hm.out] at hs'
            have HS := Lib.hid hs'
            have hul := usesT_lt d T
            have hTr := Lib.hid (hTk.below (balloc (bref wr) (.cells #[.int .i64 t', .slice A' n' ca, .slice B' m' cb] 73)))
            have hBa := Lib.hid (balloc hBr.out (.cells #[.int .i64 t', .slice A' n' ca, .slice B' m' cb] 73))
            clear hT hTk hs'
            generalize hz : usesT d T = z at *
            have HZ := Lib.hid hz
            have HOR := Lib.hid (i64_or_nat m z (by omega) (by omega))
            clear hz
            go_wp2_with fail
            refine (IH.out T _ _ _ _ hTr.out).mono ?_
            rintro e w2 ⟨rfl, hb2⟩
            rw [HZ.out]
            have hB2 := Lib.hid (bstep hBa.out hb2)
            clear hb2
            go_wp2_with fail
            rw [HOR.out]
            go_roundw
            case rel => exact ⟨k + 1, _, by omega, by go_num, rfl, Lib.hid HS.out.symm, hB2⟩
            case measure => simp [intOf]; omega
          · obtain rfl : k = is.length := by omega
            have hfull : ((is.map (usesT d)).take is.length) = (is.map (usesT d)) := by
              rw [show is.length = (is.map (usesT d)).length by simp, List.take_length]
            have HF := Lib.hid (show usesT (d + 1) (.mk thr ns is) = m by rw [HSM.out, hm.out, hfull])
            clear hfull
            go_wp2_with fail
            go_ret
            exact ⟨by rw [HF.out]; rfl, by have h1 := HB1.out; rw [← hgw.out] at h1; exact bstep h1 hBr.out⟩

set_option maxHeartbeats 4000000 in
theorem puses_run (P : Nat → Prop) : ∀ (d : Nat) (T : Tree) (v0 v1 v2 : Value) (w : World), TAt P d w v0 v1 v2 T →
    Calls Tryz.prog 149 #[.agg #[v0, v1, v2]] w fun e w' => e = .returned (.int .i64 (usesT d T)) ∧ Below w.heap.size w w' := by
  intro d
  induction d with
  | zero => intro T v0 v1 v2 w h; exact h.elim
  | succ d ih =>
    intro T v0 v1 v2 w h
    obtain ⟨thr, ns, is⟩ := T
    obtain ⟨A, c, B, c', rfl, rfl, rfl, hn, hi, hbx⟩ := h.boxed
    have HBX := Lib.hid hbx
    have HB1 := Lib.hid (balloc (bref w) (.cells #[.int .i64 thr, .slice A ns.length c, .slice B is.length c'] 73))
    have IH := Lib.hid ih
    have HSM := Lib.hid (show usesT (d + 1) (.mk thr ns is) = (is.map (usesT d)).foldl (· ||| ·) (nodesS ns) from rfl)
    clear h hbx ih
    go_enter Tryz.func149, Tryz.ntmps149
    go_upto_region 2 with fail
    generalize w.alloc (.cells #[.int .i64 thr, .slice A ns.length c, .slice B is.length c'] 73) = W1 at *
    generalize hg : w.heap.size = g at *
    have hgw := Lib.hid hg
    clear hg
    have c0 := HBX.out.c1
    have c1 := HBX.out.c2
    go_wp2_with fail
    go_loop [3, 11] (fun u t => ∃ (k s : Nat), k ≤ ns.length ∧ t = .int .i64 k ∧ u = .int .i64 (s : Int) ∧ Hid (s = (ns.take k).foldl bitS 0)) (fun _ t => ns.length - (intOf t).toNat)
    case atStart => exact ⟨0, 0, by omega, rfl, rfl, Lib.hid (by simp)⟩
    case round =>
      obtain ⟨k, s, hk, rfl, rfl, hs⟩ := hrel
      have hs1 : s < 1024 := by rw [hs.out]; exact foldBit_lt _ 0 (by omega)
      by_cases hlt : k < ns.length
      · obtain ⟨b, off, rfl, hc⟩ := HBX.out.nodes k hlt
        have hs' := foldl_take_succ bitS 0 (l := ns) (k := k) (x := ns.getD k 0) (by rw [List.getD_eq_getElem?_getD, List.getElem?_eq_getElem hlt]; rfl)
        rw [← hs.out] at hs'
        generalize ns.getD k 0 = x at *
        by_cases h0 : 0 ≤ x
        · by_cases h10 : x < 10
          · obtain ⟨K, rfl⟩ := Int.eq_ofNat_of_zero_le h0
            have hK : K < 10 := by omega
            have HS := Lib.hid (show (ns.take (k + 1)).foldl bitS 0 = s ||| 2 ^ K by rw [hs']; unfold bitS; rw [if_pos ⟨h0, h10⟩]; rfl)
            have HOR := Lib.hid (shl_or s K (by omega) hK)
            clear hs'
            go_wp2_with fail
            rw [HOR.out]
            go_round
            case rel => exact ⟨k + 1, _, by omega, by go_num, rfl, Lib.hid HS.out.symm⟩
            case measure => simp [intOf]; omega
          · have HS := Lib.hid (show (ns.take (k + 1)).foldl bitS 0 = s by rw [hs']; unfold bitS; rw [if_neg (by omega)])
            clear hs'
            go_wp2_with fail
            go_round
            case rel => exact ⟨k + 1, s, by omega, by go_num, rfl, Lib.hid HS.out.symm⟩
            case measure => simp [intOf]; omega
        · have HS := Lib.hid (show (ns.take (k + 1)).foldl bitS 0 = s by rw [hs']; unfold bitS; rw [if_neg (by omega)])
          clear hs'
          go_wp2_with fail
          go_round
          case rel => exact ⟨k + 1, s, by omega, by go_num, rfl, Lib.hid HS.out.symm⟩
          case measure => simp [intOf]; omega
      · obtain rfl : k = ns.length := by omega
        have hN := Lib.hid (show s = nodesS ns by rw [hs.out, List.take_length]; rfl)
        go_wp2_with fail
        go_loopw [3, 29] (fun u t wr => ∃ (k m : Nat), k ≤ is.length ∧ t = .int .i64 k ∧ u = .int .i64 (m : Int) ∧ Hid (m = ((is.map (usesT d)).take k).foldl (· ||| ·) (nodesS ns)) ∧ Hid (Below W1.heap.size W1 wr)) (fun _ t _ => is.length - (intOf t).toNat)
        case atStart => exact ⟨0, s, by omega, rfl, rfl, Lib.hid (by simpa using hN.out), Lib.hid (bref _)⟩
        case round =>
          clear hs hs1
          obtain ⟨k, m, hk, rfl, rfl, hm, hBr⟩ := hrel
          have hm1 : m < 1024 := by
            rw [hm.out]
            exact foldOr_lt _ _ (nodesS_lt ns) (fun x hx => by obtain ⟨T, _, rfl⟩ := List.mem_map.1 (List.mem_of_mem_take hx); exact usesT_lt d T)
          by_cases hlt : k < is.length
          · obtain ⟨T, hT⟩ : ∃ T, is[k]? = some T := ⟨_, List.getElem?_eq_getElem hlt⟩
            obtain ⟨b, off, t', A', n', ca, B', m', cb, rfl, hlb, e0, e1, e2, hTk⟩ := (HBX.out.below hBr.out).inner k T hT
            have hs' := foldl_take_succ (· ||| ·) (nodesS ns) (l := is.map (usesT d)) (k := k) (x := usesT d T) (by rw [List.getElem?_map, hT]; rfl)
            rw [← hm.out] at hs'
            have HS := Lib.hid hs'
            have hul := usesT_lt d T
            have hTr := Lib.hid (hTk.below (balloc (bref wr) (.cells #[.int .i64 t', .slice A' n' ca, .slice B' m' cb] 73)))
            have hBa := Lib.hid (balloc hBr.out (.cells #[.int .i64 t', .slice A' n' ca, .slice B' m' cb] 73))
            clear hT hTk hs'
            generalize hz : usesT d T = z at *
            have HZ := Lib.hid hz
            have HOR := Lib.hid (i64_or_nat m z (by omega) (by omega))
            clear hz
            go_wp2_with fail
            refine (IH.out T _ _ _ _ hTr.out).mono ?_
            rintro e w2 ⟨rfl, hb2⟩
            rw [HZ.out]
            have hB2 := Lib.hid (bstep hBa.out hb2)
            clear hb2
            go_wp2_with fail
            rw [HOR.out]
            go_roundw
            case rel => exact ⟨k + 1, _, by omega, by go_num, rfl, Lib.hid HS.out.symm, hB2⟩
            case measure => simp [intOf]; omega
          · obtain rfl : k = is.length := by omega
            have hfull : ((is.map (usesT d)).take is.length) = (is.map (usesT d)) := by
              rw [show is.length = (is.map (usesT d)).length by simp, List.take_length]
            have HF := Lib.hid (show usesT (d + 1) (.mk thr ns is) = m by rw [HSM.out, hm.out, hfull])
            clear hfull
            go_wp2_with fail
            go_ret
            exact ⟨by rw [HF.out]; rfl, by have h1 := HB1.out; rw [← hgw.out] at h1; exact bstep h1 hBr.out⟩

end Go.Proofs.YtacpfcckilnbfaaGreat

namespace Go.Proofs.YtacpfcckilnbfaaGreat
set_option linter.unusedVariables false
set_option linter.unusedSimpArgs false
open Go.RowKit

set_option maxHeartbeats 400000 in
theorem rsetValid_run (s : Int) (w : World) : Calls Tryz.prog 62 #[.int .i64 s] w fun e w' => e = .returned (.bool (setB s)) ∧ w = w' := by
  cases hb : setB s
  all_goals
    have hi := setB_iff (s := s)
    rw [hb] at hi
    simp only [reduceCtorEq, false_iff, true_iff] at hi
    clear hb
    by_cases h0 : 0 ≤ s <;> by_cases h1 : s ≤ 1023
  all_goals first | (exfalso; omega) | skip
  all_goals
    clear hi
    go_enter Tryz.func62, Tryz.ntmps62
    go_wp2
    go_ret
    exact ⟨rfl, rfl⟩

set_option maxHeartbeats 1000000 in
theorem rhas_run (s k : Int) (w : World) : Calls Tryz.prog 38 #[.int .i64 s, .int .i64 k] w fun e w' => e = .returned (.bool (hasB s k)) ∧ w = w' := by
  cases h1 : setB s
  · have HH := Lib.hid (show hasB s k = false by unfold hasB; simp [h1])
    go_enter Tryz.func38, Tryz.ntmps38
    go_wp2_with (first | (go_at_call 62; refine (rsetValid_run _ _).mono ?_; rintro e w2 ⟨rfl, rfl⟩))
    go_ret
    exact ⟨by rw [HH.out]; rfl, rfl⟩
  · by_cases k0 : 0 ≤ k
    · by_cases k1 : k < 10
      · obtain ⟨s0, s1⟩ := setB_iff.1 h1
        obtain ⟨S, rfl⟩ := Int.eq_ofNat_of_zero_le s0
        obtain ⟨K, rfl⟩ := Int.eq_ofNat_of_zero_le k0
        have h2 : nodeB (K : Int) = true := nodeB_iff.2 ⟨k0, k1⟩
        have HH := Lib.hid (show hasB (S : Int) (K : Int) = S.testBit K by unfold hasB; simp [h1, h2])
        clear h2
        go_enter Tryz.func38, Tryz.ntmps38
        go_wp2_with (first | (go_at_call 62; refine (rsetValid_run _ _).mono ?_; rintro e w2 ⟨rfl, rfl⟩))
        go_ret
        exact ⟨by rw [HH.out, ← bit_fact S K (by omega)]; rfl, rfl⟩
      · have HH := Lib.hid (show hasB s k = false by unfold hasB nodeB; simp [k1])
        go_enter Tryz.func38, Tryz.ntmps38
        go_wp2_with (first | (go_at_call 62; refine (rsetValid_run _ _).mono ?_; rintro e w2 ⟨rfl, rfl⟩))
        go_ret
        exact ⟨by rw [HH.out]; rfl, rfl⟩
    · have HH := Lib.hid (show hasB s k = false by unfold hasB nodeB; simp [k0])
      go_enter Tryz.func38, Tryz.ntmps38
      go_wp2_with (first | (go_at_call 62; refine (rsetValid_run _ _).mono ?_; rintro e w2 ⟨rfl, rfl⟩))
      go_ret
      exact ⟨by rw [HH.out]; rfl, rfl⟩

/-- Nodes in range. -/
def InR (ns : List Int) : Prop := ∀ x ∈ ns, 0 ≤ x ∧ x < 10

theorem foldBit_bit : ∀ (ns : List Int) (s K : Nat), InR ns → (ns.foldl bitS s).testBit K = (s.testBit K || decide ((K : Int) ∈ ns))
  | [], s, K, _ => by simp
  | x :: ns, s, K, h => by
    rw [List.foldl_cons, foldBit_bit ns _ K (fun y hy => h y (List.mem_cons_of_mem _ hy))]
    have hx := h x List.mem_cons_self
    unfold bitS
    rw [if_pos hx, Nat.testBit_or, Nat.testBit_two_pow, Bool.or_assoc]
    congr 1
    rw [Bool.eq_iff_iff]
    simp
    constructor
    · rintro (h | h)
      · left; omega
      · exact .inr h
    · rintro (h | h)
      · left; omega
      · exact .inr h

theorem nodesS_bit {ns : List Int} (K : Nat) (h : InR ns) : (nodesS ns).testBit K = decide ((K : Int) ∈ ns) := by
  unfold nodesS; rw [foldBit_bit ns 0 K h]; simp

set_option maxHeartbeats 2000000 in
theorem rof_run (A : Option Addr) (c : Nat) (ns : List Int) (w : World) (hn : ns.length ≤ 1000000) (hr : InR ns) (hd : ns.Nodup)
    (h : ∀ k, k < ns.length → ∃ b off, A = some ⟨b, off, none⟩ ∧ w.cell? ⟨b, off + k, none⟩ = some (.int .i64 (ns.getD k 0))) :
    Calls Tryz.prog 147 #[.slice A ns.length c] w fun e w' => e = .returned (.tuple #[.int .i64 (nodesS ns), .int .i64 0]) ∧ w = w' := by
  have H := Lib.hid h
  have HR := Lib.hid hr
  have HD := Lib.hid hd
  clear h hr hd
  go_enter Tryz.func147, Tryz.ntmps147
  go_wp2_with fail
  go_loop [4, 9] (fun u t => ∃ (k s : Nat), k ≤ ns.length ∧ t = .int .i64 k ∧ u = .int .i64 (s : Int) ∧ Hid (s = (ns.take k).foldl bitS 0)) (fun _ t => ns.length - (intOf t).toNat)
  case atStart => exact ⟨0, 0, by omega, rfl, rfl, Lib.hid (by simp)⟩
  case round =>
    obtain ⟨k, s, hk, rfl, rfl, hs⟩ := hrel
    have hs1 : s < 1024 := by rw [hs.out]; exact foldBit_lt _ 0 (by omega)
    by_cases hlt : k < ns.length
    · obtain ⟨b, off, rfl, hc⟩ := H.out k hlt
      have hx0 : ns[k]? = some (ns.getD k 0) := by rw [List.getD_eq_getElem?_getD, List.getElem?_eq_getElem hlt]; rfl
      have hs' := foldl_take_succ bitS 0 hx0
      rw [← hs.out] at hs'
      have hin := HR.out _ (List.mem_of_getElem? hx0)
      have hnot : hasB (s : Int) (ns.getD k 0) = false := by
        unfold hasB
        rw [hs.out]
        have : ((List.foldl bitS 0 (List.take k ns)).testBit (ns.getD k 0).toNat) = false := by
          rw [foldBit_bit _ 0 _ (fun x hx => HR.out x (List.mem_of_mem_take hx))]
          have e : (((ns.getD k 0).toNat : Nat) : Int) = ns.getD k 0 := by omega
          rw [e]
          simp only [Nat.zero_testBit, Bool.false_or, decide_eq_false_iff_not]
          intro hmem
          obtain ⟨i, hi, hie⟩ := List.getElem_of_mem hmem
          rw [List.getElem_take] at hie
          have hik : i < k := by simp at hi; omega
          have h2 := List.pairwise_iff_getElem.1 (List.nodup_iff_pairwise_ne.1 HD.out) i k (by omega) hlt hik
          apply h2
          rw [hie, List.getD_eq_getElem?_getD, List.getElem?_eq_getElem hlt]; rfl
        rw [Int.toNat_natCast, this]
        simp
      generalize ns.getD k 0 = x at *
      obtain ⟨h0, h10⟩ := hin
      obtain ⟨K, rfl⟩ := Int.eq_ofNat_of_zero_le h0
      have hK : K < 10 := by omega
      have HS := Lib.hid (show (ns.take (k + 1)).foldl bitS 0 = s ||| 2 ^ K by rw [hs']; unfold bitS; rw [if_pos ⟨h0, h10⟩]; rfl)
      have HOR := Lib.hid (shl_or s K (by omega) hK)
      have HN := Lib.hid hnot
      clear hs' hx0 hnot
      go_wp2_with fail
      refine (rhas_run _ _ _).mono ?_
      rintro e w2 ⟨rfl, rfl⟩
      rw [HN.out]
      go_wp2_with fail
      rw [HOR.out]
      go_round
      case rel => exact ⟨k + 1, _, by omega, by go_num, rfl, Lib.hid HS.out.symm⟩
      case measure => simp [intOf]; omega
    · obtain rfl : k = ns.length := by omega
      have hN := Lib.hid (show s = nodesS ns by rw [hs.out, List.take_length]; rfl)
      go_wp2_with fail
      go_ret2
      exact ⟨by rw [hN.out]; rfl, rfl⟩

end Go.Proofs.YtacpfcckilnbfaaGreat

namespace Go.Proofs.YtacpfcckilnbfaaGreat
set_option linter.unusedVariables false
set_option linter.unusedSimpArgs false
open Go.RowKit

theorem WF.inR {n : Int} (hn : n ≤ 10) {d : Nat} {thr : Int} {ns : List Int} {is : List Tree} (h : WF n (d + 1) (.mk thr ns is)) : InR ns := fun x hx => by
  have := h.2.2.2.2.1 x hx
  omega

set_option maxHeartbeats 4000000 in
theorem rcheck_run (P : Nat → Prop) (n : Int) (hn10 : n ≤ 10) : ∀ (d : Nat) (T : Tree) (v0 v1 v2 : Value) (w : World), TAt P d w v0 v1 v2 T → WF n d T →
    Calls Tryz.prog 130 #[.agg #[v0, v1, v2]] w fun e w' => e = .returned (.int .i64 0) ∧ Below w.heap.size w w' := by
  intro d
  induction d with
  | zero => intro T v0 v1 v2 w h; exact h.elim
  | succ d ih =>
    intro T v0 v1 v2 w h hW
    obtain ⟨thr, ns, is⟩ := T
    obtain ⟨A, c, B, c', rfl, rfl, rfl, hn, hi, hbx⟩ := h.boxed
    have hinr := hW.inR hn10
    obtain ⟨ht0, ht1, hl5, hl3, hr, hnd, hWi⟩ := hW
    have HBX := Lib.hid hbx
    have HB1 := Lib.hid (balloc (bref w) (.cells #[.int .i64 thr, .slice A ns.length c, .slice B is.length c'] 73))
    have IH := Lib.hid ih
    have HIN := Lib.hid hinr
    have HND := Lib.hid hnd
    have HWI := Lib.hid hWi
    have hthr : thr ≤ (ns.length : Int) + (is.length : Int) := by push_cast at ht1; exact ht1
    clear h hbx ih hr hnd hWi hinr ht1
    go_enter Tryz.func130, Tryz.ntmps130
    go_upto_region 1 with fail
    generalize w.alloc (.cells #[.int .i64 thr, .slice A ns.length c, .slice B is.length c'] 73) = W1 at *
    generalize hg : w.heap.size = g at *
    have hgw := Lib.hid hg
    clear hg
    have c0 := HBX.out.c0
    have c1 := HBX.out.c1
    have c2 := HBX.out.c2
    go_wp2_with fail
    go_loop [28] (fun t => ∃ (k : Nat), k ≤ ns.length ∧ t = .int .i64 k) (fun t => ns.length - (intOf t).toNat)
    case atStart => exact ⟨0, by omega, rfl⟩
    case round =>
      obtain ⟨k, hk, rfl⟩ := hrel
      by_cases hlt : k < ns.length
      · obtain ⟨b, off, rfl, hc⟩ := HBX.out.nodes k hlt
        have hx0 : ns[k]? = some (ns.getD k 0) := by rw [List.getD_eq_getElem?_getD, List.getElem?_eq_getElem hlt]; rfl
        obtain ⟨x0, x1⟩ := HIN.out _ (List.mem_of_getElem? hx0)
        clear hx0
        generalize ns.getD k 0 = x at *
        go_wp2_with fail
        go_round
        case rel => exact ⟨k + 1, by omega, by go_num⟩
        case measure => simp [intOf]; omega
      · obtain rfl : k = ns.length := by omega
        go_wp2_with fail
        refine (rof_run A c ns _ hn HIN.out HND.out HBX.out.nodes).mono ?_
        rintro e w2 ⟨rfl, rfl⟩
        generalize nodesS ns = sns at *
        go_wp2_with fail
        go_loopw [51] (fun t wr => ∃ (k : Nat), k ≤ is.length ∧ t = .int .i64 k ∧ Hid (Below W1.heap.size W1 wr)) (fun t _ => is.length - (intOf t).toNat)
        case atStart => exact ⟨0, by omega, rfl, Lib.hid (bref _)⟩
        case round =>
          obtain ⟨k, hk, rfl, hBr⟩ := hrel
          by_cases hlt : k < is.length
          · obtain ⟨T, hT⟩ : ∃ T, is[k]? = some T := ⟨_, List.getElem?_eq_getElem hlt⟩
            obtain ⟨b, off, t', A', n', ca, B', m', cb, rfl, hlb, e0, e1, e2, hTk⟩ := (HBX.out.below hBr.out).inner k T hT
            have hWT := Lib.hid (HWI.out T (List.mem_of_getElem? hT))
            have hTr := Lib.hid (hTk.below (balloc (bref wr) (.cells #[.int .i64 t', .slice A' n' ca, .slice B' m' cb] 73)))
            have hBa := Lib.hid (balloc hBr.out (.cells #[.int .i64 t', .slice A' n' ca, .slice B' m' cb] 73))
            clear hT hTk
            go_wp2_with fail
            refine (IH.out T _ _ _ _ hTr.out hWT.out).mono ?_
            rintro e w2 ⟨rfl, hb2⟩
            have hB2 := Lib.hid (bstep hBa.out hb2)
            clear hb2
            go_wp2_with fail
            go_roundw
            case rel => exact ⟨k + 1, by omega, by go_num, hB2⟩
            case measure => simp [intOf]; omega
          · obtain rfl : k = is.length := by omega
            go_wp2_with fail
            go_ret
            exact ⟨rfl, by have h1 := HB1.out; rw [← hgw.out] at h1; exact bstep h1 hBr.out⟩

theorem sum_le_mul : ∀ (l : List Nat) (B : Nat), (∀ x ∈ l, x ≤ B) → l.sum ≤ l.length * B
  | [], B, _ => by simp
  | x :: l, B, h => by
    have h1 := h x List.mem_cons_self
    have h2 := sum_le_mul l B (fun y hy => h y (List.mem_cons_of_mem _ hy))
    simp only [List.sum_cons, List.length_cons, Nat.add_mul, Nat.one_mul]
    omega

theorem WF.size {n : Int} : ∀ (d : Nat) (T : Tree), WF n d T → sizeT d T ≤ 16 * 4 ^ d
  | 0, _, h => h.elim
  | d + 1, .mk thr ns is, h => by
    obtain ⟨_, _, h5, h3, _, _, hi⟩ := h
    have h1 := sum_le_mul (is.map (sizeT d)) (16 * 4 ^ d) (fun x hx => by obtain ⟨T, hT, rfl⟩ := List.mem_map.1 hx; exact WF.size d T (hi T hT))
    rw [List.length_map] at h1
    have h2 : is.length * (16 * 4 ^ d) ≤ 3 * (16 * 4 ^ d) := Nat.mul_le_mul_right _ h3
    have h6 : 1 ≤ 4 ^ d := Nat.one_le_pow _ _ (by omega)
    show ns.length + is.length + (is.map (sizeT d)).sum ≤ 16 * 4 ^ (d + 1)
    rw [Nat.pow_succ]
    omega

theorem WF.size4 {n : Int} {d : Nat} {T : Tree} (h : WF n d T) (hd : d ≤ 4) : sizeT d T ≤ 4096 := by
  have h1 := WF.size d T h
  have h2 : 4 ^ d ≤ 4 ^ 4 := Nat.pow_le_pow_right (by omega) hd
  omega

set_option maxHeartbeats 2000000 in
theorem rvalid_run (P : Nat → Prop) (n : Int) (hn10 : n ≤ 10) (d : Nat) (hd : d ≤ 4) (T : Tree) (v0 v1 v2 : Value) (w : World) (h : TAt P d w v0 v1 v2 T) (hW : WF n d T) :
    Calls Tryz.prog 103 #[.agg #[v0, v1, v2]] w fun e w' => (e = .returned (.int .i64 0) ∧ sizeT d T ≤ 200 ∨ e = .returned (.int .i64 3)) ∧ Below w.heap.size w w' := by
  obtain ⟨t', A', n', ca, B', m', cb, rfl, rfl, rfl⟩ := h.form
  have hT := Lib.hid (h.below (balloc (bref w) (.cells #[.int .i64 t', .slice A' n' ca, .slice B' m' cb] 73)))
  have HW := Lib.hid hW
  have hdl := Nat.le_trans (depthT_le d T) hd
  have hsz := hW.size4 hd
  clear h hW
  go_enter Tryz.func103, Tryz.ntmps103
  have hbox : (w.alloc (.cells #[.int .i64 t', .slice A' n' ca, .slice B' m' cb] 73)).heap[w.heap.size]? = some (.cells #[.int .i64 t', .slice A' n' ca, .slice B' m' cb] 73 (0, 0)) := heap_alloc_new _ _
  have HBX := Lib.hid hbox
  have HB1 := Lib.hid (balloc (bref w) (.cells #[.int .i64 t', .slice A' n' ca, .slice B' m' cb] 73))
  clear hbox
  go_upto_region 1 with fail
  generalize w.alloc (.cells #[.int .i64 t', .slice A' n' ca, .slice B' m' cb] 73) = W1 at *
  generalize hg : w.heap.size = g at *
  have hgw := Lib.hid hg
  clear hg
  have c0 : W1.cell? ⟨g, 0, none⟩ = some (.int .i64 t') := cell_of_row _ _ 0 _ _ (0, 0) HBX.out
  have c1 : W1.cell? ⟨g, 1, none⟩ = some (.slice A' n' ca) := cell_of_row _ _ 1 _ _ (0, 0) HBX.out
  have c2 : W1.cell? ⟨g, 2, none⟩ = some (.slice B' m' cb) := cell_of_row _ _ 2 _ _ (0, 0) HBX.out
  have hgl : g < W1.heap.size := cell_lt c0
  generalize hdz : depthT d T = dz at *
  generalize hzz : sizeT d T = zz at *
  have HDZ := Lib.hid hdz
  have HZZ := Lib.hid hzz
  clear hdz hzz
  go_wp2_with fail
  refine (rdepth_run P d T _ _ _ _ (by omega) hT.out).mono ?_
  rintro e w2 ⟨rfl, hb2⟩
  rw [HDZ.out]
  have a0 := (hb2.cell (p := ⟨g, 0, none⟩) hgl).trans c0
  have a1 := (hb2.cell (p := ⟨g, 1, none⟩) hgl).trans c1
  have a2 := (hb2.cell (p := ⟨g, 2, none⟩) hgl).trans c2
  have hT2 := Lib.hid (hT.out.below hb2)
  have HB2 := Lib.hid hb2
  have hgl2 := cell_lt a0
  clear hb2
  go_wp2_with fail
  refine (rsize_run P d T _ _ _ _ hT2.out (by rw [HZZ.out]; omega)).mono ?_
  rintro e w3 ⟨rfl, hb3⟩
  rw [HZZ.out]
  have d0 := (hb3.cell (p := ⟨g, 0, none⟩) hgl2).trans a0
  have d1 := (hb3.cell (p := ⟨g, 1, none⟩) hgl2).trans a1
  have d2 := (hb3.cell (p := ⟨g, 2, none⟩) hgl2).trans a2
  have hT3 := Lib.hid (hT2.out.below hb3)
  have HB3 := Lib.hid (bstep HB2.out hb3)
  have HBW : Hid (∀ x : World, Below W1.heap.size W1 x → Below w.heap.size w x) := Lib.hid (fun x hx => by have h1 := HB1.out; rw [← hgw.out] at h1; exact bstep h1 hx)
  clear hb3
  by_cases hz2 : zz ≤ 200
  · go_wp2_with fail
    refine (rcheck_run P n hn10 d T _ _ _ _ hT3.out HW.out).mono ?_
    rintro e w4 ⟨rfl, hb4⟩
    go_wp2_with fail
    go_ret
    rw [← hgw.out]
    exact ⟨.inl ⟨rfl, by rw [HZZ.out]; exact hz2⟩, HBW.out _ (bstep HB3.out hb4)⟩
  · go_wp2_with fail
    go_ret
    rw [← hgw.out]
    exact ⟨.inr rfl, HBW.out _ HB3.out⟩

/-- A trust as trustquorummake.Trust returns it. -/
def Fine (n : Int) (d : Nat) (T : Tree) : Prop := WF n d T ∧ sizeT d T ≤ 200

theorem Fine.single {n r : Int} {D : Nat} (h0 : 0 ≤ r) (h1 : r < n) : Fine n (D + 1) (.mk 1 [r] []) := by
  refine ⟨?_, by simp [sizeT]⟩
  show 1 ≤ (1 : Int) ∧ (1 : Int) ≤ (([r].length + ([] : List Tree).length : Nat) : Int) ∧ [r].length ≤ 10 ∧ ([] : List Tree).length ≤ 3 ∧ (∀ x ∈ [r], 0 ≤ x ∧ x < n) ∧ [r].Nodup ∧ ∀ T ∈ ([] : List Tree), WF n D T
  refine ⟨by omega, by simp, by simp, by simp, fun x hx => ?_, by simp, fun T hT => by simp at hT⟩
  rw [List.mem_singleton] at hx
  omega

set_option maxHeartbeats 2000000 in
theorem mkTrust_run (sb n : Nat) (hn : 1 ≤ n) (hn1 : n ≤ 10) (D : Nat) (hD : D ≤ 3) (w : World) (hs : TapeOk w sb) :
    Calls Tryz.prog 82 #[.pointer (some ⟨sb, 0, none⟩), .int .i64 n, .int .i64 ((D + 1 : Nat) : Int)] w fun e w' => ∃ (v0 v1 v2 : Value) (T : Tree), e = .returned (.agg #[v0, v1, v2]) ∧ TAt (fun b => w.heap.size ≤ b) (D + 1) w' v0 v1 v2 T ∧ Fine n (D + 1) T ∧ TapeOk w' sb ∧ w.grownBy w' (some sb) := by
  have HS := Lib.hid hs
  have hsl := hs.lt
  clear hs
  go_enter Tryz.func82, Tryz.ntmps82
  have hbox : (w.alloc (.cells #[.int .i64 0, .slice none 0 0, .slice none 0 0] 73)).heap[w.heap.size]? = some (.cells #[.int .i64 0, .slice none 0 0, .slice none 0 0] 73 (0, 0)) := heap_alloc_new _ _
  have HO := Lib.hid (show OutAt (w.alloc (.cells #[.int .i64 0, .slice none 0 0, .slice none 0 0] 73)) w.heap.size 0 (.slice none 0 0) (.slice none 0 0) from hbox)
  have HS1 := Lib.hid (HS.out.alloc (.cells #[.int .i64 0, .slice none 0 0, .slice none 0 0] 73))
  have HG1 := Lib.hid (grown_below (r := some sb) (balloc (bref w) (.cells #[.int .i64 0, .slice none 0 0, .slice none 0 0] 73)))
  clear hbox
  go_upto_region 1 with fail
  generalize w.alloc (.cells #[.int .i64 0, .slice none 0 0, .slice none 0 0] 73) = W1 at *
  have hol := HO.out.lt
  go_wp2_with fail
  refine (trust_run sb n hn hn1 D (by omega) _ HS1.out).mono ?_
  rintro e w2 ⟨x0, x1, x2, T, rfl, hT, hW, hs2, hg2⟩
  obtain ⟨t', A', n', ca, B', m', cb, rfl, rfl, rfl⟩ := hT.form
  have HO2 := Lib.hid ((HO.out.keep (hg2.block _ hol (by simp; omega))).keep (Below.heap_alloc w2 (.cells #[.int .i64 t', .slice A' n' ca, .slice B' m' cb] 73) _ (Nat.lt_of_lt_of_le hol hg2.size)))
  have HT2 := Lib.hid (hT.below (balloc (bref w2) (.cells #[.int .i64 t', .slice A' n' ca, .slice B' m' cb] 73)))
  have HS2 := Lib.hid (hs2.alloc (.cells #[.int .i64 t', .slice A' n' ca, .slice B' m' cb] 73))
  have HG2 := Lib.hid (grown_trans (grown_trans HG1.out hg2) (grown_below (balloc (bref w2) (.cells #[.int .i64 t', .slice A' n' ca, .slice B' m' cb] 73))))
  have HW := Lib.hid hW
  have hbox2 : OutAt (w2.alloc (.cells #[.int .i64 t', .slice A' n' ca, .slice B' m' cb] 73)) w2.heap.size t' (.slice A' n' ca) (.slice B' m' cb) := heap_alloc_new _ _
  have HX := Lib.hid hbox2
  have hg2z := hg2.size
  clear hT hW hs2 hg2 hbox2
  go_upto_region 2 with fail
  generalize w2.alloc (.cells #[.int .i64 t', .slice A' n' ca, .slice B' m' cb] 73) = W2 at *
  generalize w2.heap.size = g at *
  obtain ⟨c0, c1, c2⟩ := HX.out.cs
  have hgl := HX.out.lt
  go_wp2_with fail
  refine (rvalid_run _ n (by omega) (D + 1) (by omega) T _ _ _ _ HT2.out HW.out).mono ?_
  rintro e w3 ⟨he, hb3⟩
  have hO3 := HO2.out.keep (hb3.block _ HO2.out.lt)
  obtain ⟨o0, o1, o2⟩ := hO3.cs
  have of0 := hO3.fr 0
  have of1 := hO3.fr 1
  have of2 := hO3.fr 2
  have HO3 := Lib.hid hO3
  have HT3 := Lib.hid (HT2.out.below hb3)
  have HS3 := Lib.hid (HS2.out.below hb3)
  have HG3 := Lib.hid (grown_trans HG2.out (grown_below hb3))
  have hX3 := HX.out.keep (hb3.block _ hgl)
  obtain ⟨d0, d1, d2⟩ := hX3.cs
  clear hX3 hO3 hb3
  have hz1 : w.heap.size < W1.heap.size := hol
  have hgz3 := HG3.out.size
  rcases he with ⟨rfl, hz⟩ | rfl
  · go_wp2_with fail
    refine bodyPost_ret (v := .agg #[.int .i64 t', .slice A' n' ca, .slice B' m' cb]) ?_ rfl ⟨_, _, _, T, rfl, ?_, ⟨HW.out, hz⟩, ?_, ?_⟩
    · simp [results, Tryz.results82, go_sem, o0, o1, o2]
    · exact TAt.both (fun k hk hP => (Below.heap_setCell _ _ _ _ (by simp; omega)).trans ((Below.heap_setCell _ _ _ _ (by simp; omega)).trans (Below.heap_setCell _ _ _ _ (by simp; omega)))) (fun k _ hP => by omega) _ _ _ _ _ HT3.out
    · exact ((HS3.out.setCell (p := ⟨w.heap.size, 0, none⟩) (by simp; omega) _).setCell (p := ⟨w.heap.size, 1, none⟩) (by simp; omega) _).setCell (p := ⟨w.heap.size, 2, none⟩) (by simp; omega) _
    · exact gset (gset (gset HG3.out (p := ⟨w.heap.size, 0, none⟩) (by simp) _) (p := ⟨w.heap.size, 1, none⟩) (by simp) _) (p := ⟨w.heap.size, 2, none⟩) (by simp) _
  · go_wp2_with fail
    refine (TN_run _ sb _ (by omega) (by omega) HS3.out).mono ?_
    rintro e w4 ⟨r, hr0, hr1, rfl, hs4, hg4⟩
    have hO4 := HO3.out.keep (hg4.block _ HO3.out.lt (by simp; omega))
    obtain ⟨p0, p1, p2⟩ := hO4.cs
    have pf0 := hO4.fr 0
    have pf1 := hO4.fr 1
    have pf2 := hO4.fr 2
    have HOX := Lib.hid hO4
    have HS5 := Lib.hid hs4
    have HG5 := Lib.hid (grown_trans HG3.out hg4)
    have hw4 : w.heap.size < w4.heap.size := hO4.lt
    have hw5 : sb < w4.heap.size := hs4.lt
    clear hO4 hs4 hg4 o0 o1 o2 of0 of1 of2 d0 d1 d2 c0 c1 c2
    go_wp2_with fail
    have HS6 := ((((HS5.out.setCell (p := ⟨w.heap.size, 0, none⟩) (by simp; omega) (.int .i64 1)).setCell (p := ⟨w.heap.size, 1, none⟩) (by simp; omega) (.slice (some ⟨w4.heap.size, 0, none⟩) 1 1)).setCell (p := ⟨w.heap.size, 2, none⟩) (by simp; omega) (.slice none 0 0))).alloc (.cells #[.int .i64 r] 3)
    have HG6 := grown_trans (gset (gset (gset HG5.out (p := ⟨w.heap.size, 0, none⟩) (by simp) (.int .i64 1)) (p := ⟨w.heap.size, 1, none⟩) (by simp) (.slice (some ⟨w4.heap.size, 0, none⟩) 1 1)) (p := ⟨w.heap.size, 2, none⟩) (by simp) (.slice none 0 0)) (grown_below (r := some sb) (balloc (bref _) (.cells #[.int .i64 r] 3)))
    refine bodyPost_ret (v := .agg #[.int .i64 1, .slice (some ⟨w4.heap.size, 0, none⟩) 1 1, .slice none 0 0]) ?_ rfl ⟨_, _, _, .mk 1 [r] [], rfl, ?_, Fine.single hr0 hr1, HS6, HG6⟩
    · simp [results, Tryz.results82, go_sem, p0, p1, p2, hw4]
    · refine ⟨rfl, by simp, by simp, ⟨some ⟨w4.heap.size, 0, none⟩, 1, rfl, fun k hk => ⟨w4.heap.size, 0, rfl, by omega, ?_⟩⟩, ⟨none, 0, rfl, fun k T hT => by simp at hT⟩⟩
      obtain rfl : k = 0 := by simpa using hk
      refine (cell_of_row _ _ 0 #[.int .i64 r] 3 (0, 0) ?_)
      have := heap_alloc_new (((w4.setCell ⟨w.heap.size, 0, none⟩ (.int .i64 1)).setCell ⟨w.heap.size, 1, none⟩ (.slice (some ⟨w4.heap.size, 0, none⟩) 1 1)).setCell ⟨w.heap.size, 2, none⟩ (.slice none 0 0)) (.cells #[.int .i64 r] 3)
      simpa using this

end Go.Proofs.YtacpfcckilnbfaaGreat

namespace Go.Proofs.YtacpfcckilnbfaaGreat
set_option linter.unusedVariables false
set_option linter.unusedSimpArgs false
open Go.RowKit

/-- v is a slice of just these nodes, in blocks of which P holds. -/
def NodesAt (P : Nat → Prop) (w : World) (v : Value) (ns : List Int) : Prop :=
  ∃ A c, v = .slice A ns.length c ∧ ∀ k, k < ns.length → ∃ b off, A = some ⟨b, off, none⟩ ∧ P b ∧ w.cell? ⟨b, off + k, none⟩ = some (.int .i64 (ns.getD k 0))

theorem NodesAt.of_own {W : World} {B : Nat} {v : Value} {ns : List Int} (h : W.ownsRow B 3 1 v ns.length (ns.map (Value.int .i64))) : NodesAt (fun b => B ≤ b) W v ns := by
  rcases h.2 with ⟨hv, h0⟩ | ⟨g, cap, cur, hv, hb, _⟩
  · exact ⟨none, 0, by rw [hv, h0], fun k hk => by omega⟩
  · refine ⟨some ⟨g, 0, none⟩, cap, hv, fun k hk => ⟨g, 0, rfl, hb, ?_⟩⟩
    have := h.cells (g := g) (by rw [hv]; rfl) k (.int .i64 (ns.getD k 0)) (by
      rw [List.getElem?_map, List.getD_eq_getElem?_getD, List.getElem?_eq_getElem hk]; rfl)
    rw [Addr.add_lit] at this
    exact this

set_option maxHeartbeats 1000000 in
theorem flat_run (P : Nat → Prop) (v : Value) (ns : List Int) (w : World) (hn : ns.length ≤ 1000000) (h : NodesAt P w v ns) :
    Calls Tryz.prog 145 #[v] w fun e w' => ∃ v', e = .returned v' ∧ NodesAt (fun b => w.heap.size ≤ b) w' v' ns ∧ Below w.heap.size w w' := by
  obtain ⟨i0, hi, hz0, hz1, hz2⟩ := info_parts infoInt
  obtain ⟨A, c, rfl, h1⟩ := h
  rcases A with _ | ⟨b, off, p⟩
  · have h0 : ns.length = 0 := by
      rcases Nat.eq_zero_or_pos ns.length with h | h
      · exact h
      · obtain ⟨_, _, e, _⟩ := h1 0 h; cases e
    rw [List.eq_nil_of_length_eq_zero h0]
    go_enter Tryz.func145, Tryz.ntmps145
    go_wp2
    go_ret
    exact ⟨_, rfl, ⟨none, 0, rfl, fun k hk => by simp at hk⟩, bref _⟩
  · have hc : ∀ j (u : Value), (ns.map (Value.int .i64))[j]? = some u → w.cell? ((⟨b, off, p⟩ : Addr).add j) = some u := by
      intro j u hu
      rw [List.getElem?_map] at hu
      have hj : j < ns.length := by
        rcases Nat.lt_or_ge j ns.length with h | h
        · exact h
        · rw [List.getElem?_eq_none h] at hu; cases hu
      obtain ⟨b', off', e, _, e2⟩ := h1 j hj
      simp only [Option.some.injEq, Addr.mk.injEq] at e
      obtain ⟨rfl, rfl, rfl⟩ := e
      rw [Addr.add_lit, e2]
      rw [List.getElem?_eq_getElem hj] at hu
      rw [List.getD_eq_getElem?_getD, List.getElem?_eq_getElem hj]
      exact hu
    have HC := Lib.hid hc
    clear h1 hc
    go_enter Tryz.func145, Tryz.ntmps145
    go_wp2_with (at_builtin; refine wpList_append_own _ rfl _ _ 22 rfl w.heap.size 3 i0 (.int .i64 0) 1 8 Tryz.underlying22 hi hz0 hz1 hz2 rfl (by decide) _ _ _ rfl (World.ownsRow_nil _ _ _ _) ⟨b, off, p⟩ ns.length c (ns.map (Value.int .i64)) rfl (by simp) HC.out (fun u hu => by obtain ⟨x, _, rfl⟩ := List.mem_map.1 hu; rfl) (by unfold maxLen; omega) (by omega) (Nat.le_refl _) ?_; intro v' w1 hown' hgrow hnil)
    rw [Nat.zero_add, List.nil_append] at hown'
    have HO := Lib.hid hown'
    have HB := Lib.hid (Below.grown (bref w) hgrow (Nat.le_refl _) (fun j hj => by cases hj))
    clear hown' hgrow hnil
    go_wp2_with fail
    go_ret
    exact ⟨_, rfl, NodesAt.of_own HO.out, HB.out⟩

end Go.Proofs.YtacpfcckilnbfaaGreat

namespace Go.Proofs.YtacpfcckilnbfaaGreat
set_option linter.unusedVariables false
set_option linter.unusedSimpArgs false
open Go.RowKit

/-- A member: is it declared, and its trust. -/
abbrev Mem := Bool × Tree

theorem infoMember : (Tryz.prog.info? 75).map (fun i => (i.zero, i.size, i.bytes)) = some (some (.agg #[.bool false, .int .i64 0, .slice none 0 0, .slice none 0 0]), 4, 64) := by kernel_rfl

/-- The members' slice v reads as ms; trusts of at most d levels. -/
def MemsAt (P : Nat → Prop) (d : Nat) (w : World) (v : Value) (ms : List Mem) : Prop :=
  ∃ A c, v = .slice A ms.length c ∧ ∀ k m, ms[k]? = some m → ∃ b off x0 x1 x2, A = some ⟨b, off, none⟩ ∧ P b ∧ w.cell? ⟨b, off + k * 4, none⟩ = some (.bool m.1) ∧ w.cell? ⟨b, off + k * 4 + 1, none⟩ = some x0 ∧ w.cell? ⟨b, off + k * 4 + 2, none⟩ = some x1 ∧ w.cell? ⟨b, off + k * 4 + 3, none⟩ = some x2 ∧ TAt P d w x0 x1 x2 m.2

theorem MemsAt.both {P Q : Nat → Prop} {w w' : World} {d : Nat} {v : Value} {ms : List Mem} (h : MemsAt P d w v ms) (hk : ∀ k, k < w.heap.size → P k → w'.heap[k]? = w.heap[k]?) (hq : ∀ k, k < w.heap.size → P k → Q k) : MemsAt Q d w' v ms := by
  obtain ⟨A, c, h1, h2⟩ := h
  refine ⟨A, c, h1, fun k m hm => ?_⟩
  obtain ⟨b, off, x0, x1, x2, e0, e1, e2, e3, e4, e5, e6⟩ := h2 k m hm
  have l := hk _ (cell_lt e2) e1
  exact ⟨b, off, x0, x1, x2, e0, hq _ (cell_lt e2) e1, (World.cell?_of_block (a := ⟨b, off + k * 4, none⟩) l).trans e2, (World.cell?_of_block (a := ⟨b, off + k * 4 + 1, none⟩) l).trans e3, (World.cell?_of_block (a := ⟨b, off + k * 4 + 2, none⟩) l).trans e4, (World.cell?_of_block (a := ⟨b, off + k * 4 + 3, none⟩) l).trans e5, TAt.both hk hq _ _ _ _ _ e6⟩

theorem MemsAt.below {P : Nat → Prop} {w w' : World} {d : Nat} {v : Value} {ms : List Mem} (h : MemsAt P d w v ms) (hb : Below w.heap.size w w') : MemsAt P d w' v ms := h.both (fun k hk _ => hb.block k hk) (fun _ _ h => h)

theorem MemsAt.slice {P : Nat → Prop} {w : World} {d : Nat} {v : Value} {ms : List Mem} (h : MemsAt P d w v ms) : ∃ A c, v = .slice A ms.length c := by
  obtain ⟨A, c, h1, _⟩ := h; exact ⟨A, c, h1⟩

theorem alloc_at {w : World} {o : Obj} {k : Nat} (h : w.heap.size = k) : (w.alloc o).heap[k]? = some o := by rw [← h]; exact heap_alloc_new _ _

theorem alloc_on {w : World} {o v : Obj} {k : Nat} (h : w.heap[k]? = some v) : (w.alloc o).heap[k]? = some v := by
  have hl : k < w.heap.size := by
    rcases Nat.lt_or_ge k w.heap.size with h1 | h1
    · exact h1
    · rw [Array.getElem?_eq_none h1] at h; cases h
  exact (heap_alloc_old _ _ hl).trans h

theorem alloc_sz (w : World) (o : Obj) : (w.alloc o).heap.size = w.heap.size + 1 := by simp

theorem grown_at {a w : World} {lb : Nat} (h : a.grownBy w (some lb)) (o : Nat) (v : Value) : a.grownBy (w.setCell ⟨lb, o, none⟩ v) (some lb) :=
  grown_trans h (gset1 w ⟨lb, o, none⟩ v)

/-- A member in a box of its own. -/
theorem memBox {P : Nat → Prop} {d : Nat} {w : World} {A : Option Addr} {c k : Nat} {ms : List Mem} {m : Mem} (h : MemsAt P d w (.slice A ms.length c) ms) (hm : ms[k]? = some m) :
    ∃ b off t A1 n1 c1 A2 n2 c2, A = some ⟨b, off, none⟩ ∧ P b ∧ b < w.heap.size ∧ w.cell? ⟨b, off + k * 4, none⟩ = some (.bool m.1) ∧ w.cell? ⟨b, off + k * 4 + 1, none⟩ = some (.int .i64 t) ∧ w.cell? ⟨b, off + k * 4 + 2, none⟩ = some (.slice A1 n1 c1) ∧ w.cell? ⟨b, off + k * 4 + 3, none⟩ = some (.slice A2 n2 c2) ∧
      TAt P d w (.int .i64 t) (.slice A1 n1 c1) (.slice A2 n2 c2) m.2 := by
  obtain ⟨A', c', h1, h2⟩ := h
  cases h1
  obtain ⟨b, off, x0, x1, x2, e0, e1, e2, e3, e4, e5, e6⟩ := h2 k m hm
  obtain ⟨t, A1, n1, c1, A2, n2, c2, rfl, rfl, rfl⟩ := e6.form
  exact ⟨b, off, t, A1, n1, c1, A2, n2, c2, e0, e1, cell_lt e2, e2, e3, e4, e5, e6⟩

/-! ### What a configuration says -/

/-- The set of the declared members. -/
def declS (ms : List Mem) : Nat → Nat
  | 0 => 0
  | k + 1 => if (ms.getD k (false, .mk 0 [] [])).1 then declS ms k ||| 2 ^ k else declS ms k

theorem declS_lt (ms : List Mem) : ∀ k, k ≤ 10 → declS ms k < 1024
  | 0, _ => by unfold declS; omega
  | k + 1, h => by
    unfold declS
    split
    · exact Nat.or_lt_two_pow (n := 10) (declS_lt ms k (by omega)) (Nat.pow_lt_pow_right (by omega) (by omega))
    · exact declS_lt ms k (by omega)

set_option maxRecDepth 100000 in
set_option maxHeartbeats 4000000 in
theorem declared_run (P : Nat → Prop) (d : Nat) (ms : List Mem) (v : Value) (w : World) (hl : ms.length ≤ 10) (h : MemsAt P d w v ms) :
    Calls Tryz.prog 100 #[.agg #[v]] w fun e w' => e = .returned (.int .i64 (declS ms ms.length : Nat)) ∧ Below w.heap.size w w' := by
  obtain ⟨A, c, rfl⟩ := h.slice
  have hb1 : Below w.heap.size w (w.alloc (.cells #[.slice A ms.length c] 27)) := balloc (bref w) _
  have k0 : (w.alloc (.cells #[.slice A ms.length c] 27)).heap[w.heap.size]? = some (.cells #[.slice A ms.length c] 27 (0, 0)) := alloc_at rfl
  have H := Lib.hid (h.below hb1)
  have HB := Lib.hid hb1
  have K0 := Lib.hid k0
  clear h hb1 k0
  go_enter Tryz.func100, Tryz.ntmps100
  go_upto_region 1 with fail
  generalize w.alloc (.cells #[.slice A ms.length c] 27) = W1 at *
  generalize hg : w.heap.size = g at *
  have HG := Lib.hid hg
  clear hg
  have c0 : W1.cell? ⟨g, 0, none⟩ = some (.slice A ms.length c) := cell_of_row _ _ 0 _ _ (0, 0) K0.out
  go_wp2_with fail
  go_loopw [3, 9] (fun s t W => ∃ k : Nat, k ≤ ms.length ∧ s = .int .i64 (declS ms k : Nat) ∧ t = .int .i64 k ∧ Hid (Below W1.heap.size W1 W)) (fun _ t _ => ms.length - (intOf t).toNat)
  case atStart => exact ⟨0, by omega, rfl, rfl, Lib.hid (bref _)⟩
  case round =>
    obtain ⟨k, hk, rfl, rfl, hB⟩ := hrel
    by_cases hlt : k < ms.length
    · obtain ⟨m, hm⟩ : ∃ m, ms[k]? = some m := ⟨_, List.getElem?_eq_getElem hlt⟩
      obtain ⟨b, off, t, A1, n1, c1, A2, n2, c2, rfl, hP, hbl, e0, e1, e2, e3, hT⟩ := memBox (H.out.below hB.out) hm
      have HDS := Lib.hid (show declS ms (k + 1) = if m.1 then declS ms k ||| 2 ^ k else declS ms k by
        show (if (ms.getD k (false, .mk 0 [] [])).1 then _ else _) = _
        rw [List.getD_eq_getElem?_getD, hm]; rfl)
      have hdl := declS_lt ms k (by omega)
      have HOR := Lib.hid (shl_or (declS ms k) k (by omega) (by omega))
      obtain ⟨dec, T⟩ := m
      clear hm hT
      generalize declS ms k = D at *
      have hk10 : (k : Int) < 10 := by omega
      cases dec
      · rw [if_neg (by simp)] at HDS
        go_wp2_with fail
        go_roundw
        case rel => exact ⟨k + 1, by omega, by rw [HDS.out], by go_num, Lib.hid (balloc hB.out _)⟩
        case measure => simp [intOf]; omega
      · rw [if_pos rfl] at HDS
        go_wp2_with fail
        rw [HOR.out]
        go_roundw
        case rel => exact ⟨k + 1, by omega, by rw [HDS.out], by go_num, Lib.hid (balloc hB.out _)⟩
        case measure => simp [intOf]; omega
    · obtain rfl : k = ms.length := by omega
      go_wp2_with fail
      go_ret
      exact ⟨rfl, by
        have h1 := HB.out
        rw [← HG.out] at h1
        exact bstep h1 hB.out⟩

end Go.Proofs.YtacpfcckilnbfaaGreat

namespace Go.Proofs.YtacpfcckilnbfaaGreat
set_option linter.unusedVariables false
set_option linter.unusedSimpArgs false
open Go.RowKit

theorem list_snoc {w : World} {v : Value} {n B : Nat} {gs : List Int} {x : Int} (h : w.ownsRow B 3 1 v n (gs.map (Value.int .i64) ++ [.int .i64 x])) : w.ownsRow B 3 1 v n ((gs ++ [x]).map (Value.int .i64)) := by
  rw [List.map_append]; exact h

theorem asc_snoc {ns : List Int} {k : Nat} (h1 : ns.Nodup) (h2 : ∀ x ∈ ns, 0 ≤ x ∧ x < (k : Int)) : (ns ++ [(k : Int)]).Nodup ∧ ∀ x ∈ ns ++ [(k : Int)], 0 ≤ x ∧ x < ((k + 1 : Nat) : Int) := by
  constructor
  · rw [List.nodup_append]
    refine ⟨h1, by simp, fun a ha b hb => ?_⟩
    rw [List.mem_singleton] at hb
    have := h2 a ha
    omega
  · intro x hx
    rcases List.mem_append.1 hx with h | h
    · have := h2 x h; omega
    · rw [List.mem_singleton] at h; omega

/-- The world of most in front of its threshold. -/
structure MostAt (w W : World) (g sb B m : Nat) (A : Option Addr) (n c : Nat) (ns : List Int) : Prop where
  len : ns.length = n
  pos : 1 ≤ n
  ten : n ≤ 10
  nodes : NodesAt (fun b => B ≤ b) W (.slice A ns.length c) ns
  asc : ns.Nodup ∧ ∀ x ∈ ns, 0 ≤ x ∧ x < (m : Int)
  out : OutAt W (g + 1) 0 (.slice A n c) (.slice none 0 0)
  res : OutAt W g 0 (.slice none 0 0) (.slice none 0 0)
  tape : TapeOk W sb
  grown : w.grownBy W (some sb)
  size : B ≤ W.heap.size

theorem NodesAt.both' {P : Nat → Prop} {w w' : World} {v : Value} {ns : List Int} (h : NodesAt P w v ns) (hk : ∀ k, k < w.heap.size → P k → w'.heap[k]? = w.heap[k]?) : NodesAt P w' v ns := by
  obtain ⟨A, c, h1, h2⟩ := h
  refine ⟨A, c, h1, fun k hk' => ?_⟩
  obtain ⟨b, off, e1, e2, e3⟩ := h2 k hk'
  exact ⟨b, off, e1, e2, (World.cell?_of_block (hk _ (cell_lt e3) e2)).trans e3⟩

theorem NodesAt.below' {P : Nat → Prop} {w w' : World} {v : Value} {ns : List Int} (h : NodesAt P w v ns) (hb : Below w.heap.size w w') : NodesAt P w' v ns := h.both' (fun k hk _ => hb.block k hk)

/-- What the region of the threshold keeps. -/
def MX (w : World) (g sb B : Nat) (A : Option Addr) (n c : Nat) (ns : List Int) (W : World) : Prop :=
  (∃ y, OutAt W (g + 1) y (.slice A n c) (.slice none 0 0)) ∧ OutAt W g 0 (.slice none 0 0) (.slice none 0 0) ∧ TapeOk W sb ∧ w.grownBy W (some sb) ∧ NodesAt (fun b => B ≤ b) W (.slice A n c) ns ∧ B ≤ W.heap.size

theorem MX.below {w W W' : World} {g sb B n c : Nat} {A : Option Addr} {ns : List Int} (h : MX w g sb B A n c ns W) (hb : Below W.heap.size W W') : MX w g sb B A n c ns W' := by
  obtain ⟨⟨y, h1⟩, h2, h3, h4, h5, h6⟩ := h
  exact ⟨⟨y, h1.keep (hb.block _ h1.lt)⟩, h2.keep (hb.block _ h2.lt), h3.below hb, grown_trans h4 (grown_below hb), NodesAt.below' h5 hb, Nat.le_trans h6 hb.size⟩

theorem MX.grown {w W W' : World} {g sb B n c : Nat} {A : Option Addr} {ns : List Int} (h : MX w g sb B A n c ns W) (hs : TapeOk W' sb) (hg : W.grownBy W' (some sb)) (h0 : sb < g) (h1 : sb < B) : MX w g sb B A n c ns W' := by
  obtain ⟨⟨y, k1⟩, h2, h3, h4, h5, h6⟩ := h
  exact ⟨⟨y, k1.keep (hg.block _ k1.lt (by simp; omega))⟩, h2.keep (hg.block _ h2.lt (by simp; omega)), hs, grown_trans h4 hg, NodesAt.both' h5 (fun q hq hP => hg.block q hq (by simp; omega)), Nat.le_trans h6 hg.size⟩

theorem MX.set {w W : World} {g sb B n c : Nat} {A : Option Addr} {ns : List Int} (h : MX w g sb B A n c ns W) (hg : w.heap.size = g) (h0 : sb < g) (h1 : g + 2 ≤ B) (x : Int) : MX w g sb B A n c ns (W.setCell ⟨g + 1, 0, none⟩ (.int .i64 x)) := by
  obtain ⟨⟨y, k1⟩, h2, h3, h4, h5, h6⟩ := h
  have far : ∀ q, q ≠ g + 1 → (W.setCell ⟨g + 1, 0, none⟩ (.int .i64 x)).heap[q]? = W.heap[q]? := fun q hq => Below.heap_setCell _ _ _ _ (by simpa using hq)
  exact ⟨⟨x, k1.set0 x⟩, h2.keep (far g (by omega)), h3.setCell (p := ⟨g + 1, 0, none⟩) (by show sb < g + 1; omega) _, gset h4 (p := ⟨g + 1, 0, none⟩) (by show w.heap.size ≤ g + 1; omega) _, NodesAt.both' h5 (fun q _ hP => far q (by omega)), by simpa [World.setCell] using h6⟩

theorem keepMX {w W W' : World} {g sb B n c : Nat} {A : Option Addr} {ns : List Int} (h : W.cell? ⟨g + 1, 1, none⟩ = some (.slice A n c) ∧ MX w g sb B A n c ns W) (hb : Below W.heap.size W W') : W'.cell? ⟨g + 1, 1, none⟩ = some (.slice A n c) ∧ MX w g sb B A n c ns W' := by
  have k := h.2.below hb
  obtain ⟨⟨y, k1⟩, _⟩ := id k
  exact ⟨k1.cs.2.1, k⟩

theorem growMX {w W W' : World} {g sb B n c : Nat} {A : Option Addr} {ns : List Int} (h : W.cell? ⟨g + 1, 1, none⟩ = some (.slice A n c) ∧ MX w g sb B A n c ns W) (hs : TapeOk W' sb) (hg : W.grownBy W' (some sb)) (h0 : sb < g) (h1 : sb < B) : W'.cell? ⟨g + 1, 1, none⟩ = some (.slice A n c) ∧ MX w g sb B A n c ns W' := by
  have k := h.2.grown hs hg h0 h1
  obtain ⟨⟨y, k1⟩, _⟩ := id k
  exact ⟨k1.cs.2.1, k⟩

theorem setMX {w W : World} {g sb B n c : Nat} {A : Option Addr} {ns : List Int} (h : W.cell? ⟨g + 1, 1, none⟩ = some (.slice A n c) ∧ MX w g sb B A n c ns W) (hg : w.heap.size = g) (h0 : sb < g) (h1 : g + 2 ≤ B) (x : Int) : (W.setCell ⟨g + 1, 0, none⟩ (.int .i64 x)).cell? ⟨g + 1, 1, none⟩ = some (.slice A n c) ∧ MX w g sb B A n c ns (W.setCell ⟨g + 1, 0, none⟩ (.int .i64 x)) := by
  have k := h.2.set hg h0 h1 x
  obtain ⟨⟨y, k1⟩, _⟩ := id k
  exact ⟨k1.cs.2.1, k⟩

theorem most_end {w W : World} {g sb B n c m : Nat} {A : Option Addr} {ns : List Int} {t : Int} (hMX : MX w g sb B A n c ns W) (hg : w.heap.size = g) (h0 : sb < g) (hB : g + 2 ≤ B) (hl : ns.length = n) (hn : n ≤ 10) (ht : 1 ≤ t) (ht1 : t ≤ (n : Int)) (hasc : ns.Nodup ∧ ∀ x ∈ ns, 0 ≤ x ∧ x < (m : Int)) :
    TAt (fun b => w.heap.size ≤ b) 1 (((W.setCell ⟨g, 0, none⟩ (.int .i64 t)).setCell ⟨g, 1, none⟩ (.slice A n c)).setCell ⟨g, 2, none⟩ (.slice none 0 0)) (.int .i64 t) (.slice A n c) (.slice none 0 0) (.mk t ns []) ∧ WF m 1 (.mk t ns []) ∧
      TapeOk (((W.setCell ⟨g, 0, none⟩ (.int .i64 t)).setCell ⟨g, 1, none⟩ (.slice A n c)).setCell ⟨g, 2, none⟩ (.slice none 0 0)) sb ∧ w.grownBy (((W.setCell ⟨g, 0, none⟩ (.int .i64 t)).setCell ⟨g, 1, none⟩ (.slice A n c)).setCell ⟨g, 2, none⟩ (.slice none 0 0)) (some sb) := by
  obtain ⟨_, _, h3, h4, h5, _⟩ := hMX
  have far : ∀ q, q ≠ g → (((W.setCell ⟨g, 0, none⟩ (.int .i64 t)).setCell ⟨g, 1, none⟩ (.slice A n c)).setCell ⟨g, 2, none⟩ (.slice none 0 0)).heap[q]? = W.heap[q]? := fun q hq =>
    (Below.heap_setCell _ _ _ _ (by simpa using hq)).trans ((Below.heap_setCell _ _ _ _ (by simpa using hq)).trans (Below.heap_setCell _ _ _ _ (by simpa using hq)))
  refine ⟨?_, ⟨ht, by simp; omega, by omega, by simp, hasc.2, hasc.1, fun T hT => by simp at hT⟩, ?_, ?_⟩
  · obtain ⟨A', c', e1, e2⟩ := h5
    refine ⟨rfl, by omega, by simp, ⟨A', c', e1, fun k hk => ?_⟩, ⟨none, 0, rfl, fun k T hT => by simp at hT⟩⟩
    obtain ⟨b, off, f1, f2, f3⟩ := e2 k hk
    exact ⟨b, off, f1, by omega, (World.cell?_of_block (far b (by omega))).trans f3⟩
  · exact ((h3.setCell (p := ⟨g, 0, none⟩) (by show sb < g; omega) _).setCell (p := ⟨g, 1, none⟩) (by show sb < g; omega) _).setCell (p := ⟨g, 2, none⟩) (by show sb < g; omega) _
  · exact gset (gset (gset h4 (p := ⟨g, 0, none⟩) (by show w.heap.size ≤ g; omega) _) (p := ⟨g, 1, none⟩) (by show w.heap.size ≤ g; omega) _) (p := ⟨g, 2, none⟩) (by show w.heap.size ≤ g; omega) _

theorem most_thr (Q : Nat) (q : Int) (n : Nat) (h1 : 1 ≤ Q ∧ Q ≤ 7) (h2 : -1 ≤ q) (hn : 1 ≤ n) : 1 ≤ (if (if 1 < (Q : Int) + q then (Q : Int) + q else 1) < (n : Int) then if 1 < (Q : Int) + q then (Q : Int) + q else 1 else (n : Int)) ∧ (if (if 1 < (Q : Int) + q then (Q : Int) + q else 1) < (n : Int) then if 1 < (Q : Int) + q then (Q : Int) + q else 1 else (n : Int)) ≤ (n : Int) := by
  constructor <;> (repeat' split) <;> omega

theorem most_pick (j : Nat) (hj : j < 5) : ∃ q : Int, ([0, 0, 0, 1, -1] : List Int).getD j 0 = q ∧ -1 ≤ q ∧ q ≤ 1 := by
  match j, hj with
  | 0, _ => exact ⟨0, rfl, by omega, by omega⟩
  | 1, _ => exact ⟨0, rfl, by omega, by omega⟩
  | 2, _ => exact ⟨0, rfl, by omega, by omega⟩
  | 3, _ => exact ⟨1, rfl, by omega, by omega⟩
  | 4, _ => exact ⟨-1, rfl, by omega, by omega⟩

set_option maxRecDepth 100000 in
set_option maxHeartbeats 4000000 in
theorem most_run (sb m : Nat) (hm : 1 ≤ m) (hm1 : m ≤ 10) (w : World) (hs : TapeOk w sb) :
    Calls Tryz.prog 83 #[.pointer (some ⟨sb, 0, none⟩), .int .i64 m] w fun e w' => ∃ (v0 v1 v2 : Value) (T : Tree), e = .returned (.agg #[v0, v1, v2]) ∧ TAt (fun b => w.heap.size ≤ b) 1 w' v0 v1 v2 T ∧ WF m 1 T ∧ TapeOk w' sb ∧ w.grownBy w' (some sb) := by
  obtain ⟨i0, hin, hz0, hz1, hz2⟩ := info_parts infoInt
  have hsl := hs.lt
  have hb2 : Below w.heap.size w ((w.alloc (.cells #[.int .i64 0, .slice none 0 0, .slice none 0 0] 73)).alloc (.cells #[.int .i64 0, .slice none 0 0, .slice none 0 0] 73)) := balloc (balloc (bref w) _) _
  have k0 : OutAt ((w.alloc (.cells #[.int .i64 0, .slice none 0 0, .slice none 0 0] 73)).alloc (.cells #[.int .i64 0, .slice none 0 0, .slice none 0 0] 73)) w.heap.size 0 (.slice none 0 0) (.slice none 0 0) := alloc_on (alloc_at rfl)
  have k1 : OutAt ((w.alloc (.cells #[.int .i64 0, .slice none 0 0, .slice none 0 0] 73)).alloc (.cells #[.int .i64 0, .slice none 0 0, .slice none 0 0] 73)) (w.heap.size + 1) 0 (.slice none 0 0) (.slice none 0 0) := alloc_at (alloc_sz _ _)
  have hsz : ((w.alloc (.cells #[.int .i64 0, .slice none 0 0, .slice none 0 0] 73)).alloc (.cells #[.int .i64 0, .slice none 0 0, .slice none 0 0] 73)).heap.size = w.heap.size + 2 := by rw [alloc_sz, alloc_sz]
  have HS := Lib.hid (hs.below hb2)
  have HG0 := Lib.hid (grown_below (r := some sb) hb2)
  have K0 := Lib.hid k0
  have K1 := Lib.hid k1
  clear hs hb2 k0 k1
  go_enter Tryz.func83, Tryz.ntmps83
  go_upto_region 2 with fail
  generalize ((w.alloc (.cells #[.int .i64 0, .slice none 0 0, .slice none 0 0] 73)).alloc (.cells #[.int .i64 0, .slice none 0 0, .slice none 0 0] 73)) = W0 at *
  generalize hg : w.heap.size = g at *
  have HG := Lib.hid hg
  clear hg
  go_wp2_with fail
  go_loopw [6] (fun t W => ∃ (k : Nat) (v : Value) (ns : List Int), k ≤ m ∧ t = .int .i64 k ∧ W.ownsRow W0.heap.size 3 1 v ns.length (ns.map (Value.int .i64)) ∧ ns.length ≤ k ∧ Hid (ns.Nodup ∧ ∀ x ∈ ns, 0 ≤ x ∧ x < (k : Int)) ∧ Hid (OutAt W (g + 1) 0 v (.slice none 0 0)) ∧ Hid (OutAt W g 0 (.slice none 0 0) (.slice none 0 0)) ∧ Hid (TapeOk W sb) ∧ Hid (w.grownBy W (some sb)) ∧ W0.heap.size ≤ W.heap.size) (fun t _ => m - (intOf t).toNat)
  case atStart => exact ⟨0, .slice none 0 0, [], by omega, rfl, World.ownsRow_nil _ _ _ _, by simp, Lib.hid ⟨List.nodup_nil, fun x hx => by simp at hx⟩, K1, K0, HS, HG0, Nat.le_refl _⟩
  case round =>
    obtain ⟨k, v, ns, hk, rfl, hown, hnl, hns, hO, hR, hT, hGr, hszr⟩ := hrel
    by_cases hlt : k < m
    · have HOWN := Lib.hid hown
      go_wp2_with fail
      refine (TN_run _ sb _ (by omega) (by omega) hT.out).mono ?_
      rintro e W2 ⟨r, hr0, hr1, rfl, hs2, hg2⟩
      have HO2 := Lib.hid (hO.out.keep (hg2.block _ hO.out.lt (by simp; omega)))
      have HR2 := Lib.hid (hR.out.keep (hg2.block _ hR.out.lt (by simp; omega)))
      have HT2 := Lib.hid hs2
      have HG2 := Lib.hid (grown_trans hGr.out hg2)
      have hown2 := HOWN.out.kept hg2 (own_below HOWN.out (by omega))
      have hsz2 : W0.heap.size ≤ W2.heap.size := Nat.le_trans hszr hg2.size
      clear hs2 hg2 hO hR hT hGr hown HOWN hszr
      have hns2 := asc_snoc hns.out.1 hns.out.2
      have HNS2 := Lib.hid hns2
      have hns1 := Lib.hid (show ns.Nodup ∧ ∀ x ∈ ns, 0 ≤ x ∧ x < ((k + 1 : Nat) : Int) from ⟨hns.out.1, fun x hx => by have := hns.out.2 x hx; omega⟩)
      clear hns2 hns
      by_cases h9 : r < 9
      · obtain ⟨o0, o1, o2⟩ := HO2.out.cs
        have of1 := HO2.out.fr 1
        have hol := HO2.out.lt
        have HOW := Lib.hid (fun (j : Nat) (hj : v.ownBlock = some j) => hown2.lt j hj)
        go_wp2_with (at_builtin; refine wpList_append_own _ rfl _ _ 22 rfl W0.heap.size 3 i0 (.int .i64 0) 1 8 Tryz.underlying22 hin hz0 hz1 hz2 rfl (by decide) _ _ _ rfl (hown2.alloc _) ⟨W2.heap.size, 0, none⟩ 1 1 [.int .i64 (k : Int)] rfl rfl (cell_one_new _ _ _) (fun u hu => by simp at hu; subst hu; rfl) (by unfold maxLen; omega) (by omega) (by simp; omega) ?_; intro v' W3 hown3 hgrow3 hnil; obtain ⟨gq, cq, rfl, hgq, hlq⟩ := hown3.form (by omega); have hO3 : OutAt W3 (g + 1) 0 v (.slice none 0 0) := HO2.out.keep ((hgrow3.block _ (by simp; omega) (fun e => by have := (HOW.out _ e.symm).1; omega)).trans (Below.heap_alloc _ _ _ hol)); obtain ⟨r0, r1, r2⟩ := hO3.cs; have rf1 := hO3.fr 1)
        have hgB : (W2.alloc (.cells #[.int .i64 (k : Int)] 3)).grownBy W3 v.ownBlock := ⟨hgrow3.os, hgrow3.tape, hgrow3.output, hgrow3.size, hgrow3.block⟩
        have hzB := hgB.size
        rw [alloc_sz] at hzB
        have low3 : ∀ q, q < W0.heap.size → W3.heap[q]? = W2.heap[q]? := fun q hq => (hgB.block q (by rw [alloc_sz]; omega) (fun e => by have := (HOW.out _ e.symm).1; omega)).trans (Below.heap_alloc _ _ _ (by omega))
        have HR4 := Lib.hid (HR2.out.keep ((Below.heap_setCell W3 ⟨g + 1, 1, none⟩ (.slice (some ⟨gq, 0, none⟩) (ns.length + 1) cq) g (by simp)).trans (low3 g (by omega))))
        have HT4 := Lib.hid ((HT2.out.keepLow (fun q hq => low3 q (by omega))).setCell (p := ⟨g + 1, 1, none⟩) (by show sb < g + 1; omega) (.slice (some ⟨gq, 0, none⟩) (ns.length + 1) cq))
        have HG4 := Lib.hid (gset (gown (grown_trans HG2.out (grown_below (balloc (bref W2) (.cells #[.int .i64 (k : Int)] 3)))) hgB (fun j hj => by have := (HOW.out j hj).1; have := HG.out; omega)) (p := ⟨g + 1, 1, none⟩) (by rw [HG.out]; simp) (.slice (some ⟨gq, 0, none⟩) (ns.length + 1) cq))
        have HO4 := Lib.hid (hO3.set1 (.slice (some ⟨gq, 0, none⟩) (ns.length + 1) cq))
        have hown4 := Lib.hid ((list_snoc hown3).kept (gset1 W3 ⟨g + 1, 1, none⟩ (.slice (some ⟨gq, 0, none⟩) (ns.length + 1) cq)) (own_below (list_snoc hown3) (by simp; omega)))
        have hsz4 : W0.heap.size ≤ (W3.setCell ⟨g + 1, 1, none⟩ (.slice (some ⟨gq, 0, none⟩) (ns.length + 1) cq)).heap.size := by simp only [World.setCell, Array.size_modify]; omega
        clear hgB low3 hown3 hgrow3 hnil hgq hlq hO3 r0 r1 r2 rf1
        go_wp2_with fail
        go_roundw
        case rel => exact ⟨k + 1, _, ns ++ [(k : Int)], by omega, by go_num, by simpa using hown4.out, by simp; omega, HNS2, HO4, HR4, HT4, HG4, hsz4⟩
        case measure => simp [intOf]; omega
      · clear HNS2
        go_wp2_with fail
        go_roundw
        case rel => exact ⟨k + 1, _, ns, by omega, by go_num, hown2, by omega, hns1, HO2, HR2, HT2, HG2, hsz2⟩
        case measure => simp [intOf]; omega
    · obtain rfl : k = m := by omega
      obtain ⟨Av, cv, rfl⟩ := own_slice hown
      obtain ⟨o0, o1, o2⟩ := hO.out.cs
      have of1 := hO.out.fr 1
      have hol := hO.out.lt
      have hN := NodesAt.of_own hown
      have HN := Lib.hid hN
      have hsz0 : g + 2 ≤ wr.heap.size := by omega
      have HNS := hns
      clear hN hown hns
      rcases Nat.eq_zero_or_pos ns.length with h0 | h0
      · obtain rfl : ns = [] := List.length_eq_zero_iff.1 h0
        clear h0 hnl HN
        go_upto_region 9 with fail
        have hzs : (wr.setCell ⟨g + 1, 1, none⟩ (.slice (some ⟨wr.heap.size, 0, none⟩) 1 1)).heap.size = wr.heap.size := by simp only [World.setCell, Array.size_modify]
        have hba := balloc (bref (wr.setCell ⟨g + 1, 1, none⟩ (.slice (some ⟨wr.heap.size, 0, none⟩) 1 1))) (.cells #[.int .i64 0] 3)
        have hO8 := (hO.out.set1 (.slice (some ⟨wr.heap.size, 0, none⟩) 1 1)).keep (hba.block _ (by rw [hzs]; exact hol))
        have hN8 : NodesAt (fun b => W0.heap.size ≤ b) ((wr.setCell ⟨g + 1, 1, none⟩ (.slice (some ⟨wr.heap.size, 0, none⟩) 1 1)).alloc (.cells #[.int .i64 0] 3)) (.slice (some ⟨wr.heap.size, 0, none⟩) 1 1) [0] := by
          refine ⟨some ⟨wr.heap.size, 0, none⟩, 1, rfl, fun k hk => ⟨wr.heap.size, 0, rfl, hszr, ?_⟩⟩
          obtain rfl : k = 0 := by simpa using hk
          exact (cell_of_row _ _ 0 #[.int .i64 0] 3 (0, 0) (alloc_at hzs)).trans rfl
        have hR8 := (hR.out.keep (Below.heap_setCell wr ⟨g + 1, 1, none⟩ (.slice (some ⟨wr.heap.size, 0, none⟩) 1 1) g (by simp))).keep (hba.block g (by rw [hzs]; omega))
        have hT8 := (hT.out.setCell (p := ⟨g + 1, 1, none⟩) (by show sb < g + 1; omega) (.slice (some ⟨wr.heap.size, 0, none⟩) 1 1)).below hba
        have hG8 := grown_trans (gset hGr.out (p := ⟨g + 1, 1, none⟩) (by rw [HG.out]; simp) (.slice (some ⟨wr.heap.size, 0, none⟩) 1 1)) (grown_below hba)
        have hsz8 : W0.heap.size ≤ ((wr.setCell ⟨g + 1, 1, none⟩ (.slice (some ⟨wr.heap.size, 0, none⟩) 1 1)).alloc (.cells #[.int .i64 0] 3)).heap.size := by rw [alloc_sz, hzs]; omega
        have hM : ∃ A n c ns, (Value.slice (some ⟨wr.heap.size, 0, none⟩) 1 1) = .slice A n c ∧ MostAt w ((wr.setCell ⟨g + 1, 1, none⟩ (.slice (some ⟨wr.heap.size, 0, none⟩) 1 1)).alloc (.cells #[.int .i64 0] 3)) g sb W0.heap.size k A n c ns :=
          ⟨_, 1, 1, [0], rfl, rfl, by omega, by omega, hN8, ⟨by simp, fun x hx => by rw [List.mem_singleton] at hx; omega⟩, hO8, hR8, hT8, hG8, hsz8⟩
        have HM := Lib.hid hM
        clear hba hO8 hN8 hR8 hT8 hG8 hsz8 hM hO hR hT hGr HNS o0 o1 o2 of1 hzs
        generalize ((wr.setCell ⟨g + 1, 1, none⟩ (.slice (some ⟨wr.heap.size, 0, none⟩) 1 1)).alloc (.cells #[.int .i64 0] 3)) = W8 at *
        obtain ⟨A8, n8, c8, ns8, he8, hMA⟩ := HM.out
        clear he8
        have HMA := Lib.hid hMA
        clear HM hMA
        have hn1 := HMA.out.pos
        have hn2 := HMA.out.ten
        have hWl := HMA.out.size
        obtain ⟨p0, p1, p2⟩ := HMA.out.out.cs
        have hol9 := HMA.out.out.lt
        have hcells : ∀ j, j < 5 → ((W8).alloc (.cells #[.int .i64 0, .int .i64 0, .int .i64 0, .int .i64 1, .int .i64 (-1)] 3)).drew.cell? ⟨(W8).heap.size, j, none⟩ = some (.int .i64 (([0, 0, 0, 1, -1] : List Int).getD j 0)) := by
          intro j hj
          refine (cell_of_row ((W8).alloc (.cells #[.int .i64 0, .int .i64 0, .int .i64 0, .int .i64 1, .int .i64 (-1)] 3)).drew _ j _ _ (0, 0) (heap_alloc_new (W8) _)).trans ?_
          match j, hj with
          | 0, _ | 1, _ | 2, _ | 3, _ | 4, _ => rfl
        have HCE := Lib.hid hcells
        have hne9 : (W8).heap.size ≠ sb := by have := HMA.out.tape.lt; omega
        have HT9 := Lib.hid (HMA.out.tape.alloc (.cells #[.int .i64 0, .int .i64 0, .int .i64 0, .int .i64 1, .int .i64 (-1)] 3))
        have hba9 := balloc (bref (W8)) (.cells #[.int .i64 0, .int .i64 0, .int .i64 0, .int .i64 1, .int .i64 (-1)] 3)
        have HB9 := Lib.hid hba9
        have w1 : IntKind.i64.wrap (2 * (n8 : Int)) = 2 * (n8 : Int) := IntWalk.i64_in _ (by omega)
        have w2 : IntKind.i64.wrap (2 * (n8 : Int) + 2) = 2 * (n8 : Int) + 2 := IntWalk.i64_in _ (by omega)
        obtain ⟨Q, hQ⟩ : ∃ Q : Nat, Q = (2 * n8 + 2) / 3 := ⟨_, rfl⟩
        have w3 : IntKind.i64.wrap ((2 * (n8 : Int) + 2).tdiv 3) = (Q : Int) := by
          rw [Int.tdiv_eq_ediv_of_nonneg (by omega), IntWalk.i64_in _ (by omega)]
          omega
        have hQ1 : 1 ≤ Q ∧ Q ≤ 7 := by omega
        clear hcells hba9 hQ
        have hS6 := Lib.hid (show (W8).drew.cell? ⟨g + 1, 1, none⟩ = some (.slice A8 n8 c8) ∧ MX w g sb W0.heap.size A8 n8 c8 ns8 (W8).drew from
          ⟨p1, (show MX w g sb W0.heap.size A8 n8 c8 ns8 (W8) from ⟨⟨0, HMA.out.out⟩, HMA.out.res, HMA.out.tape, HMA.out.grown, by have h1 := HMA.out.nodes; rw [HMA.out.len] at h1; exact h1, HMA.out.size⟩).below ⟨rfl, rfl, rfl, Nat.le_refl _, fun _ _ => rfl⟩⟩)
        go_region_held3 (fun W => W.cell? ⟨g + 1, 1, none⟩ = some (.slice A8 n8 c8) ∧ MX w g sb W0.heap.size A8 n8 c8 ns8 W) (first | exact hS6.out | exact hSK | exact growMX (by assumption) hs2 hg2 hsl (by omega) | exact setMX (by assumption) HG.out hsl (by omega) _ | exact keepMX (by assumption) (balloc (bref _) _) | go_keep)
          (first
            | (go_at_call 46; refine (TPick_run _ sb (W8).heap.size [0, 0, 0, 1, -1] 5 rfl (by omega) (by omega) (by exact HCE.out) (by exact hne9) (by exact HT9.out)).mono ?_; rintro e W2 ⟨j, hj, rfl, hs2, hg2⟩; obtain ⟨q, hq, hq0, hq1⟩ : ∃ q : Int, ([0, 0, 0, 1, -1] : List Int).getD j 0 = q ∧ -1 ≤ q ∧ q ≤ 1 := most_pick j hj; rw [hq]; have hSK := growMX (by assumption) hs2 hg2 hsl (by omega); obtain ⟨⟨y', hOK⟩, _⟩ := id hSK.2; have x0 := hOK.cs.1; have xf0 := hOK.fr 0; have w4 : IntKind.i64.wrap ((Q : Int) + q) = (Q : Int) + q := IntWalk.i64_in _ (by omega)))
        all_goals
          have hF : (W2.setCell ⟨g + 1, 0, none⟩ (.int .i64 (if (if 1 < (Q : Int) + q then (Q : Int) + q else 1) < (n8 : Int) then if 1 < (Q : Int) + q then (Q : Int) + q else 1 else (n8 : Int)))).cell? ⟨g + 1, 1, none⟩ = some (.slice A8 n8 c8) ∧ MX w g sb W0.heap.size A8 n8 c8 ns8 (W2.setCell ⟨g + 1, 0, none⟩ (.int .i64 (if (if 1 < (Q : Int) + q then (Q : Int) + q else 1) < (n8 : Int) then if 1 < (Q : Int) + q then (Q : Int) + q else 1 else (n8 : Int)))) := by assumption
          obtain ⟨ht1, ht2⟩ := most_thr Q q n8 hQ1 hq0 hn1
          have hO9 := hOK.set0 (if (if 1 < (Q : Int) + q then (Q : Int) + q else 1) < (n8 : Int) then if 1 < (Q : Int) + q then (Q : Int) + q else 1 else (n8 : Int))
          have hF2 := hF.2
          have HMX := Lib.hid hF2
          have HO9 := Lib.hid hO9
          clear hF hF2 hO9 hSK hOK x0 xf0
          generalize (if (if 1 < (Q : Int) + q then (Q : Int) + q else 1) < (n8 : Int) then if 1 < (Q : Int) + q then (Q : Int) + q else 1 else (n8 : Int)) = t at *
          generalize W2.setCell ⟨g + 1, 0, none⟩ (.int .i64 t) = W9 at *
          obtain ⟨o0, o1, o2⟩ := HO9.out.cs
          have hR9 := HMX.out.2.1
          have rf0 := hR9.fr 0
          have rf1 := hR9.fr 1
          have rf2 := hR9.fr 2
          obtain ⟨z0, z1, z2⟩ := hR9.cs
          obtain ⟨q0, q1, q2⟩ := (((hR9.set0 t).set1 (.slice A8 n8 c8)).set2 (.slice none 0 0)).cs
          have hE := most_end HMX.out HG.out hsl (by omega) HMA.out.len hn2 ht1 ht2 HMA.out.asc
          have HE := Lib.hid hE
          have Q0 := Lib.hid q0
          have Q1 := Lib.hid q1
          have Q2 := Lib.hid q2
          clear hE hR9 q0 q1 q2
          go_wp2_with fail
          all_goals
            have q0 := Q0.out
            have q1 := Q1.out
            have q2 := Q2.out
            refine bodyPost_ret (v := .agg #[.int .i64 t, .slice A8 n8 c8, .slice none 0 0]) ?_ rfl (by first | exact ⟨_, _, _, .mk t ns8 [], rfl, HE.out⟩ | exact ⟨_, _, _, rfl, .mk t ns8 [], HE.out⟩)
            simp [results, Tryz.results83, go_sem, q0, q1, q2]
      · have hb0 : ((ns.length : Int) == 0) = false := by rw [beq_eq_false_iff_ne]; omega
        have hM : MostAt w wr g sb W0.heap.size k Av ns.length cv ns := ⟨rfl, h0, by omega, HN.out, HNS.out, hO.out, hR.out, hT.out, hGr.out, hszr⟩
        have HMA := Lib.hid hM
        clear hM h0 HN
        go_upto_region 9 with fail
        clear hO hR hT hGr HNS o0 o1 o2 of1 hol
        have hn1 := HMA.out.pos
        have hn2 := HMA.out.ten
        have hWl := HMA.out.size
        obtain ⟨p0, p1, p2⟩ := HMA.out.out.cs
        have hol9 := HMA.out.out.lt
        have hcells : ∀ j, j < 5 → ((wr).alloc (.cells #[.int .i64 0, .int .i64 0, .int .i64 0, .int .i64 1, .int .i64 (-1)] 3)).drew.cell? ⟨(wr).heap.size, j, none⟩ = some (.int .i64 (([0, 0, 0, 1, -1] : List Int).getD j 0)) := by
          intro j hj
          refine (cell_of_row ((wr).alloc (.cells #[.int .i64 0, .int .i64 0, .int .i64 0, .int .i64 1, .int .i64 (-1)] 3)).drew _ j _ _ (0, 0) (heap_alloc_new (wr) _)).trans ?_
          match j, hj with
          | 0, _ | 1, _ | 2, _ | 3, _ | 4, _ => rfl
        have HCE := Lib.hid hcells
        have hne9 : (wr).heap.size ≠ sb := by have := HMA.out.tape.lt; omega
        have HT9 := Lib.hid (HMA.out.tape.alloc (.cells #[.int .i64 0, .int .i64 0, .int .i64 0, .int .i64 1, .int .i64 (-1)] 3))
        have hba9 := balloc (bref (wr)) (.cells #[.int .i64 0, .int .i64 0, .int .i64 0, .int .i64 1, .int .i64 (-1)] 3)
        have HB9 := Lib.hid hba9
        have w1 : IntKind.i64.wrap (2 * (ns.length : Int)) = 2 * (ns.length : Int) := IntWalk.i64_in _ (by omega)
        have w2 : IntKind.i64.wrap (2 * (ns.length : Int) + 2) = 2 * (ns.length : Int) + 2 := IntWalk.i64_in _ (by omega)
        obtain ⟨Q, hQ⟩ : ∃ Q : Nat, Q = (2 * ns.length + 2) / 3 := ⟨_, rfl⟩
        have w3 : IntKind.i64.wrap ((2 * (ns.length : Int) + 2).tdiv 3) = (Q : Int) := by
          rw [Int.tdiv_eq_ediv_of_nonneg (by omega), IntWalk.i64_in _ (by omega)]
          omega
        have hQ1 : 1 ≤ Q ∧ Q ≤ 7 := by omega
        clear hcells hba9 hQ
        have hS6 := Lib.hid (show (wr).drew.cell? ⟨g + 1, 1, none⟩ = some (.slice Av ns.length cv) ∧ MX w g sb W0.heap.size Av ns.length cv ns (wr).drew from
          ⟨p1, (show MX w g sb W0.heap.size Av ns.length cv ns (wr) from ⟨⟨0, HMA.out.out⟩, HMA.out.res, HMA.out.tape, HMA.out.grown, by have h1 := HMA.out.nodes; rw [HMA.out.len] at h1; exact h1, HMA.out.size⟩).below ⟨rfl, rfl, rfl, Nat.le_refl _, fun _ _ => rfl⟩⟩)
        go_region_held3 (fun W => W.cell? ⟨g + 1, 1, none⟩ = some (.slice Av ns.length cv) ∧ MX w g sb W0.heap.size Av ns.length cv ns W) (first | exact hS6.out | exact hSK | exact growMX (by assumption) hs2 hg2 hsl (by omega) | exact setMX (by assumption) HG.out hsl (by omega) _ | exact keepMX (by assumption) (balloc (bref _) _) | go_keep)
          (first
            | (go_at_call 46; refine (TPick_run _ sb (wr).heap.size [0, 0, 0, 1, -1] 5 rfl (by omega) (by omega) (by exact HCE.out) (by exact hne9) (by exact HT9.out)).mono ?_; rintro e W2 ⟨j, hj, rfl, hs2, hg2⟩; obtain ⟨q, hq, hq0, hq1⟩ : ∃ q : Int, ([0, 0, 0, 1, -1] : List Int).getD j 0 = q ∧ -1 ≤ q ∧ q ≤ 1 := most_pick j hj; rw [hq]; have hSK := growMX (by assumption) hs2 hg2 hsl (by omega); obtain ⟨⟨y', hOK⟩, _⟩ := id hSK.2; have x0 := hOK.cs.1; have xf0 := hOK.fr 0; have w4 : IntKind.i64.wrap ((Q : Int) + q) = (Q : Int) + q := IntWalk.i64_in _ (by omega)))
        all_goals
          have hF : (W2.setCell ⟨g + 1, 0, none⟩ (.int .i64 (if (if 1 < (Q : Int) + q then (Q : Int) + q else 1) < (ns.length : Int) then if 1 < (Q : Int) + q then (Q : Int) + q else 1 else (ns.length : Int)))).cell? ⟨g + 1, 1, none⟩ = some (.slice Av ns.length cv) ∧ MX w g sb W0.heap.size Av ns.length cv ns (W2.setCell ⟨g + 1, 0, none⟩ (.int .i64 (if (if 1 < (Q : Int) + q then (Q : Int) + q else 1) < (ns.length : Int) then if 1 < (Q : Int) + q then (Q : Int) + q else 1 else (ns.length : Int)))) := by assumption
          obtain ⟨ht1, ht2⟩ := most_thr Q q ns.length hQ1 hq0 hn1
          have hO9 := hOK.set0 (if (if 1 < (Q : Int) + q then (Q : Int) + q else 1) < (ns.length : Int) then if 1 < (Q : Int) + q then (Q : Int) + q else 1 else (ns.length : Int))
          have hF2 := hF.2
          have HMX := Lib.hid hF2
          have HO9 := Lib.hid hO9
          clear hF hF2 hO9 hSK hOK x0 xf0
          generalize (if (if 1 < (Q : Int) + q then (Q : Int) + q else 1) < (ns.length : Int) then if 1 < (Q : Int) + q then (Q : Int) + q else 1 else (ns.length : Int)) = t at *
          generalize W2.setCell ⟨g + 1, 0, none⟩ (.int .i64 t) = W9 at *
          obtain ⟨o0, o1, o2⟩ := HO9.out.cs
          have hR9 := HMX.out.2.1
          have rf0 := hR9.fr 0
          have rf1 := hR9.fr 1
          have rf2 := hR9.fr 2
          obtain ⟨z0, z1, z2⟩ := hR9.cs
          obtain ⟨q0, q1, q2⟩ := (((hR9.set0 t).set1 (.slice Av ns.length cv)).set2 (.slice none 0 0)).cs
          have hE := most_end HMX.out HG.out hsl (by omega) HMA.out.len hn2 ht1 ht2 HMA.out.asc
          have HE := Lib.hid hE
          have Q0 := Lib.hid q0
          have Q1 := Lib.hid q1
          have Q2 := Lib.hid q2
          clear hE hR9 q0 q1 q2
          go_wp2_with fail
          all_goals
            have q0 := Q0.out
            have q1 := Q1.out
            have q2 := Q2.out
            refine bodyPost_ret (v := .agg #[.int .i64 t, .slice Av ns.length cv, .slice none 0 0]) ?_ rfl (by first | exact ⟨_, _, _, .mk t ns [], rfl, HE.out⟩ | exact ⟨_, _, _, rfl, .mk t ns [], HE.out⟩)
            simp [results, Tryz.results83, go_sem, q0, q1, q2]

end Go.Proofs.YtacpfcckilnbfaaGreat

namespace Go.Proofs.YtacpfcckilnbfaaGreat
set_option linter.unusedVariables false
set_option linter.unusedSimpArgs false
open Go.RowKit

theorem WF.up {n : Int} : ∀ {d : Nat} {T : Tree}, WF n d T → WF n (d + 1) T
  | 0, _, h => h.elim
  | d + 1, .mk thr ns is, ⟨h1, h2, h3, h4, h5, h6, h7⟩ => ⟨h1, h2, h3, h4, h5, h6, fun T hT => (h7 T hT).up⟩

/-- The world of group. -/
structure GroupAt (w W : World) (g sb B m : Nat) (lv : Value) (ls : List Tree) : Prop where
  res : OutAt W g 0 (.slice none 0 0) (.slice none 0 0)
  tape : TapeOk W sb
  grown : w.grownBy W (some sb)
  inner : Inner B 1 W lv ls
  wf : ∀ T ∈ ls, WF m 1 T
  size : B ≤ W.heap.size

theorem GroupAt.below {w W W' : World} {g sb B m : Nat} {lv : Value} {ls : List Tree} (h : GroupAt w W g sb B m lv ls) (hb : Below W.heap.size W W') : GroupAt w W' g sb B m lv ls :=
  ⟨h.res.keep (hb.block _ h.res.lt), h.tape.below hb, grown_trans h.grown (grown_below hb), h.inner.below hb, h.wf, Nat.le_trans h.size hb.size⟩

/-- A variable of its own and rows behind it may change. -/
theorem GroupAt.own {w W W' : World} {g sb B m xb : Nat} {lv : Value} {ls : List Tree} (h : GroupAt w W g sb B m lv ls) (hg : W.grownBy W' (some xb)) (h0 : sb < g) (h1 : g < xb) (hw : w.heap.size ≤ xb) (hx : B ≤ xb) (hlv : ∀ j, lv.ownBlock = some j → j < xb) (hlow : ∀ q, q ≠ xb → B ≤ q → q < W.heap.size → W'.heap[q]? = W.heap[q]?) (hin : Inner B 1 W' lv ls) : GroupAt w W' g sb B m lv ls :=
  ⟨h.res.keep (hg.block _ h.res.lt (by simp; omega)), h.tape.keepLow (fun q hq => hg.block q (by have := h.tape.lt; omega) (by simp; omega)), gown h.grown hg (fun j hj => by obtain rfl := Option.some.inj hj; exact hw), hin, h.wf, Nat.le_trans h.size hg.size⟩

theorem GroupAt.tapeStep {w W W' : World} {g sb B m : Nat} {lv : Value} {ls : List Tree} (h : GroupAt w W g sb B m lv ls) (hs : TapeOk W' sb) (hg : W.grownBy W' (some sb)) (h0 : sb < g) (h1 : sb < B) : GroupAt w W' g sb B m lv ls :=
  ⟨h.res.keep (hg.block _ h.res.lt (by simp; omega)), hs, grown_trans h.grown hg, h.inner.keep hg (fun j hj => by obtain rfl := Option.some.inj hj; exact h1), h.wf, Nat.le_trans h.size hg.size⟩

theorem nodes_imp' {P Q : Nat → Prop} {w : World} {v : Value} {ns : List Int} (h : NodesAt P w v ns) (hq : ∀ k, P k → Q k) : NodesAt Q w v ns := by
  obtain ⟨A, c, h1, h2⟩ := h
  refine ⟨A, c, h1, fun k hk' => ?_⟩
  obtain ⟨b, off, e1, e2, e3⟩ := h2 k hk'
  exact ⟨b, off, e1, hq _ e2, e3⟩

theorem own_keepG {W W' : World} {B n e size : Nat} {v : Value} {xs : List Value} (h : W.ownsRow B e size v n xs) (hk : ∀ j, v.ownBlock = some j → B ≤ j → j < W.heap.size → W'.heap[j]? = W.heap[j]?) : W'.ownsRow B e size v n xs := by
  refine ⟨h.1, ?_⟩
  rcases h.2 with hn | ⟨g, cap, cur, rfl, hb, hgg, rest⟩
  · exact .inl hn
  · refine .inr ⟨g, cap, cur, rfl, hb, (hk g rfl hb ?_).trans hgg, rest⟩
    rcases Nat.lt_or_ge g W.heap.size with h1 | h1
    · exact h1
    · rw [Array.getElem?_eq_none h1] at hgg; cases hgg

/-- One more trust in the list. -/
theorem group_app {w wo WA W4 : World} {g sb m g4 cap4 : Nat} {lv x1 x2 : Value} {ls : List Tree} {T : Tree} {t : Int} {cs : List Value} (h : GroupAt w wo g sb (g + 1) m lv ls) (hg : w.heap.size = g) (hsl : sb < g) (low : ∀ q, q < wo.heap.size → q ≠ sb → WA.heap[q]? = wo.heap[q]?) (hs : TapeOk WA sb) (hgr : w.grownBy WA (some sb)) (hsz : wo.heap.size ≤ WA.heap.size)
    (hcl : ∀ k T, ls[k]? = some T → ∃ x0 x1 x2, cs[k * 3]? = some x0 ∧ cs[k * 3 + 1]? = some x1 ∧ cs[k * 3 + 2]? = some x2 ∧ TAt (fun b => g + 1 ≤ b ∧ lv.ownBlock ≠ some b) 1 wo x0 x1 x2 T) (hcn : cs.length = ls.length * 3)
    (hT : TAt (fun b => wo.heap.size ≤ b) 1 WA (.int .i64 t) x1 x2 T) (hWF : WF m 1 T)
    (hown4 : W4.ownsRow (g + 1) 73 3 (.slice (some ⟨g4, 0, none⟩) (ls.length + 1) cap4) (ls.length + 1) (cs ++ [.int .i64 t, x1, x2])) (hg4 : WA.grownBy W4 lv.ownBlock) (hat4 : lv.ownBlock = some g4 ∨ g4 = WA.heap.size) :
    GroupAt w W4 g sb (g + 1) m (.slice (some ⟨g4, 0, none⟩) (ls.length + 1) cap4) (ls ++ [T]) := by
  have HOW := h.inner.own
  have hrl := h.res.lt
  have hz4 := hg4.size
  refine ⟨?_, ?_, ?_, ?_, ?_, ?_⟩
  · exact h.res.keep ((hg4.block g (by omega) (fun e => by have := (HOW _ e.symm).1; omega)).trans (low g hrl (by omega)))
  · exact hs.keepLow (fun q hq => hg4.block q (by omega) (fun e => by have := (HOW _ e.symm).1; omega))
  · exact gown hgr hg4 (fun j hj => by have := (HOW j hj).1; omega)
  · refine Inner.append (fun k T hT => ?_) hcn (hT.imp (fun q _ hq => ⟨by have := h.size; omega, fun e => by have := (HOW q e).2; omega⟩)) hown4 hg4 hat4
    obtain ⟨y0, y1, y2, e0, e1, e2, e3⟩ := hcl k T hT
    exact ⟨y0, y1, y2, e0, e1, e2, e3.keep (fun q hq hP => low q hq (by omega))⟩
  · intro S hS
    rcases List.mem_append.1 hS with h1 | h1
    · exact h.wf S h1
    · rw [List.mem_singleton] at h1; rw [h1]; exact hWF
  · have := h.size; omega

set_option maxRecDepth 100000 in
set_option maxHeartbeats 4000000 in
theorem group_run (sb m k : Nat) (hm : 1 ≤ m) (hm1 : m ≤ 10) (hk : k ≤ 10) (w : World) (hs : TapeOk w sb) :
    Calls Tryz.prog 84 #[.pointer (some ⟨sb, 0, none⟩), .int .i64 m, .int .i64 k] w fun e w' => ∃ (v0 v1 v2 : Value) (T : Tree), e = .returned (.agg #[v0, v1, v2]) ∧ TAt (fun b => w.heap.size ≤ b) 2 w' v0 v1 v2 T ∧ WF m 2 T ∧ TapeOk w' sb ∧ w.grownBy w' (some sb) := by
  obtain ⟨i0, hin, hz0, hz1, hz2⟩ := info_parts infoInt
  obtain ⟨i3, hi3, hy0, hy1, hy2⟩ := info_parts infoTrust
  have hsl := hs.lt
  have hb1 : Below w.heap.size w (w.alloc (.cells #[.int .i64 0, .slice none 0 0, .slice none 0 0] 73)) := balloc (bref w) _
  have k0 : OutAt (w.alloc (.cells #[.int .i64 0, .slice none 0 0, .slice none 0 0] 73)) w.heap.size 0 (.slice none 0 0) (.slice none 0 0) := alloc_at rfl
  have hsz := alloc_sz w (.cells #[.int .i64 0, .slice none 0 0, .slice none 0 0] 73)
  have hGA : GroupAt w (w.alloc (.cells #[.int .i64 0, .slice none 0 0, .slice none 0 0] 73)) w.heap.size sb (w.heap.size + 1) m (.slice none 0 0) [] := ⟨k0, hs.below hb1, grown_below hb1, Inner.nil _ _ _, fun T hT => by simp at hT, by omega⟩
  have HGA := Lib.hid hGA
  clear hs hb1 k0 hGA
  go_enter Tryz.func84, Tryz.ntmps84
  go_upto_region 1 with fail
  generalize (w.alloc (.cells #[.int .i64 0, .slice none 0 0, .slice none 0 0] 73)) = W0 at *
  generalize hg : w.heap.size = g at *
  have HG := Lib.hid hg
  clear hg
  go_wp2_with fail
  go_loopw [7, 8] (fun lv t W => ∃ (i : Nat) (ls : List Tree), i ≤ 3 ∧ t = .int .i64 i ∧ ls.length ≤ i ∧ (1 ≤ i → 1 ≤ ls.length) ∧ Hid (GroupAt w W g sb (g + 1) m lv ls)) (fun _ t _ => 3 - (intOf t).toNat)
  case atStart => exact ⟨0, [], by omega, rfl, by simp, fun h => by omega, HGA⟩
  case round =>
    obtain ⟨i, ls, hi, rfl, hl1, hl2, hGr⟩ := hrel
    by_cases hlt : i < 3
    · obtain ⟨wo, hwo⟩ : ∃ x, x = wr := ⟨_, rfl⟩
      subst hwo
      have hlt' : (i : Int) < 3 := by omega
      go_upto_region 6 with fail
      have hba := balloc (bref wo) (.cells #[.int .i64 1, .slice none 0 0, .slice none 0 0] 73)
      have HX1 := Lib.hid (show OutAt (wo.alloc (.cells #[.int .i64 1, .slice none 0 0, .slice none 0 0] 73)) wo.heap.size 1 (.slice none 0 0) (.slice none 0 0) from alloc_at rfl)
      have hsz1 := alloc_sz wo (.cells #[.int .i64 1, .slice none 0 0, .slice none 0 0] 73)
      have hxb : g + 1 ≤ wo.heap.size := hGr.out.size
      have HBA := Lib.hid hba
      clear hba
      generalize wo.alloc (.cells #[.int .i64 1, .slice none 0 0, .slice none 0 0] 73) = W1 at *
      generalize hxw : wo.heap.size = xb at *
      have HXW := Lib.hid hxw
      clear hxw
      go_wp2_with fail
      go_loopw [10] (fun t W => ∃ (j : Nat) (v : Value) (ns : List Int), t = .int .i64 j ∧ j ≤ 12 ∧ W.ownsRow W1.heap.size 3 1 v ns.length (ns.map (Value.int .i64)) ∧ 3 * ns.length ≤ j + 2 ∧ Hid (ns.Nodup ∧ ∀ x ∈ ns, 0 ≤ x ∧ x < (j : Int)) ∧ Hid (∀ x ∈ ns, x < (m : Int)) ∧ (i < j → 1 ≤ ns.length) ∧ (j = i ∨ i < j) ∧ Hid (OutAt W xb 1 v (.slice none 0 0)) ∧ Hid (W1.grownBy W (some xb))) (fun t _ => 13 - (intOf t).toNat)
      case atStart => exact ⟨i, .slice none 0 0, [], rfl, by omega, World.ownsRow_nil _ _ _ _, by simp, Lib.hid ⟨List.nodup_nil, fun x hx => by simp at hx⟩, Lib.hid (fun x hx => by simp at hx), fun h => by omega, .inl rfl, HX1, Lib.hid (World.grownBy.refl _ _)⟩
      case round =>
        obtain ⟨j, v, ns, rfl, hj, hown, hnl, hns, hnm, hij, hji, hO, hW⟩ := hrel
        have hwsz := hW.out.size
        by_cases hjm : j < m
        · obtain ⟨o0, o1, o2⟩ := hO.out.cs
          have of1 := hO.out.fr 1
          have hol := hO.out.lt
          have HOW := Lib.hid (fun (q : Nat) (hq : v.ownBlock = some q) => hown.lt q hq)
          have HNS := Lib.hid (asc_snoc hns.out.1 hns.out.2)
          have HNS2 := Lib.hid (show (ns ++ [(j : Int)]).Nodup ∧ ∀ x ∈ ns ++ [(j : Int)], 0 ≤ x ∧ x < ((j + 3 : Nat) : Int) from ⟨HNS.out.1, fun x hx => by have := HNS.out.2 x hx; omega⟩)
          have HNM2 := Lib.hid (show ∀ x ∈ ns ++ [(j : Int)], x < (m : Int) from fun x hx => by
            rcases List.mem_append.1 hx with h | h
            · exact hnm.out x h
            · rw [List.mem_singleton] at h; omega)
          clear HNS
          go_wp2_with (at_builtin; refine wpList_append_own _ rfl _ _ 22 rfl W1.heap.size 3 i0 (.int .i64 0) 1 8 Tryz.underlying22 hin hz0 hz1 hz2 rfl (by decide) _ _ _ rfl (hown.alloc _) ⟨_, 0, none⟩ 1 1 [.int .i64 (j : Int)] rfl rfl (cell_one_new _ _ _) (fun u hu => by simp at hu; subst hu; rfl) (by unfold maxLen; omega) (by omega) (by simp; omega) ?_; intro v' W3 hown3 hgrow3 hnil; obtain ⟨gq, cq, rfl, hgq, hlq⟩ := hown3.form (by omega); have hO3 : OutAt W3 xb 1 v (.slice none 0 0) := hO.out.keep ((hgrow3.block _ (by simp; omega) (fun e => by have := (HOW.out _ e.symm).1; omega)).trans (Below.heap_alloc _ _ _ hol)); obtain ⟨r0, r1, r2⟩ := hO3.cs; have rf1 := hO3.fr 1)
          have hgB : (wr.alloc (.cells #[.int .i64 (j : Int)] 3)).grownBy W3 v.ownBlock := ⟨hgrow3.os, hgrow3.tape, hgrow3.output, hgrow3.size, hgrow3.block⟩
          have HW4 := Lib.hid (grown_at (gown (grown_trans hW.out (grown_below (balloc (bref wr) (.cells #[.int .i64 (j : Int)] 3)))) hgB (fun q hq => (HOW.out q hq).1)) 1 (.slice (some ⟨gq, 0, none⟩) (ns.length + 1) cq))
          have HO4 := Lib.hid (hO3.set1 (.slice (some ⟨gq, 0, none⟩) (ns.length + 1) cq))
          have hown4 := Lib.hid ((list_snoc hown3).kept (gset1 W3 ⟨xb, 1, none⟩ (.slice (some ⟨gq, 0, none⟩) (ns.length + 1) cq)) (own_below (list_snoc hown3) (by simp; omega)))
          clear hgB hown3 hgrow3 hnil hgq hlq hO3 r0 r1 r2 rf1
          go_roundw
          case rel =>
            exact ⟨j + 3, _, ns ++ [(j : Int)], by go_num, by omega, by simpa using hown4.out, by simp; omega, HNS2, HNM2, fun _ => by simp, .inr (by omega), HO4, HW4⟩
          case measure => simp [intOf]; omega
        · have hBW : Below xb wo wr := by
            have h1 := HBA.out
            exact h1.grown hW.out (by omega) (fun q hq => by obtain rfl := Option.some.inj hq; omega)
          have HBW := Lib.hid hBW
          clear hBW
          obtain ⟨Av, cv, rfl⟩ := own_slice hown
          obtain ⟨o0, o1, o2⟩ := hO.out.cs
          have of0 := hO.out.fr 0
          have hol := hO.out.lt
          rcases Nat.eq_zero_or_pos ns.length with h0 | h0
          · have hz0' : ¬ (0 : Int) < (ns.length : Int) := by omega
            have HN := Lib.hid (hGr.out.below (by rw [HXW.out]; exact HBW.out))
            clear hown
            go_wp2_with fail
            go_roundw
            case rel => exact ⟨i + 1, ls, by omega, by go_num, by omega, fun _ => by omega, HN⟩
            case measure => simp [intOf]; omega
          · have hz0' : (0 : Int) < (ns.length : Int) := by omega
            have HN := Lib.hid (hGr.out.below (by rw [HXW.out]; exact HBW.out))
            have HOWN := Lib.hid hown
            clear hown
            go_wp2_with fail
            refine (TRange_run _ sb _ _ (by omega) (by omega) (by omega) HN.out.tape).mono ?_
            rintro e W2 ⟨t, ht0, ht1, rfl, hs2, hg2⟩
            have hO2 := hO.out.keep (hg2.block xb hol (by simp; omega))
            have hO3 := hO2.set0 t
            obtain ⟨p0, p1, p2⟩ := hO2.cs
            have pf0 := hO2.fr 0
            obtain ⟨r0, r1, r2⟩ := hO3.cs
            obtain ⟨cs, hcs, hcl⟩ := hGr.out.inner
            have hcn := hcs.1
            have hba := balloc (bref (W2.setCell ⟨xb, 0, none⟩ (.int .i64 t))) (.cells #[.int .i64 t, .slice Av ns.length cv, .slice none 0 0] 73)
            have hzs : (W2.setCell ⟨xb, 0, none⟩ (.int .i64 t)).heap.size = W2.heap.size := by simp only [World.setCell, Array.size_modify]
            have hz2 := hg2.size
            have hlow : ∀ q, q < wo.heap.size → q ≠ sb → ((W2.setCell ⟨xb, 0, none⟩ (.int .i64 t)).alloc (.cells #[.int .i64 t, .slice Av ns.length cv, .slice none 0 0] 73)).heap[q]? = wo.heap[q]? := fun q hq hs => by
              have h1 := HXW.out
              exact (hba.block q (by rw [hzs]; omega)).trans ((Below.heap_setCell _ _ _ _ (by simp; omega)).trans ((hg2.block q (by omega) (by simpa using hs)).trans (HBW.out.block q (by omega))))
            have HCSA := Lib.hid (own_keepG hcs (fun q hq hB hl => hlow q hl (by omega)))
            have own2 := HOWN.out.kept hg2 (own_below HOWN.out (by omega))
            have own3 := own2.kept (gset1 W2 ⟨xb, 0, none⟩ (.int .i64 t)) (own_below own2 (by simp; omega))
            have HNA := NodesAt.of_own (own3.alloc (.cells #[.int .i64 t, .slice Av ns.length cv, .slice none 0 0] 73))
            have hTT : TAt (fun b => wo.heap.size ≤ b) 1 ((W2.setCell ⟨xb, 0, none⟩ (.int .i64 t)).alloc (.cells #[.int .i64 t, .slice Av ns.length cv, .slice none 0 0] 73)) (.int .i64 t) (.slice Av ns.length cv) (.slice none 0 0) (.mk t ns []) := by
              have h1 := HXW.out
              exact ⟨rfl, by omega, by simp, nodes_imp' HNA (fun q hq => by omega), ⟨none, 0, rfl, fun k T hT => by simp at hT⟩⟩
            have hWT : WF m 1 (.mk t ns []) := ⟨ht0, by simp; omega, by omega, by simp, fun x hx => ⟨(hns.out.2 x hx).1, hnm.out x hx⟩, hns.out.1, fun T hT => by simp at hT⟩
            have hTA := (hs2.setCell (p := ⟨xb, 0, none⟩) (by show sb < xb; omega) (.int .i64 t)).below hba
            have hGA := grown_trans (gset (grown_trans HN.out.grown hg2) (p := ⟨xb, 0, none⟩) (by rw [HG.out]; show g ≤ xb; omega) (.int .i64 t)) (grown_below hba)
            have hnew := cell_three_new (W2.setCell ⟨xb, 0, none⟩ (.int .i64 t)) (.int .i64 t) (.slice Av ns.length cv) (.slice none 0 0) 73
            rw [hzs] at hnew
            have HNEW := Lib.hid hnew
            clear hnew
            have HLOW := Lib.hid hlow
            have HTT := Lib.hid hTT
            have HWT := Lib.hid hWT
            have HTA := Lib.hid hTA
            have HGA := Lib.hid hGA
            have hszA : wo.heap.size ≤ ((W2.setCell ⟨xb, 0, none⟩ (.int .i64 t)).alloc (.cells #[.int .i64 t, .slice Av ns.length cv, .slice none 0 0] 73)).heap.size := by rw [alloc_sz, hzs, HXW.out]; omega
            have HSZA := Lib.hid hszA
            have HCL := Lib.hid hcl
            clear hlow hTT hWT hTA hGA hszA hcl hcs own2 own3 HNA hba hO2 hO3 hs2 hg2
            go_wp2_with (at_builtin; refine wpList_append_lies _ rfl _ _ 71 rfl (g + 1) 73 i3 (.agg #[.int .i64 0, .slice none 0 0, .slice none 0 0]) 3 56 Tryz.underlying71 hi3 hy0 hy1 hy2 rfl (by decide) _ ls.length cs rfl (by exact HCSA.out) ⟨_, 0, none⟩ 1 1 [.int .i64 t, .slice Av ns.length cv, .slice none 0 0] rfl rfl (by exact HNEW.out) (by intro u hu; simp at hu; rcases hu with rfl | rfl | rfl <;> rfl) (by omega) (by unfold maxLen; omega) (by omega) (by have h1 := HSZA.out; rw [HXW.out] at h1; omega) _ rfl ?_; intro g4 cap4 W4 hown4 hgrow4 hat4 hlt4)
            have hpost := group_app hGr.out HG.out hsl HLOW.out HTA.out HGA.out HSZA.out HCL.out hcn HTT.out HWT.out hown4 hgrow4 hat4
            have HP := Lib.hid hpost
            clear hpost hown4 hgrow4 hat4 hlt4
            go_roundw
            case rel => exact ⟨i + 1, ls ++ [.mk t ns []], by omega, by go_num, by simp; omega, fun _ => by simp, HP⟩
            case measure => simp [intOf]; omega
    · obtain rfl : i = 3 := by omega
      have hl3 := hl2 (by omega)
      go_wp2_with fail
      refine (TN_run _ sb _ (by omega) (by omega) hGr.out.tape).mono ?_
      rintro e W2 ⟨r, hr0, hr1, rfl, hs2, hg2⟩
      have HG2 := Lib.hid (hGr.out.tapeStep hs2 hg2 hsl (by omega))
      clear hs2 hg2 hGr
      obtain ⟨cs, hcs, hcl⟩ := HG2.out.inner
      obtain ⟨gl, cl, rfl, hgl, hgl2⟩ := hcs.form (by omega)
      have hgs := HG2.out.size
      have hR := HG2.out.res
      obtain ⟨z0, z1, z2⟩ := hR.cs
      have zf0 := hR.fr 0
      have zf1 := hR.fr 1
      have zf2 := hR.fr 2
      by_cases hr : r = 0
      · subst hr
        obtain ⟨K, hKd⟩ : ∃ K, K = k % ls.length := ⟨_, rfl⟩
        have hK : K < ls.length := by rw [hKd]; exact Nat.mod_lt _ (by omega)
        have hmod : (k : Int).tmod (ls.length : Int) = (K : Int) := by
          rw [Int.tmod_eq_emod_of_nonneg (by omega), hKd]
          push_cast; rfl
        obtain ⟨T, hT⟩ : ∃ T, ls[K]? = some T := ⟨_, List.getElem?_eq_getElem hK⟩
        obtain ⟨x0, x1, x2, e0, e1, e2, e3⟩ := hcl K T hT
        obtain ⟨t', A', n', ca, B', m', cb, rfl, rfl, rfl⟩ := e3.form
        have cc : ∀ j u, cs[j]? = some u → W2.cell? ⟨gl, j, none⟩ = some u := fun j u hu => by
          have := hcs.cells (g := gl) rfl j u hu
          rwa [Addr.add_lit, Nat.zero_add] at this
        have c0 := cc _ _ e0
        have c1 := cc _ _ e1
        have c2 := cc _ _ e2
        have far : ∀ q, q ≠ g → (((W2.setCell ⟨g, 0, none⟩ (.int .i64 t')).setCell ⟨g, 1, none⟩ (.slice A' n' ca)).setCell ⟨g, 2, none⟩ (.slice B' m' cb)).heap[q]? = W2.heap[q]? := fun q hq =>
          (Below.heap_setCell _ _ _ _ (by simpa using hq)).trans ((Below.heap_setCell _ _ _ _ (by simpa using hq)).trans (Below.heap_setCell _ _ _ _ (by simpa using hq)))
        have HE := Lib.hid (show TAt (fun b => w.heap.size ≤ b) 2 (((W2.setCell ⟨g, 0, none⟩ (.int .i64 t')).setCell ⟨g, 1, none⟩ (.slice A' n' ca)).setCell ⟨g, 2, none⟩ (.slice B' m' cb)) (.int .i64 t') (.slice A' n' ca) (.slice B' m' cb) T ∧ WF m 2 T ∧ TapeOk (((W2.setCell ⟨g, 0, none⟩ (.int .i64 t')).setCell ⟨g, 1, none⟩ (.slice A' n' ca)).setCell ⟨g, 2, none⟩ (.slice B' m' cb)) sb ∧ w.grownBy (((W2.setCell ⟨g, 0, none⟩ (.int .i64 t')).setCell ⟨g, 1, none⟩ (.slice A' n' ca)).setCell ⟨g, 2, none⟩ (.slice B' m' cb)) (some sb) from
          ⟨(TAt.both (fun q _ hP => far q (by omega)) (fun q _ hP => by have := HG.out; omega) _ _ _ _ _ e3).up, (HG2.out.wf T (List.mem_of_getElem? hT)).up,
            ((HG2.out.tape.setCell (p := ⟨g, 0, none⟩) (by show sb < g; omega) _).setCell (p := ⟨g, 1, none⟩) (by show sb < g; omega) _).setCell (p := ⟨g, 2, none⟩) (by show sb < g; omega) _,
            gset (gset (gset HG2.out.grown (p := ⟨g, 0, none⟩) (by rw [HG.out]; simp) _) (p := ⟨g, 1, none⟩) (by rw [HG.out]; simp) _) (p := ⟨g, 2, none⟩) (by rw [HG.out]; simp) _⟩)
        obtain ⟨q0, q1, q2⟩ := (((hR.set0 t').set1 (.slice A' n' ca)).set2 (.slice B' m' cb)).cs
        have Q0 := Lib.hid q0
        have Q1 := Lib.hid q1
        have Q2 := Lib.hid q2
        clear hR q0 q1 q2 far cc e0 e1 e2 e3 hcl hcs hT hKd HG2
        go_wp2_with fail
        have q0 := Q0.out
        have q1 := Q1.out
        have q2 := Q2.out
        refine bodyPost_ret (v := .agg #[.int .i64 t', .slice A' n' ca, .slice B' m' cb]) ?_ rfl (by first | exact ⟨_, _, _, T, rfl, HE.out⟩ | exact ⟨_, _, _, rfl, T, HE.out⟩)
        simp [results, Tryz.results84, go_sem, q0, q1, q2]
      · have hr0' : (r == 0) = false := by simpa using hr
        clear z0 z1 z2 zf0 zf1 zf2 hR hcl hcs
        go_wp2_with fail
        all_goals
          refine (TRange_run _ sb _ _ (by omega) (by omega) (by omega) HG2.out.tape).mono ?_
          rintro e W3 ⟨t, ht0, ht1, rfl, hs3, hg3⟩
          have ht2 : 1 ≤ t := by omega
          have HG3 := Lib.hid (HG2.out.tapeStep hs3 hg3 hsl (by omega))
          have hR := HG3.out.res
          obtain ⟨z0, z1, z2⟩ := hR.cs
          have zf0 := hR.fr 0
          have zf1 := hR.fr 1
          have zf2 := hR.fr 2
          have hIn := ((HG3.out.inner.setLow (p := ⟨g, 0, none⟩) (by simp) (.int .i64 t)).setLow (p := ⟨g, 1, none⟩) (by simp) (.slice none 0 0)).setLow (p := ⟨g, 2, none⟩) (by simp) (.slice (some ⟨gl, 0, none⟩) ls.length cl)
          have hMade : TAt (fun b => w.heap.size ≤ b) 2 (((W3.setCell ⟨g, 0, none⟩ (.int .i64 t)).setCell ⟨g, 1, none⟩ (.slice none 0 0)).setCell ⟨g, 2, none⟩ (.slice (some ⟨gl, 0, none⟩) ls.length cl)) (.int .i64 t) (.slice none 0 0) (.slice (some ⟨gl, 0, none⟩) ls.length cl) (.mk t [] ls) :=
            made (B := g + 1) (fun b hb => by have := HG.out; omega) (by simp) (by omega) (World.ownsRow_nil _ _ _ _) hIn
          have HE := Lib.hid (show TAt (fun b => w.heap.size ≤ b) 2 (((W3.setCell ⟨g, 0, none⟩ (.int .i64 t)).setCell ⟨g, 1, none⟩ (.slice none 0 0)).setCell ⟨g, 2, none⟩ (.slice (some ⟨gl, 0, none⟩) ls.length cl)) (.int .i64 t) (.slice none 0 0) (.slice (some ⟨gl, 0, none⟩) ls.length cl) (.mk t [] ls) ∧ WF m 2 (.mk t [] ls) ∧ TapeOk (((W3.setCell ⟨g, 0, none⟩ (.int .i64 t)).setCell ⟨g, 1, none⟩ (.slice none 0 0)).setCell ⟨g, 2, none⟩ (.slice (some ⟨gl, 0, none⟩) ls.length cl)) sb ∧ w.grownBy (((W3.setCell ⟨g, 0, none⟩ (.int .i64 t)).setCell ⟨g, 1, none⟩ (.slice none 0 0)).setCell ⟨g, 2, none⟩ (.slice (some ⟨gl, 0, none⟩) ls.length cl)) (some sb) from
            ⟨hMade, ⟨ht2, by simp; omega, by simp, by omega, fun x hx => by simp at hx, List.nodup_nil, HG3.out.wf⟩,
              ((HG3.out.tape.setCell (p := ⟨g, 0, none⟩) (by show sb < g; omega) _).setCell (p := ⟨g, 1, none⟩) (by show sb < g; omega) _).setCell (p := ⟨g, 2, none⟩) (by show sb < g; omega) _,
              gset (gset (gset HG3.out.grown (p := ⟨g, 0, none⟩) (by rw [HG.out]; simp) _) (p := ⟨g, 1, none⟩) (by rw [HG.out]; simp) _) (p := ⟨g, 2, none⟩) (by rw [HG.out]; simp) _⟩)
          obtain ⟨q0, q1, q2⟩ := (((hR.set0 t).set1 (.slice none 0 0)).set2 (.slice (some ⟨gl, 0, none⟩) ls.length cl)).cs
          have Q0 := Lib.hid q0
          have Q1 := Lib.hid q1
          have Q2 := Lib.hid q2
          clear hR q0 q1 q2 hMade hIn hs3 hg3 HG2 HG3
          go_wp2_with fail
          all_goals
            have q0 := Q0.out
            have q1 := Q1.out
            have q2 := Q2.out
            refine bodyPost_ret (v := .agg #[.int .i64 t, .slice none 0 0, .slice (some ⟨gl, 0, none⟩) ls.length cl]) ?_ rfl (by first | exact ⟨_, _, _, .mk t [] ls, rfl, HE.out⟩ | exact ⟨_, _, _, rfl, .mk t [] ls, HE.out⟩)
            simp [results, Tryz.results84, go_sem, q0, q1, q2]

end Go.Proofs.YtacpfcckilnbfaaGreat
