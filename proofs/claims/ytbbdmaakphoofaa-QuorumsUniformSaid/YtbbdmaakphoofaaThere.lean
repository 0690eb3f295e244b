/- The table of nodeset.Least, and its two closures. -/
import Derived.Test.YtbbdmaakphoofaaDual2
import Derived.Test.YtbbdmaakphoofaaCmp
import Derived.Deep.WholeRow
namespace Go.Proofs.Ytbbdmaakphoofaa
set_option linter.unusedVariables false
set_option linter.unusedSimpArgs false
open Go.RowKit

theorem zc_eq : Try.zeroCells102 = Array.replicate 1024 (.bool false) := by kernel_rfl
theorem zc_size : Try.zeroCells102.size = 1024 := by rw [zc_eq]; exact Array.size_replicate
theorem zc_one : Try.zeroCells102.all (·.oneCell') = true := by rw [zc_eq, Array.all_eq_true]; intro i hi; rw [Array.getElem_replicate]; rfl
theorem zc_info : (Try.prog.info? 102).map (·.size) = some Try.zeroCells102.size := by rw [zc_size]; kernel_rfl

/-- Block tb says which sets are there. -/
def ThereAt (w : World) (tb : Nat) (p : Nat → Bool) : Prop := ∃ c, w.heap[tb]? = some (.cells c 102 (0, 0)) ∧ c.size = 1024 ∧ ∀ t, t < 1024 → c[t]? = some (.bool (p t))
theorem ThereAt.zero (w : World) : ThereAt (w.alloc (.cells Try.zeroCells102 102)) w.heap.size (fun _ => false) :=
  ⟨_, heap_alloc_new _ _, zc_size, fun t ht => by rw [zc_eq, Array.getElem?_replicate, if_pos ht]⟩
theorem ThereAt.keep {w w' : World} {tb : Nat} {p : Nat → Bool} (h : ThereAt w tb p) (hk : w'.heap[tb]? = w.heap[tb]?) : ThereAt w' tb p := by
  obtain ⟨c, h1, h2⟩ := h; exact ⟨c, hk.trans h1, h2⟩
theorem ThereAt.lt {w : World} {tb : Nat} {p : Nat → Bool} (h : ThereAt w tb p) : tb < w.heap.size := by
  obtain ⟨c, h1, h2⟩ := h
  rcases Nat.lt_or_ge tb w.heap.size with h3 | h3
  · exact h3
  · rw [Array.getElem?_eq_none h3] at h1; cases h1
theorem ThereAt.below {w w' : World} {tb : Nat} {p : Nat → Bool} (h : ThereAt w tb p) (hb : Below w.heap.size w w') : ThereAt w' tb p := h.keep (hb.block _ h.lt)
theorem ThereAt.cell {w : World} {tb : Nat} {p : Nat → Bool} (h : ThereAt w tb p) (t : Nat) (ht : t < 1024) : w.cell? ⟨tb, t, none⟩ = some (.bool (p t)) := by
  obtain ⟨c, h1, h2, h3⟩ := h
  rw [cell_of_row _ _ t c _ (0, 0) h1]; exact h3 t ht
theorem ThereAt.fr {w : World} {tb : Nat} {p : Nat → Bool} (h : ThereAt w tb p) (t : Nat) : w.frozen? ⟨tb, t, none⟩ = false := by
  obtain ⟨c, h1, _⟩ := h
  simp [World.frozen?, h1]
theorem ThereAt.congr {w : World} {tb : Nat} {p q : Nat → Bool} (h : ThereAt w tb p) (hq : ∀ t, t < 1024 → q t = p t) : ThereAt w tb q := by
  obtain ⟨c, h1, h2, h3⟩ := h
  exact ⟨c, h1, h2, fun t ht => by rw [hq t ht]; exact h3 t ht⟩
theorem ThereAt.set {w : World} {tb : Nat} {p : Nat → Bool} (h : ThereAt w tb p) (s : Nat) (hs : s < 1024) : ThereAt (w.setCell ⟨tb, s, none⟩ (.bool true)) tb (fun t => p t || t == s) := by
  obtain ⟨c, h1, h2, h3⟩ := h
  refine ⟨c.setIfInBounds s (.bool true), ?_, by simp [h2], fun t ht => ?_⟩
  · simp [World.setCell, Array.getElem?_modify, h1]
  · rw [Array.getElem?_setIfInBounds]
    by_cases e : s = t
    · subst e; rw [if_pos rfl, if_pos (by omega)]; simp
    · rw [if_neg e, h3 t ht]
      have : (t == s) = false := by simp; omega
      simp only [this, Bool.or_false]

set_option maxHeartbeats 1000000 in
theorem least1_run (tb : Nat) (p : Nat → Bool) (t : Nat) (ht : t < 1024) (w : World) (h : ThereAt w tb p) :
    Calls Try.prog 102 #[.int .i64 (t : Int), .pointer (some ⟨tb, 0, none⟩)] w fun e w' => e = .returned (.bool (p t)) ∧ w = w' := by
  have h1 := h.cell t ht
  generalize p t = b at *
  clear h
  go_enter Try.func102, Try.ntmps102
  go_wp2_with fail
  go_ret
  exact ⟨rfl, rfl⟩

theorem dif_nat (a b : Nat) (ha : a < 1024) (hb : b < 1024) : bits .andNot .i64 (a : Int) (b : Int) = ((a ^^^ (a &&& b) : Nat) : Int) := by
  have hx : a ^^^ (a &&& b) < 2 ^ 63 := Nat.xor_lt_two_pow (by omega) (Nat.lt_of_le_of_lt Nat.and_le_left (by omega))
  show IntKind.i64.wrap ((BitVec.ofInt 64 (a : Int) &&& ~~~BitVec.ofInt 64 (b : Int)).toNat : Int) = _
  have e : (BitVec.ofInt 64 (a : Int) &&& ~~~BitVec.ofInt 64 (b : Int)).toNat = a ^^^ (a &&& b) := by
    apply Nat.eq_of_testBit_eq
    intro i
    rw [BitVec.toNat_and, BitVec.toNat_not, ofInt_i64 a (by omega), ofInt_i64 b (by omega), Nat.testBit_and, Nat.testBit_xor, Nat.testBit_and]
    have h2 : (2 : Nat) ^ 64 - 1 - b = 2 ^ 64 - (b + 1) := by omega
    rw [h2, Nat.testBit_two_pow_sub_succ (by omega)]
    rcases Nat.lt_or_ge i 64 with hi | hi
    · simp only [hi, decide_true, Bool.true_and]
      cases a.testBit i <;> cases b.testBit i <;> rfl
    · have h10 : (1024 : Nat) ≤ 2 ^ i := Nat.le_trans (by decide) (Nat.pow_le_pow_right (n := 2) (by omega) hi)
      rw [Nat.testBit_lt_two_pow (show a < 2 ^ i by omega)]; rfl
  rw [e, IntKind.wrap_i64]
  omega
/-- Is t a subset of s? -/
def subB (t s : Nat) : Bool := t &&& s == t
theorem xor_zero {a b : Nat} : a ^^^ b = 0 ↔ a = b := by
  constructor
  · intro h
    apply Nat.eq_of_testBit_eq
    intro i
    have := congrArg (fun x => x.testBit i) h
    simp only [Nat.testBit_xor, Nat.zero_testBit] at this
    revert this
    cases a.testBit i <;> cases b.testBit i <;> simp
  · rintro rfl; exact Nat.xor_self _
theorem andnot_sub (t s : Nat) (ht : t < 1024) (hs : s < 1024) : (bits .andNot .i64 (t : Int) (s : Int) == 0) = subB t s := by
  rw [dif_nat t s ht hs]
  unfold subB
  rw [Bool.eq_iff_iff]
  simp only [beq_iff_eq]
  rw [show ((0 : Int)) = ((0 : Nat) : Int) from rfl, Int.natCast_inj, xor_zero]
  exact eq_comm
set_option maxHeartbeats 1000000 in
theorem least2_run (sb s t : Nat) (ht : t < 1024) (hs : s < 1024) (w : World) (h : w.cell? ⟨sb, 0, none⟩ = some (.int .i64 (s : Int))) :
    Calls Try.prog 103 #[.int .i64 (t : Int), .pointer (some ⟨sb, 0, none⟩)] w fun e w' => e = .returned (.bool (subB t s)) ∧ w = w' := by
  have HA := Lib.hid (andnot_sub t s ht hs)
  go_enter Try.func103, Try.ntmps103
  go_wp2_with fail
  go_ret
  exact ⟨by rw [← HA.out]; rfl, rfl⟩
end Go.Proofs.Ytbbdmaakphoofaa
