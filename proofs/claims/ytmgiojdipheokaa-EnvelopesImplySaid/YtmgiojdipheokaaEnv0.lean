/- An envelope in memory; what makes it valid, and what it says. -/
import Derived.Test.YtmgiojdipheokaaLow
import Derived.Test.YtmgiojdipheokaaBalMem
import Derived.Deep.DeepCutAuto
namespace Go.Proofs.Ytmgiojdipheokaa
set_option linter.unusedVariables false
set_option linter.unusedSimpArgs false
open Go.RowKit

/-- Block g is one row of cells; what is older than g is as in w. -/
structure EV (w : World) (g : Nat) (cs : Array Value) (ty : Nat) (W : World) : Prop where
  e : W.heap[g]? = some (.cells cs ty (0, 0))
  bel : Below g w W
theorem EV.lt {w W : World} {g : Nat} {cs : Array Value} {ty : Nat} (h : EV w g cs ty W) : g < W.heap.size := by
  rcases Nat.lt_or_ge g W.heap.size with h1 | h1
  · exact h1
  · have := h.e; rw [Array.getElem?_eq_none h1] at this; cases this
theorem EV.bl {w W W' : World} {g : Nat} {cs : Array Value} {ty : Nat} (h : EV w g cs ty W) (hb : Below W.heap.size W W') : EV w g cs ty W' :=
  ⟨(hb.block _ h.lt).trans h.e, h.bel.trans (hb.mono (Nat.le_of_lt h.lt))⟩
theorem EV.new (w : World) (cs : Array Value) (ty : Nat) : EV w w.heap.size cs ty (w.alloc (.cells cs ty)) := ⟨heap_alloc_new _ _, balloc (bref _) _⟩
theorem EV.fr {w W : World} {g : Nat} {cs : Array Value} {ty : Nat} (h : EV w g cs ty W) (k : Nat) : W.frozen? ⟨g, k, none⟩ = false := by
  have := h.e; simp [World.frozen?, this]

/-- Is low .. high a range from 1 to most? -/
def rngB (lo hi m : Int) : Bool := decide (1 ≤ lo) && (decide (lo ≤ hi) && decide (hi ≤ m))
def rppB (pc : Int) (pi : Nat) (qc : Int) (qi : Nat) : Bool := if zeroB qc qi then zeroB pc pi || validB pc pi else validB pc pi && (validB qc qi && (lessB qc qi pc pi && !decide (qi = pi)))
def rpB (bc : Int) (bi : Nat) (pc : Int) (pi : Nat) (qc : Int) (qi : Nat) (lo hi : Int) : Bool :=
  decide (bc ≤ 1000) && (rppB pc pi qc qi && (decide (0 ≤ lo) && (decide (lo ≤ hi) && (decide (hi ≤ bc) && ((decide (hi = 0) || prepB pc pi qc qi hi bi) && (decide (lo = 0) || (!abB pc pi lo bi && !abB qc qi lo bi)))))))
def rcB (bc : Int) (bi : Nat) (pc : Int) (pi : Nat) (qc : Int) (qi : Nat) (lo hi : Int) : Bool :=
  decide (bc ≤ 1000) && (validB pc pi && (decide (pi = bi) && (zeroB qc qi && rngB lo hi (if decide (pc ≤ 1000) then pc else 1000))))
def okE (kd bc : Int) (bi : Nat) (pc : Int) (pi : Nat) (qc : Int) (qi : Nat) (lo hi : Int) : Bool :=
  if kd = 1 then rpB bc bi pc pi qc qi lo hi else if kd = 2 then rcB bc bi pc pi qc qi lo hi else if kd = 3 then zeroB pc pi && (zeroB qc qi && rngB lo hi 1000) else false

set_option maxHeartbeats 1000000 in
theorem isRange_run (lo hi m : Int) (w : World) : Calls Try.prog 104 #[.int .i64 lo, .int .i64 hi, .int .i64 m] w fun e w' => e = .returned (.bool (rngB lo hi m)) ∧ w = w' := by
  have key : ∀ b : Bool, rngB lo hi m = b → Calls Try.prog 104 #[.int .i64 lo, .int .i64 hi, .int .i64 m] w fun e w' => e = .returned (.bool b) ∧ w = w' := by
    intro b hb
    unfold rngB at hb
    by_cases h0 : 1 ≤ lo
    · by_cases h1 : lo ≤ hi
      · by_cases h2 : hi ≤ m
        · obtain rfl : true = b := by simpa [h0, h1, h2] using hb
          clear hb
          go_enter Try.func104, Try.ntmps104
          go_wp2
          go_ret
          exact ⟨rfl, rfl⟩
        · obtain rfl : false = b := by simpa [h0, h1, h2] using hb
          clear hb
          go_enter Try.func104, Try.ntmps104
          go_wp2
          go_ret
          exact ⟨rfl, rfl⟩
      · obtain rfl : false = b := by simpa [h0, h1] using hb
        clear hb
        go_enter Try.func104, Try.ntmps104
        go_wp2
        go_ret
        exact ⟨rfl, rfl⟩
    · obtain rfl : false = b := by simpa [h0] using hb
      clear hb
      go_enter Try.func104, Try.ntmps104
      go_wp2
      go_ret
      exact ⟨rfl, rfl⟩
  exact key _ rfl
end Go.Proofs.Ytmgiojdipheokaa
