/- The contracts of threshold.Satisfied and threshold.Blocked. -/
import Derived.Test.YtfghnkgllmofgaaTrust
namespace Go.Proofs.Ytfghnkgllmofgaa
set_option linter.unusedVariables false
set_option linter.unusedSimpArgs false
open Go.RowKit

def satB (d : Nat) (T : Tree) (s : Int) : Bool := setB s && holdsT d (hasB s) T

def blkB (d : Nat) (T : Tree) (s : Int) : Bool := setB s && !holdsT d (hasB (1023 - s)) T

theorem andNot_fact (S : Nat) (h : S ≤ 1023) : bits .andNot .i64 1023 (S : Int) = 1023 - (S : Int) := by
  have : ∀ S : Fin 1024, bits .andNot .i64 1023 ((S.val : Nat) : Int) = 1023 - ((S.val : Nat) : Int) := by decide +kernel
  exact this ⟨S, by omega⟩

set_option maxHeartbeats 1000000 in
theorem satisfied_run (P : Nat → Prop) (d : Nat) (T : Tree) (v0 v1 v2 : Value) (s : Int) (w : World) (h : TAt P d w v0 v1 v2 T) :
    Calls Try.prog 79 #[.agg #[v0, v1, v2], .int .i64 s] w fun e w' => e = .returned (.bool (satB d T s)) ∧ Below w.heap.size w w' := by
  obtain ⟨t', A', n', ca, B', m', cb, rfl, rfl, rfl⟩ := h.form
  have hT := Lib.hid (h.below (balloc (bref w) (.cells #[.int .i64 t', .slice A' n' ca, .slice B' m' cb] 49)))
  clear h
  cases hs : setB s
  · have HS := Lib.hid (show satB d T s = false by unfold satB; simp [hs])
    go_enter Try.func79, Try.ntmps79
    go_wp2_with fail
    refine (setValid_run _ _).mono ?_
    rintro e w2 ⟨rfl, rfl⟩
    rw [hs]
    go_wp2_with fail
    go_ret
    exact ⟨by rw [HS.out]; rfl, balloc (bref _) _⟩
  · have HS := Lib.hid (show satB d T s = holdsT d (hasB s) T by unfold satB; simp [hs])
    go_enter Try.func79, Try.ntmps79
    go_wp2_with fail
    refine (setValid_run _ _).mono ?_
    rintro e w2 ⟨rfl, rfl⟩
    rw [hs]
    go_wp2_with fail
    refine (holds_run P d T _ _ _ s _ hT.out).mono ?_
    rintro e w3 ⟨rfl, hb3⟩
    go_wp2_with fail
    go_ret
    exact ⟨by rw [HS.out]; rfl, bstep (balloc (bref _) _) hb3⟩

end Go.Proofs.Ytfghnkgllmofgaa
