/- The source of numbers (trustquorumplay.Src): its state in memory, and what each of its methods returns. -/
import Derived.Test.YtfghnkgllmofgaaKit
namespace Go.Proofs.Ytfghnkgllmofgaa
set_option linter.unusedVariables false
set_option linter.unusedSimpArgs false
open Go.RowKit

/-- A slice of integers that is read below block B. -/
def IsRow (k : IntKind) (w : World) (a : Option Addr) (len cap : Nat) (zs : List Int) : Prop :=
  (a = none ∧ len = 0 ∧ cap = 0 ∧ zs = []) ∨
  ∃ x, a = some x ∧ len ≤ cap ∧ cap ≤ maxLen ∧ zs.length = cap ∧ (∀ i, i < zs.length → w.cell? (x.add i) = some (.int k (zs.getD i 0))) ∧ ∀ n ∈ zs, (Lit.int k n).wf = true

theorem add_block (ad : Addr) (i : Nat) : (ad.add i).block = ad.block := by unfold Addr.add; split <;> rfl

theorem cell_lt {w : World} {p : Addr} {v : Value} (h : w.cell? p = some v) : p.block < w.heap.size := by
  rcases Nat.lt_or_ge p.block w.heap.size with h1 | h1
  · exact h1
  · simp [World.cell?, Array.getElem?_eq_none h1] at h

/-- What a call on a source leaves: new blocks, and its own block written. -/
abbrev Upto (w w' : World) (sb : Nat) : Prop := w.grownBy w' (some sb)

theorem grown_trans {a b c : World} {r : Option Nat} (h : a.grownBy b r) (k : b.grownBy c r) : a.grownBy c r :=
  ⟨k.os.trans h.os, k.tape.trans h.tape, k.output.trans h.output, Nat.le_trans h.size k.size, fun n hn hr => (k.block n (Nat.lt_of_lt_of_le hn h.size) hr).trans (h.block n hn hr)⟩

theorem grown_below {a b : World} {r : Option Nat} (h : Below a.heap.size a b) : a.grownBy b r := ⟨h.os, h.tape, h.output, h.size, fun n hn _ => h.block n hn⟩

theorem mod_fact (z n : Int) (h0 : -9223372036854775808 ≤ z) (h1 : z ≤ 9223372036854775807) (hn : 1 ≤ n) (hn1 : n ≤ 1000000000000000) :
    0 ≤ (wrap64 (z.tmod n + n)).tmod n ∧ (wrap64 (z.tmod n + n)).tmod n < n := by
  have h2 : -n < z.tmod n ∧ z.tmod n < n := by
    have a := Int.lt_tmod_of_pos z (show 0 < n by omega)
    have b := Int.tmod_lt_of_pos z (show 0 < n by omega)
    omega
  rw [IntWalk.wrap64_in _ (by omega)]
  exact ⟨Int.tmod_nonneg _ (by omega), Int.tmod_lt_of_pos _ (by omega)⟩

/-- The five values: none, a, b, c, aa; in their order. -/
def valOf (i : Nat) : ByteArray := match i with | 1 => ⟨#[97]⟩ | 2 => ⟨#[98]⟩ | 3 => ⟨#[99]⟩ | 4 => ⟨#[97, 97]⟩ | _ => ⟨#[]⟩

end Go.Proofs.Ytfghnkgllmofgaa
