/- The world of a law that has made a pair: what regions keep. -/
import Derived.Test.YtacpfcckilnbfaaGreatB6
namespace Go.Proofs.YtacpfcckilnbfaaGreat
open Go.RowKit
theorem pmK {w W W' : World} {g : Nat} {vl vh : Value} {ls hs : List Mem} (h : W.cell? ⟨g, 0, none⟩ = some vl ∧ W.cell? ⟨g + 1, 0, none⟩ = some vh ∧ PMade w g vl vh ls hs W) (hb : Below W.heap.size W W') : W'.cell? ⟨g, 0, none⟩ = some vl ∧ W'.cell? ⟨g + 1, 0, none⟩ = some vh ∧ PMade w g vl vh ls hs W' := ⟨(h.2.2.bel hb).cl, (h.2.2.bel hb).ch, h.2.2.bel hb⟩
theorem pmG {w W W' : World} {g : Nat} {vl vh : Value} {ls hs : List Mem} (h : W.cell? ⟨g, 0, none⟩ = some vl ∧ W.cell? ⟨g + 1, 0, none⟩ = some vh ∧ PMade w g vl vh ls hs W) (h2 : TapeOk W' w.heap.size) (h3 : W.grownBy W' (some w.heap.size)) : W'.cell? ⟨g, 0, none⟩ = some vl ∧ W'.cell? ⟨g + 1, 0, none⟩ = some vh ∧ PMade w g vl vh ls hs W' := ⟨(h.2.2.grown h2 h3).cl, (h.2.2.grown h2 h3).ch, h.2.2.grown h2 h3⟩
theorem pmS {w W : World} {g : Nat} {vl vh : Value} {ls hs : List Mem} (h : W.cell? ⟨g, 0, none⟩ = some vl ∧ W.cell? ⟨g + 1, 0, none⟩ = some vh ∧ PMade w g vl vh ls hs W) : PMade w g vl vh ls hs W := h.2.2
end Go.Proofs.YtacpfcckilnbfaaGreat
