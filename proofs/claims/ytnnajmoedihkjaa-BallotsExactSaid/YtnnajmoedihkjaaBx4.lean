/- A raw list of ballots, opened. -/
import Derived.Test.YtnnajmoedihkjaaBx3
import Derived.Deep.Slices
import Derived.Deep.Fields
import Derived.ChangeSame
namespace Go.Proofs.Ytnnajmoedihkjaa
set_option linter.unusedVariables false
set_option linter.unusedSimpArgs false
open Go.RowKit Go.ChangeShapes Go.WideShapes Go.Deep

abbrev IsList (w : World) (v : Value) (L : List (Int × ByteArray)) : Prop := BRow w v L
theorem cell_spot {w : World} {a : Addr} {v : Value} (h : w.cell? a = some v) : ∃ b off, a = ⟨b, off, none⟩ := by
  obtain ⟨b, off, sp⟩ := a
  cases sp with
  | none => exact ⟨b, off, rfl⟩
  | some x =>
    simp only [World.cell?] at h
    split at h <;> simp at h
theorem list_of {α : Type} {Q : Nat → α → Prop} {m : Nat} (h : ∀ i, i < m → ∃ x, Q i x) : ∀ n, n ≤ m → ∃ L : List α, L.length = n ∧ ∀ k x, L[k]? = some x → Q k x
  | 0, _ => ⟨[], rfl, fun k x hx => by simp at hx⟩
  | n + 1, hn => by
    obtain ⟨L, h1, h2⟩ := list_of h n (by omega)
    obtain ⟨y, hy⟩ := h n (by omega)
    refine ⟨L ++ [y], by simp [h1], fun k x hx => ?_⟩
    rcases Nat.lt_or_ge k L.length with h3 | h3
    · rw [List.getElem?_append_left h3] at hx
      exact h2 k x hx
    · rw [List.getElem?_append_right h3] at hx
      rcases hq : k - L.length with _ | j
      · rw [hq] at hx
        simp at hx
        subst hx
        obtain rfl : k = n := by omega
        exact hy
      · rw [hq] at hx
        simp at hx
section
variable {H : Type} {enc : TypeId × Value → H} {w : World} {base : Nat} {spare : Nat → Bool} {held : Bool}
theorem isList_open {r : Reach} {b0 : Nat} {v : Value} {d : DataW H} {p : List MemPlace} (hv : Value.okWide Try.prog w r b0 23 v) (h : DataW.Trod enc Try.prog w base spare held 23 v d p) : ∃ L, IsList w v L := by
  obtain ⟨A, len, cap, rfl⟩ := okWide_slice Try.underlying23 hv
  obtain ⟨fuel, hf⟩ := h
  rcases open_slice Try.underlying23 hf with ⟨hcs, _⟩ | ⟨a, l, c, m, n, D, Pl, hcs, hb, hl, hm, hmm, hx, hi⟩
  · simp [Value.cells] at hcs
    obtain ⟨rfl, rfl, rfl⟩ := hcs
    exact ⟨[], RowAt.nil⟩
  · simp [Value.cells] at hcs
    obtain ⟨rfl, rfl, rfl⟩ := hcs
    have hC : Try.prog.cellsOf 25 = 2 := by kernel_rfl
    have key : ∀ i, i < len → ∃ x : Int × ByteArray, w.cell? (a.add (i * 2)) = some (.int .i64 x.1) ∧ w.cell? ((a.add (i * 2)).add 1) = some (.string x.2) := by
      intro i hil
      obtain ⟨cs, hc, ht⟩ := hi i (by rw [hmm]; split <;> omega)
      rw [hC] at hc
      obtain ⟨_, hcl, hat⟩ := World.cells?_some hc
      obtain ⟨y0, y1, n', _, _, t0, t1⟩ := trod_struct2 Try.underlying25 ht
      match cs, hcl with
      | [u0, u1], _ =>
        obtain ⟨c1, e1, _, _⟩ := DataW.trod_int (k := .i64) (by kernel_rfl) t0
        obtain ⟨B1, e2, _, _⟩ := DataW.trod_string (by kernel_rfl) t1
        have f0 : u0 = .int .i64 c1 := by
          have : [u0] = [Value.int .i64 c1] := e1
          simpa using this
        have f1 : u1 = .string B1 := by
          have : [u1] = [Value.string B1] := e2
          simpa using this
        subst f0
        subst f1
        have g0 := hat 0 (by omega)
        have g1 := hat 1 (by omega)
        refine ⟨(c1, B1), ?_, g1⟩
        have : ((a.add (i * 2)).add 0) = a.add (i * 2) := by simp [Addr.add]
        rw [this] at g0
        exact g0
    obtain ⟨L, hL1, hL2⟩ := list_of key len (Nat.le_refl _)
    refine ⟨L, some a, cap, by rw [hL1], by rw [hL1]; exact hl, hm, fun k x hkx => ?_⟩
    have hk : k < len := by rw [← hL1]; exact (List.getElem?_eq_some_iff.1 hkx).1
    have hlen : 0 < len := by omega
    obtain ⟨z, hz, _⟩ := key 0 hlen
    rw [show a.add (0 * 2) = a by simp [Addr.add]] at hz
    obtain ⟨b, off, rfl⟩ := cell_spot hz
    obtain ⟨h1, h2⟩ := hL2 k x hkx
    rw [Addr.add_lit] at h1 h2
    rw [Addr.add_lit] at h2
    refine ⟨b, off, rfl, trivial, cell_lt hz, fun j u hu => ?_⟩
    match j, hu with
    | 0, hu => cases hu; exact h1
    | 1, hu => cases hu; exact h2
end
end Go.Proofs.Ytnnajmoedihkjaa
