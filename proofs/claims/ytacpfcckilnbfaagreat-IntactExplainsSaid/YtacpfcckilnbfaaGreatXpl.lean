/- A raw explanation, opened. -/
import Derived.Test.YtacpfcckilnbfaaGreatB7
import Derived.Deep.Slices
import Derived.Deep.Fields
import Derived.ChangeSame
import Derived.Lib.SmallJoins
namespace Go.Proofs.YtacpfcckilnbfaaGreat
set_option linter.unusedVariables false
set_option linter.unusedSimpArgs false
open Go.RowKit Go.ChangeShapes Go.WideShapes Go.Deep

theorem cell_spot {w : World} {a : Addr} {v : Value} (h : w.cell? a = some v) : ∃ b off, a = ⟨b, off, none⟩ := by
  obtain ⟨b, off, sp⟩ := a
  cases sp with
  | none => exact ⟨b, off, rfl⟩
  | some x =>
    simp only [World.cell?] at h
    split at h <;> simp at h
theorem list_of {α : Type} {Q : Nat → α → Prop} {m : Nat} (h : ∀ i, i < m → ∃ x, Q i x) : ∀ n, n ≤ m → ∃ L : List α, L.length = n ∧ ∀ k x, L[k]? = some x → Q k x
  | 0, _ => ⟨[], rfl, fun k x hx => by simp at hx⟩
  | n + 1, hn => by
    obtain ⟨L, h1, h2⟩ := list_of h n (by omega)
    obtain ⟨y, hy⟩ := h n (by omega)
    refine ⟨L ++ [y], by simp [h1], fun k x hx => ?_⟩
    rcases Nat.lt_or_ge k L.length with h3 | h3
    · rw [List.getElem?_append_left h3] at hx
      exact h2 k x hx
    · rw [List.getElem?_append_right h3] at hx
      rcases hq : k - L.length with _ | j
      · rw [hq] at hx
        simp at hx
        subst hx
        obtain rfl : k = n := by omega
        exact hy
      · rw [hq] at hx
        simp at hx
theorem array5 {α : Type} {cs : Array α} (h : cs.size = 5) : ∃ c0 c1 c2 c3 c4, cs = #[c0, c1, c2, c3, c4] := by
  obtain ⟨l⟩ := cs
  match l, h with
  | [c0, c1, c2, c3, c4], _ => exact ⟨c0, c1, c2, c3, c4, rfl⟩
section
variable {H : Type} {enc : TypeId × Value → H} {w : World} {base : Nat} {spare : Nat → Bool} {held : Bool}
set_option maxRecDepth 100000 in
theorem rfts_open {n : Nat} {cs : List Value} {y : DataW H × List MemPlace} (hf : DataW.trod enc Tryz.prog w base spare held n 59 cs = some y) : ∃ v L, cs = [v] ∧ RowAt 3 encR (fun _ => True) w v L := by
  rcases open_slice Tryz.underlying59 hf with ⟨hcs, _⟩ | ⟨a, l, c, m, n, D, Pl, hcs, hb, hl, hm, hmm, hx, hi⟩
  · exact ⟨_, [], hcs, RowAt.nil⟩
  · have hC : Tryz.prog.cellsOf 42 = 3 := by kernel_rfl
    have key : ∀ i, i < l → ∃ x : Rft, w.cell? (a.add (i * 3)) = some (.int .i64 x.1) ∧ w.cell? ((a.add (i * 3)).add 1) = some (.int .i64 x.2.1) ∧ w.cell? ((a.add (i * 3)).add 2) = some (.int .i64 x.2.2) := by
      intro i hil
      obtain ⟨cs, hc, ht⟩ := hi i (by rw [hmm]; split <;> omega)
      rw [hC] at hc
      obtain ⟨_, hcl, hat⟩ := World.cells?_some hc
      obtain ⟨y0, y1, y2, n', _, _, t0, t1, t2⟩ := trod_struct3 Tryz.underlying42 ht
      match cs, hcl with
      | [u0, u1, u2], _ =>
        obtain ⟨c0, e0, _, _⟩ := DataW.trod_int (k := .i64) (by kernel_rfl) t0
        obtain ⟨c1, e1, _, _⟩ := DataW.trod_int (k := .i64) (by kernel_rfl) t1
        obtain ⟨c2, e2, _, _⟩ := DataW.trod_int (k := .i64) (by kernel_rfl) t2
        have f0 : u0 = .int .i64 c0 := by
          have : [u0] = [Value.int .i64 c0] := e0
          simpa using this
        have f1 : u1 = .int .i64 c1 := by
          have : [u1] = [Value.int .i64 c1] := e1
          simpa using this
        have f2 : u2 = .int .i64 c2 := by
          have : [u2] = [Value.int .i64 c2] := e2
          simpa using this
        subst f0
        subst f1
        subst f2
        have g0 := hat 0 (by omega)
        have g1 := hat 1 (by omega)
        have g2 := hat 2 (by omega)
        refine ⟨(c0, c1, c2), ?_, g1, g2⟩
        have : ((a.add (i * 3)).add 0) = a.add (i * 3) := by simp [Addr.add]
        rw [this] at g0
        exact g0
    obtain ⟨L, hL1, hL2⟩ := list_of key l (Nat.le_refl _)
    refine ⟨_, L, hcs, some a, c, by rw [hL1], by rw [hL1]; exact hl, hm, fun k x hkx => ?_⟩
    have hk : k < l := by rw [← hL1]; exact (List.getElem?_eq_some_iff.1 hkx).1
    have hlen : 0 < l := by omega
    obtain ⟨z, hz, _⟩ := key 0 hlen
    rw [show a.add (0 * 3) = a by simp [Addr.add]] at hz
    obtain ⟨b, off, rfl⟩ := cell_spot hz
    obtain ⟨h1, h2, h3⟩ := hL2 k x hkx
    rw [Addr.add_lit] at h1 h2 h3
    rw [Addr.add_lit] at h2 h3
    refine ⟨b, off, rfl, trivial, cell_lt hz, fun j u hu => ?_⟩
    match j, hu with
    | 0, hu => cases hu; exact h1
    | 1, hu => cases hu; exact h2
    | 2, hu => cases hu; exact h3
set_option maxRecDepth 100000 in
theorem xpl_open {r : Reach} {b0 : Nat} {v : Value} {d : DataW H} {p : List MemPlace} (hv : Value.okWide Tryz.prog w r b0 61 v) (h : DataW.Trod enc Tryz.prog w base spare held 61 v d p) :
    ∃ (K S X Y : Int) (vR : Value) (rs : List Rft), v = .agg #[.int .i64 K, .int .i64 S, .int .i64 X, .int .i64 Y, vR] ∧ (Lit.int .i64 S).wf = true ∧ RowAt 3 encR (fun _ => True) w vR rs := by
  obtain ⟨cs, rfl, hsz⟩ := okWide_struct Tryz.underlying61 hv
  have hC : Tryz.prog.cellsOf 61 = 5 := by kernel_rfl
  have hC1 : Tryz.prog.cellsOf 3 = 1 := by kernel_rfl
  have hC2 : Tryz.prog.cellsOf 59 = 1 := by kernel_rfl
  obtain ⟨c0, c1, c2, c3, c4, rfl⟩ := array5 (hsz.trans hC)
  obtain ⟨fuel, hf⟩ := h
  obtain ⟨xs, n, _, _, hl, hlen, hf2⟩ := DataW.trod_struct Tryz.underlying61 hf
  have h5 : xs.length = 5 := hlen
  have g0 := hf2 0 _ rfl
  have g1 := hf2 1 _ rfl
  have g2 := hf2 2 _ rfl
  have g3 := hf2 3 _ rfl
  have g4 := hf2 4 _ rfl
  rw [List.getElem?_eq_getElem (show 0 < xs.length by omega)] at g0
  rw [List.getElem?_eq_getElem (show 1 < xs.length by omega)] at g1
  rw [List.getElem?_eq_getElem (show 2 < xs.length by omega)] at g2
  rw [List.getElem?_eq_getElem (show 3 < xs.length by omega)] at g3
  rw [List.getElem?_eq_getElem (show 4 < xs.length by omega)] at g4
  simp only [Value.cells, hC1, hC2] at g0 g1 g2 g3 g4
  obtain ⟨k0, e0, _, _⟩ := DataW.trod_int (k := .i64) (by kernel_rfl) g0
  obtain ⟨k1, e1, _, w1⟩ := DataW.trod_int (k := .i64) (by kernel_rfl) g1
  obtain ⟨k2, e2, _, _⟩ := DataW.trod_int (k := .i64) (by kernel_rfl) g2
  obtain ⟨k3, e3, _, _⟩ := DataW.trod_int (k := .i64) (by kernel_rfl) g3
  obtain ⟨v4, rs, e4, hr⟩ := rfts_open g4
  have f0 : c0 = .int .i64 k0 := by simpa [hC1] using e0
  have f1 : c1 = .int .i64 k1 := by simpa [hC1] using e1
  have f2 : c2 = .int .i64 k2 := by simpa [hC1] using e2
  have f3 : c3 = .int .i64 k3 := by simpa [hC1] using e3
  have f4 : c4 = v4 := by simpa [hC2] using e4
  subst f0 f1 f2 f3 f4
  exact ⟨k0, k1, k2, k3, c4, rs, rfl, w1, hr⟩
end
end Go.Proofs.YtacpfcckilnbfaaGreat
