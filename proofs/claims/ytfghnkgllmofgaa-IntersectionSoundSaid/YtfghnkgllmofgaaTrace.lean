/- Search trees: when they are right, and how large they are; in memory. -/
import Derived.Test.YtfghnkgllmofgaaPair
namespace Go.Proofs.Ytfghnkgllmofgaa
set_option linter.unusedVariables false
set_option linter.unusedSimpArgs false
open Go.RowKit

/-- A search tree. -/
inductive Tr where
  | none
  | alone
  | split (node : Nat) (a b : Tr)

def sizeTr : Tr → Nat
  | .none => 1
  | .alone => 1
  | .split _ a b => 1 + sizeTr a + sizeTr b

/-- The greatest quorum (or nothing) that avoids X. -/
def Av (d : Nat) (ms : List Mem) (X G : Nat) : Prop := IsGr d ms (outS ms.length X &&& declS ms ms.length) G ∧ G < 1024

/-- No quorum has all of R and nothing of X. -/
def NoneP (d : Nat) (ms : List Mem) (R X : Nat) : Prop := ∀ G, Av d ms X G → G = 0 ∨ ¬ Sub R G

/-- No quorum avoids R. -/
def AloneP (d : Nat) (ms : List Mem) (R : Nat) : Prop := ∀ G, Av d ms R G → G = 0

def RightT (d : Nat) (ms : List Mem) : Tr → Nat → Nat → Prop
  | .none, R, X => NoneP d ms R X
  | .alone, R, _ => AloneP d ms R
  | .split k a b, R, X => k < ms.length ∧ R.testBit k = false ∧ X.testBit k = false ∧ RightT d ms a R (X ||| 2 ^ k) ∧ RightT d ms b (R ||| 2 ^ k) X

/-- How many nodes are not decided. -/
def und (n R X : Nat) : Nat := (List.range n).countP (fun k => !R.testBit k && !X.testBit k)

theorem und_le (n R X : Nat) : und n R X ≤ n := by unfold und; exact Nat.le_trans List.countP_le_length (by simp)

theorem countP_drop {α : Type} {p q : α → Bool} : ∀ (l : List α) (x : α), x ∈ l → (∀ y, q y = true → p y = true) → p x = true → q x = false → l.countP q + 1 ≤ l.countP p
  | [], x, h, _, _, _ => by cases h
  | y :: l, x, h, hqp, hp, hq => by
    have mono : l.countP q ≤ l.countP p := List.countP_mono_left (fun z _ hz => hqp z hz)
    rw [List.countP_cons, List.countP_cons]
    by_cases e : y = x
    · subst e
      rw [hp, hq]
      simp; omega
    · have hx : x ∈ l := by
        rcases List.mem_cons.1 h with h1 | h1
        · exact (e h1.symm).elim
        · exact h1
      have ih := countP_drop l x hx hqp hp hq
      cases hqy : q y
      · cases hpy : p y <;> simp <;> omega
      · rw [hqp y hqy]; simp; omega

theorem or_bit (a k j : Nat) : (a ||| 2 ^ k).testBit j = (a.testBit j || decide (k = j)) := by rw [Nat.testBit_or, Nat.testBit_two_pow]

theorem und_X {n R X k : Nat} (hk : k < n) (hR : R.testBit k = false) (hX : X.testBit k = false) : und n R (X ||| 2 ^ k) + 1 ≤ und n R X := by
  unfold und
  refine countP_drop _ k (List.mem_range.2 hk) (fun y hy => ?_) (by rw [hR, hX]; rfl) (by rw [or_bit]; simp)
  rw [or_bit] at hy
  simp at hy ⊢
  exact ⟨hy.1, hy.2.1⟩

theorem und_R {n R X k : Nat} (hk : k < n) (hR : R.testBit k = false) (hX : X.testBit k = false) : und n (R ||| 2 ^ k) X + 1 ≤ und n R X := by
  unfold und
  refine countP_drop _ k (List.mem_range.2 hk) (fun y hy => ?_) (by rw [hR, hX]; rfl) (by rw [or_bit]; simp)
  rw [or_bit] at hy
  simp at hy ⊢
  exact ⟨hy.1.1, hy.2⟩

theorem size_und {d : Nat} {ms : List Mem} : ∀ (T : Tr) (R X : Nat), RightT d ms T R X → sizeTr T + 1 ≤ 2 ^ (und ms.length R X + 1)
  | .none, R, X, _ => by
    have := Nat.pow_le_pow_right (n := 2) (by omega) (show 1 ≤ und ms.length R X + 1 by omega)
    show 1 + 1 ≤ _; omega
  | .alone, R, X, _ => by
    have := Nat.pow_le_pow_right (n := 2) (by omega) (show 1 ≤ und ms.length R X + 1 by omega)
    show 1 + 1 ≤ _; omega
  | .split k a b, R, X, h => by
    obtain ⟨hk, hR, hX, ha, hb⟩ := h
    have h1 := size_und a _ _ ha
    have h2 := size_und b _ _ hb
    have e1 := Nat.pow_le_pow_right (n := 2) (by omega) (und_X hk hR hX)
    have e2 := Nat.pow_le_pow_right (n := 2) (by omega) (und_R hk hR hX)
    rw [Nat.pow_succ]
    show 1 + sizeTr a + sizeTr b + 1 ≤ _
    omega

theorem size_le {d : Nat} {ms : List Mem} (hl : ms.length ≤ 10) {T : Tr} {R X : Nat} (h : RightT d ms T R X) : sizeTr T ≤ 2047 := by
  have h1 := size_und T R X h
  have h2 := und_le ms.length R X
  have h3 := Nat.pow_le_pow_right (n := 2) (by omega) (show und ms.length R X + 1 ≤ 11 by omega)
  omega

theorem av_uniq {d : Nat} {ms : List Mem} {X G H : Nat} (h1 : Av d ms X G) (h2 : Av d ms X H) : G = H := gr_uniq h1.2 h2.2 h1.1 h2.1

/-- Without disjoint quorums: where neither leaf is right, a quorum leaves a node to split at. -/
theorem split_node {d : Nat} {ms : List Mem} (hl : ms.length ≤ 10) (hno : ∀ t, t < 2 ^ ms.length → ¬ Apart d ms t) {R X G : Nat} (hG : Av d ms X G) (h1 : ¬ (G = 0 ∨ ¬ Sub R G)) (h2 : ¬ AloneP d ms R) : ∃ k, G.testBit k = true ∧ R.testBit k = false := by
  rcases Classical.em (∃ k, G.testBit k = true ∧ R.testBit k = false) with h | h
  · exact h
  · exfalso
    have hG0 : G ≠ 0 := fun e => h1 (.inl e)
    have hRG : Sub R G := Classical.byContradiction (fun hc => h1 (.inr hc))
    have hGR : Sub G R := fun k hk => by
      cases hr : R.testBit k
      · exact (h ⟨k, hk, hr⟩).elim
      · rfl
    obtain rfl : R = G := sub_antisymm hRG hGR
    have hs := sub_and.1 hG.1.sub
    have hlt : R < 2 ^ ms.length := Nat.lt_pow_two_of_testBit _ (fun i hi => by
      cases hb : R.testBit i
      · rfl
      · have := hs.1 i hb
        rw [outS_bit, decide_eq_false (by omega)] at this
        cases this)
    refine h2 (fun H hH => ?_)
    rcases Nat.eq_zero_or_pos H with e | e
    · exact e
    · exact (hno R hlt ⟨⟨hG0, hs.2, hG.1.closed⟩, H, hH.2, by omega, hH.1.sub, hH.1.closed⟩).elim

/-- A search tree in memory. -/
def TrAt (P : Nat → Prop) (w : World) : Tr → Value → Value → Value → Prop
  | .none, k, n, s => k = .int .i64 1 ∧ n = .int .i64 0 ∧ s = .slice none 0 0
  | .alone, k, n, s => k = .int .i64 2 ∧ n = .int .i64 0 ∧ s = .slice none 0 0
  | .split nd a b, k, n, s => k = .int .i64 3 ∧ n = .int .i64 (nd : Int) ∧ ∃ q off x0 x1 x2 y0 y1 y2, s = .slice (some ⟨q, off, none⟩) 2 2 ∧ P q ∧
      w.cell? ⟨q, off, none⟩ = some x0 ∧ w.cell? ⟨q, off + 1, none⟩ = some x1 ∧ w.cell? ⟨q, off + 2, none⟩ = some x2 ∧ w.cell? ⟨q, off + 3, none⟩ = some y0 ∧ w.cell? ⟨q, off + 4, none⟩ = some y1 ∧ w.cell? ⟨q, off + 5, none⟩ = some y2 ∧
      TrAt P w a x0 x1 x2 ∧ TrAt P w b y0 y1 y2

theorem TrAt.below {P : Nat → Prop} {w w' : World} (hb : Below w.heap.size w w') : ∀ {T : Tr} {k n s : Value}, TrAt P w T k n s → TrAt P w' T k n s
  | .none, _, _, _, h => h
  | .alone, _, _, _, h => h
  | .split nd a b, k, n, s, h => by
    obtain ⟨h1, h2, q, off, x0, x1, x2, y0, y1, y2, h3, hP, e0, e1, e2, e3, e4, e5, ha, hb'⟩ := h
    exact ⟨h1, h2, q, off, x0, x1, x2, y0, y1, y2, h3, hP, (hb.cell (cell_lt e0)).trans e0, (hb.cell (cell_lt e1)).trans e1, (hb.cell (cell_lt e2)).trans e2, (hb.cell (cell_lt e3)).trans e3, (hb.cell (cell_lt e4)).trans e4, (hb.cell (cell_lt e5)).trans e5, TrAt.below hb ha, TrAt.below hb hb'⟩

theorem TrAt.form {P : Nat → Prop} {w : World} {T : Tr} {k n s : Value} (h : TrAt P w T k n s) : ∃ (K N : Int) (A : Option Addr) (m c : Nat), k = .int .i64 K ∧ n = .int .i64 N ∧ s = .slice A m c := by
  cases T with
  | none => exact ⟨_, _, _, _, _, h.1, h.2.1, h.2.2⟩
  | alone => exact ⟨_, _, _, _, _, h.1, h.2.1, h.2.2⟩
  | split nd a b =>
    obtain ⟨h1, h2, q, off, _, _, _, _, _, _, h3, _⟩ := h
    exact ⟨_, _, _, _, _, h1, h2, h3⟩

end Go.Proofs.Ytfghnkgllmofgaa
