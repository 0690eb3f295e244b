/- The walk of AmountAssets: assets are in one order, with the native one first, and valid ones differ in their code or their issuer. -/
import Derived.Test.YtolodegbilagbaaAsset2
import Derived.Deep.DeepCutAuto
namespace Go.Proofs.Ytolodegbilagbaa
set_option linter.unusedVariables false
open Go.RowKit

def AsAt (w : World) (g a : Nat) : Prop := w.heap[g]? = some (.cells #[.string (codeOf a), .int .i64 (issOf a)] 38 (0, 0))
theorem AsAt.lt {w : World} {g a : Nat} (h : AsAt w g a) : g < w.heap.size := by
  rcases Nat.lt_or_ge g w.heap.size with h1 | h1
  · exact h1
  · unfold AsAt at h; rw [Array.getElem?_eq_none h1] at h; cases h
theorem AsAt.cs {w : World} {g a : Nat} (h : AsAt w g a) : w.cell? ⟨g, 0, none⟩ = some (.string (codeOf a)) ∧ w.cell? ⟨g, 1, none⟩ = some (.int .i64 (issOf a)) :=
  ⟨cell_of_row _ _ 0 _ _ (0, 0) h, cell_of_row _ _ 1 _ _ (0, 0) h⟩
theorem AsAt.below {w w' : World} {g a : Nat} (h : AsAt w g a) (hb : Below w.heap.size w w') : AsAt w' g a := (hb.block g h.lt).trans h
theorem AsAt.alloc {w : World} {g a : Nat} (h : AsAt w g a) (o : Obj) : AsAt (w.alloc o) g a := h.below (balloc (bref _) _)
theorem AsAt.new (w : World) (a : Nat) : AsAt (w.alloc (.cells #[.string (codeOf a), .int .i64 (issOf a)] 38)) w.heap.size a := heap_alloc_new _ _
theorem bgrownA {w a b : World} {sb : Nat} (h : Below w.heap.size w a) (hg : a.grownBy b (some sb)) (hs : w.heap.size ≤ sb) : Below w.heap.size w b :=
  h.grown hg h.size (fun k hk => by cases hk; exact hs)
theorem assets_math : ∀ a, a ≤ 2 → ∀ b, b ≤ 2 → ∀ c, c ≤ 2 → (lessA a b = true → lessA b a = false) ∧ (lessA a b = true → lessA b c = true → lessA a c = true) ∧ (lessA a b = false → lessA b a = false → a = b) := by
  intro a ha b hb c hc
  match a, b, c, ha, hb, hc with
  | 0, 0, 0, _, _, _ | 0, 0, 1, _, _, _ | 0, 0, 2, _, _, _
  | 0, 1, 0, _, _, _ | 0, 1, 1, _, _, _ | 0, 1, 2, _, _, _
  | 0, 2, 0, _, _, _ | 0, 2, 1, _, _, _ | 0, 2, 2, _, _, _
  | 1, 0, 0, _, _, _ | 1, 0, 1, _, _, _ | 1, 0, 2, _, _, _
  | 1, 1, 0, _, _, _ | 1, 1, 1, _, _, _ | 1, 1, 2, _, _, _
  | 1, 2, 0, _, _, _ | 1, 2, 1, _, _, _ | 1, 2, 2, _, _, _
  | 2, 0, 0, _, _, _ | 2, 0, 1, _, _, _ | 2, 0, 2, _, _, _
  | 2, 1, 0, _, _, _ | 2, 1, 1, _, _, _ | 2, 1, 2, _, _, _
  | 2, 2, 0, _, _, _ | 2, 2, 1, _, _, _ | 2, 2, 2, _, _, _ => decide
theorem keepB0 {w W w1 : World} {g : Nat} (h : W.cell? ⟨g, 0, none⟩ = some (.string ⟨#[]⟩) ∧ W.cell? ⟨g, 1, none⟩ = some (.int .i64 0) ∧ AsAt W g 0 ∧ Below w.heap.size w W) (hb : Below W.heap.size W w1) : w1.cell? ⟨g, 0, none⟩ = some (.string ⟨#[]⟩) ∧ w1.cell? ⟨g, 1, none⟩ = some (.int .i64 0) ∧ AsAt w1 g 0 ∧ Below w.heap.size w w1 :=
  ⟨(hb.cell (cell_lt h.1)).trans h.1, (hb.cell (cell_lt h.2.1)).trans h.2.1, h.2.2.1.below hb, bstep h.2.2.2 hb⟩
theorem keepB1 {w W w1 : World} {g : Nat} (h : W.cell? ⟨g, 0, none⟩ = some (.string ⟨#[85, 83, 68]⟩) ∧ W.cell? ⟨g, 1, none⟩ = some (.int .i64 1) ∧ AsAt W g 1 ∧ Below w.heap.size w W) (hb : Below W.heap.size W w1) : w1.cell? ⟨g, 0, none⟩ = some (.string ⟨#[85, 83, 68]⟩) ∧ w1.cell? ⟨g, 1, none⟩ = some (.int .i64 1) ∧ AsAt w1 g 1 ∧ Below w.heap.size w w1 :=
  ⟨(hb.cell (cell_lt h.1)).trans h.1, (hb.cell (cell_lt h.2.1)).trans h.2.1, h.2.2.1.below hb, bstep h.2.2.2 hb⟩
theorem keepB2 {w W w1 : World} {g : Nat} (h : W.cell? ⟨g, 0, none⟩ = some (.string ⟨#[69, 85, 82]⟩) ∧ W.cell? ⟨g, 1, none⟩ = some (.int .i64 2) ∧ AsAt W g 2 ∧ Below w.heap.size w W) (hb : Below W.heap.size W w1) : w1.cell? ⟨g, 0, none⟩ = some (.string ⟨#[69, 85, 82]⟩) ∧ w1.cell? ⟨g, 1, none⟩ = some (.int .i64 2) ∧ AsAt w1 g 2 ∧ Below w.heap.size w w1 :=
  ⟨(hb.cell (cell_lt h.1)).trans h.1, (hb.cell (cell_lt h.2.1)).trans h.2.1, h.2.2.1.below hb, bstep h.2.2.2 hb⟩

set_option maxRecDepth 100000 in
set_option maxHeartbeats 4000000 in
theorem walkAmountAssets (a0 : Option Addr) (len0 cap0 : Nat) (z0 : List Int) (w : World) (w0 : IsRow .i64 w a0 len0 cap0 z0) :
    Calls Try.prog 6 #[.slice a0 len0 cap0] w fun e w' => e = .returned (.bool true) ∧ Below w.heap.size w w' := by
  have HR := Lib.hid w0
  clear w0
  go_enter Try.func6, Try.ntmps6
  go_wp2_with fail
  refine (New_run _ _ _ _ _ HR.out).mono ?_
  rintro e v0 ⟨rfl, hs0, hb0⟩
  have HS0 := Lib.hid hs0
  clear hs0
  go_wp2_with fail
  refine (Asset_run _ _ HS0.out).mono ?_
  rintro e v1 ⟨a, ha, rfl, hs1, hg1⟩
  have HB1 := Lib.hid (bgrownA hb0 hg1 (Nat.le_refl _))
  have HS1 := Lib.hid hs1
  clear hs1 hg1 hb0
  go_wp2_with fail
  refine (Asset_run _ _ HS1.out).mono ?_
  rintro e v2 ⟨b, hb, rfl, hs2, hg2⟩
  have HB2 := Lib.hid (bgrownA HB1.out hg2 (Nat.le_refl _))
  have HS2 := Lib.hid hs2
  clear hs2 hg2 HB1
  go_wp2_with fail
  refine (Asset_run _ _ HS2.out).mono ?_
  rintro e v3 ⟨c, hc, rfl, hs3, hg3⟩
  have HB3 := Lib.hid (bgrownA HB2.out hg3 (Nat.le_refl _))
  clear hs3 hg3 HB2
  go_upto_region 3 with fail
  have hP : AsAt (((v3.alloc (.cells #[.string (codeOf a), .int .i64 (issOf a)] 38)).alloc (.cells #[.string (codeOf b), .int .i64 (issOf b)] 38)).alloc (.cells #[.string (codeOf c), .int .i64 (issOf c)] 38)) v3.heap.size a := ((AsAt.new _ _).alloc _).alloc _
  have hQ : AsAt (((v3.alloc (.cells #[.string (codeOf a), .int .i64 (issOf a)] 38)).alloc (.cells #[.string (codeOf b), .int .i64 (issOf b)] 38)).alloc (.cells #[.string (codeOf c), .int .i64 (issOf c)] 38)) (v3.heap.size + 1) b := by
    have := (AsAt.new (v3.alloc (.cells #[.string (codeOf a), .int .i64 (issOf a)] 38)) b).alloc (.cells #[.string (codeOf c), .int .i64 (issOf c)] 38)
    simpa using this
  have hR : AsAt (((v3.alloc (.cells #[.string (codeOf a), .int .i64 (issOf a)] 38)).alloc (.cells #[.string (codeOf b), .int .i64 (issOf b)] 38)).alloc (.cells #[.string (codeOf c), .int .i64 (issOf c)] 38)) (v3.heap.size + 1 + 1) c := by
    have := AsAt.new ((v3.alloc (.cells #[.string (codeOf a), .int .i64 (issOf a)] 38)).alloc (.cells #[.string (codeOf b), .int .i64 (issOf b)] 38)) c
    simpa using this
  have HB4 := Lib.hid (balloc (balloc (balloc HB3.out (.cells #[.string (codeOf a), .int .i64 (issOf a)] 38)) (.cells #[.string (codeOf b), .int .i64 (issOf b)] 38)) (.cells #[.string (codeOf c), .int .i64 (issOf c)] 38))
  generalize ((v3.alloc (.cells #[.string (codeOf a), .int .i64 (issOf a)] 38)).alloc (.cells #[.string (codeOf b), .int .i64 (issOf b)] 38)).alloc (.cells #[.string (codeOf c), .int .i64 (issOf c)] 38) = W4 at *
  generalize v3.heap.size = g at *
  have hP4 := Lib.hid hP
  have hQ4 := Lib.hid hQ
  have hR4 := Lib.hid hR
  obtain ⟨lP4, mP4⟩ := hP.cs
  obtain ⟨lQ4, mQ4⟩ := hQ.cs
  obtain ⟨lR4, mR4⟩ := hR.cs
  clear hP hQ hR
  obtain ⟨z1, z2, z3⟩ := assets_math a ha b hb c hc
  go_cut [55] (fun s W => s = .bool false ∧ Hid (AsAt W g a) ∧ Hid (AsAt W (g + 1) b) ∧ Hid (AsAt W (g + 1 + 1) c) ∧ Hid (Below w.heap.size w W))
  case first =>
    cases y0 : lessA a b
    · cases y1 : lessA b a
      · obtain rfl : a = b := z3 y0 y1
        go_wp2_with fail
        refine (lessA_run _ _ _ (by omega) (by omega)).mono ?_
        rintro e V5 ⟨rfl, hb5⟩
        have HB5 := Lib.hid (bstep HB4.out hb5)
        have hP5 := Lib.hid (hP4.out.below hb5)
        obtain ⟨lP5, mP5⟩ := hP5.out.cs
        have hQ5 := Lib.hid (hQ4.out.below hb5)
        obtain ⟨lQ5, mQ5⟩ := hQ5.out.cs
        have hR5 := Lib.hid (hR4.out.below hb5)
        obtain ⟨lR5, mR5⟩ := hR5.out.cs
        clear hb5
        rw [y0]
        go_wp2_with fail
        refine (lessA_run _ _ _ (by omega) (by omega)).mono ?_
        rintro e V6 ⟨rfl, hb6⟩
        have HB6 := Lib.hid (bstep HB5.out hb6)
        have hP6 := Lib.hid (hP5.out.below hb6)
        obtain ⟨lP6, mP6⟩ := hP6.out.cs
        have hQ6 := Lib.hid (hQ5.out.below hb6)
        obtain ⟨lQ6, mQ6⟩ := hQ6.out.cs
        have hR6 := Lib.hid (hR5.out.below hb6)
        obtain ⟨lR6, mR6⟩ := hR6.out.cs
        clear hb6
        rw [y0]
        go_wp2_with fail
        refine (lessA_run _ _ _ (by omega) (by omega)).mono ?_
        rintro e V7 ⟨rfl, hb7⟩
        have HB7 := Lib.hid (bstep HB6.out hb7)
        have hP7 := Lib.hid (hP6.out.below hb7)
        obtain ⟨lP7, mP7⟩ := hP7.out.cs
        have hQ7 := Lib.hid (hQ6.out.below hb7)
        obtain ⟨lQ7, mQ7⟩ := hQ7.out.cs
        have hR7 := Lib.hid (hR6.out.below hb7)
        obtain ⟨lR7, mR7⟩ := hR7.out.cs
        clear hb7
        rw [y0]
        go_wp2_with fail
        refine (lessA_run _ _ _ (by omega) (by omega)).mono ?_
        rintro e V8 ⟨rfl, hb8⟩
        have HB8 := Lib.hid (bstep HB7.out hb8)
        have hP8 := Lib.hid (hP7.out.below hb8)
        obtain ⟨lP8, mP8⟩ := hP8.out.cs
        have hQ8 := Lib.hid (hQ7.out.below hb8)
        obtain ⟨lQ8, mQ8⟩ := hQ8.out.cs
        have hR8 := Lib.hid (hR7.out.below hb8)
        obtain ⟨lR8, mR8⟩ := hR8.out.cs
        clear hb8
        rw [y0]
        go_wp2_with fail
        go_meet
        exact ⟨rfl, hP8, hQ8, hR8, HB8⟩
      · go_wp2_with fail
        refine (lessA_run _ _ _ (by omega) (by omega)).mono ?_
        rintro e V5 ⟨rfl, hb5⟩
        have HB5 := Lib.hid (bstep HB4.out hb5)
        have hP5 := Lib.hid (hP4.out.below hb5)
        obtain ⟨lP5, mP5⟩ := hP5.out.cs
        have hQ5 := Lib.hid (hQ4.out.below hb5)
        obtain ⟨lQ5, mQ5⟩ := hQ5.out.cs
        have hR5 := Lib.hid (hR4.out.below hb5)
        obtain ⟨lR5, mR5⟩ := hR5.out.cs
        clear hb5
        rw [y0]
        go_wp2_with fail
        refine (lessA_run _ _ _ (by omega) (by omega)).mono ?_
        rintro e V6 ⟨rfl, hb6⟩
        have HB6 := Lib.hid (bstep HB5.out hb6)
        have hP6 := Lib.hid (hP5.out.below hb6)
        obtain ⟨lP6, mP6⟩ := hP6.out.cs
        have hQ6 := Lib.hid (hQ5.out.below hb6)
        obtain ⟨lQ6, mQ6⟩ := hQ6.out.cs
        have hR6 := Lib.hid (hR5.out.below hb6)
        obtain ⟨lR6, mR6⟩ := hR6.out.cs
        clear hb6
        rw [y0]
        go_wp2_with fail
        refine (lessA_run _ _ _ (by omega) (by omega)).mono ?_
        rintro e V7 ⟨rfl, hb7⟩
        have HB7 := Lib.hid (bstep HB6.out hb7)
        have hP7 := Lib.hid (hP6.out.below hb7)
        obtain ⟨lP7, mP7⟩ := hP7.out.cs
        have hQ7 := Lib.hid (hQ6.out.below hb7)
        obtain ⟨lQ7, mQ7⟩ := hQ7.out.cs
        have hR7 := Lib.hid (hR6.out.below hb7)
        obtain ⟨lR7, mR7⟩ := hR7.out.cs
        clear hb7
        rw [y0]
        go_wp2_with fail
        refine (lessA_run _ _ _ (by omega) (by omega)).mono ?_
        rintro e V8 ⟨rfl, hb8⟩
        have HB8 := Lib.hid (bstep HB7.out hb8)
        have hP8 := Lib.hid (hP7.out.below hb8)
        obtain ⟨lP8, mP8⟩ := hP8.out.cs
        have hQ8 := Lib.hid (hQ7.out.below hb8)
        obtain ⟨lQ8, mQ8⟩ := hQ8.out.cs
        have hR8 := Lib.hid (hR7.out.below hb8)
        obtain ⟨lR8, mR8⟩ := hR8.out.cs
        clear hb8
        rw [y1]
        go_wp2_with fail
        go_meet
        exact ⟨rfl, hP8, hQ8, hR8, HB8⟩
    · have y1 := z1 y0
      cases y2 : lessA b c
      · go_wp2_with fail
        refine (lessA_run _ _ _ (by omega) (by omega)).mono ?_
        rintro e V5 ⟨rfl, hb5⟩
        have HB5 := Lib.hid (bstep HB4.out hb5)
        have hP5 := Lib.hid (hP4.out.below hb5)
        obtain ⟨lP5, mP5⟩ := hP5.out.cs
        have hQ5 := Lib.hid (hQ4.out.below hb5)
        obtain ⟨lQ5, mQ5⟩ := hQ5.out.cs
        have hR5 := Lib.hid (hR4.out.below hb5)
        obtain ⟨lR5, mR5⟩ := hR5.out.cs
        clear hb5
        rw [y0]
        go_wp2_with fail
        refine (lessA_run _ _ _ (by omega) (by omega)).mono ?_
        rintro e V6 ⟨rfl, hb6⟩
        have HB6 := Lib.hid (bstep HB5.out hb6)
        have hP6 := Lib.hid (hP5.out.below hb6)
        obtain ⟨lP6, mP6⟩ := hP6.out.cs
        have hQ6 := Lib.hid (hQ5.out.below hb6)
        obtain ⟨lQ6, mQ6⟩ := hQ6.out.cs
        have hR6 := Lib.hid (hR5.out.below hb6)
        obtain ⟨lR6, mR6⟩ := hR6.out.cs
        clear hb6
        rw [y1]
        go_wp2_with fail
        refine (lessA_run _ _ _ (by omega) (by omega)).mono ?_
        rintro e V7 ⟨rfl, hb7⟩
        have HB7 := Lib.hid (bstep HB6.out hb7)
        have hP7 := Lib.hid (hP6.out.below hb7)
        obtain ⟨lP7, mP7⟩ := hP7.out.cs
        have hQ7 := Lib.hid (hQ6.out.below hb7)
        obtain ⟨lQ7, mQ7⟩ := hQ7.out.cs
        have hR7 := Lib.hid (hR6.out.below hb7)
        obtain ⟨lR7, mR7⟩ := hR7.out.cs
        clear hb7
        rw [y0]
        go_wp2_with fail
        refine (lessA_run _ _ _ (by omega) (by omega)).mono ?_
        rintro e V8 ⟨rfl, hb8⟩
        have HB8 := Lib.hid (bstep HB7.out hb8)
        have hP8 := Lib.hid (hP7.out.below hb8)
        obtain ⟨lP8, mP8⟩ := hP8.out.cs
        have hQ8 := Lib.hid (hQ7.out.below hb8)
        obtain ⟨lQ8, mQ8⟩ := hQ8.out.cs
        have hR8 := Lib.hid (hR7.out.below hb8)
        obtain ⟨lR8, mR8⟩ := hR8.out.cs
        clear hb8
        rw [y2]
        go_wp2_with fail
        refine (lessA_run _ _ _ (by omega) (by omega)).mono ?_
        rintro e V9 ⟨rfl, hb9⟩
        have HB9 := Lib.hid (bstep HB8.out hb9)
        have hP9 := Lib.hid (hP8.out.below hb9)
        obtain ⟨lP9, mP9⟩ := hP9.out.cs
        have hQ9 := Lib.hid (hQ8.out.below hb9)
        obtain ⟨lQ9, mQ9⟩ := hQ9.out.cs
        have hR9 := Lib.hid (hR8.out.below hb9)
        obtain ⟨lR9, mR9⟩ := hR9.out.cs
        clear hb9
        rw [y0]
        go_wp2_with fail
        go_meet
        exact ⟨rfl, hP9, hQ9, hR9, HB9⟩
      · have y3 := z2 y0 y2
        go_wp2_with fail
        refine (lessA_run _ _ _ (by omega) (by omega)).mono ?_
        rintro e V5 ⟨rfl, hb5⟩
        have HB5 := Lib.hid (bstep HB4.out hb5)
        have hP5 := Lib.hid (hP4.out.below hb5)
        obtain ⟨lP5, mP5⟩ := hP5.out.cs
        have hQ5 := Lib.hid (hQ4.out.below hb5)
        obtain ⟨lQ5, mQ5⟩ := hQ5.out.cs
        have hR5 := Lib.hid (hR4.out.below hb5)
        obtain ⟨lR5, mR5⟩ := hR5.out.cs
        clear hb5
        rw [y0]
        go_wp2_with fail
        refine (lessA_run _ _ _ (by omega) (by omega)).mono ?_
        rintro e V6 ⟨rfl, hb6⟩
        have HB6 := Lib.hid (bstep HB5.out hb6)
        have hP6 := Lib.hid (hP5.out.below hb6)
        obtain ⟨lP6, mP6⟩ := hP6.out.cs
        have hQ6 := Lib.hid (hQ5.out.below hb6)
        obtain ⟨lQ6, mQ6⟩ := hQ6.out.cs
        have hR6 := Lib.hid (hR5.out.below hb6)
        obtain ⟨lR6, mR6⟩ := hR6.out.cs
        clear hb6
        rw [y1]
        go_wp2_with fail
        refine (lessA_run _ _ _ (by omega) (by omega)).mono ?_
        rintro e V7 ⟨rfl, hb7⟩
        have HB7 := Lib.hid (bstep HB6.out hb7)
        have hP7 := Lib.hid (hP6.out.below hb7)
        obtain ⟨lP7, mP7⟩ := hP7.out.cs
        have hQ7 := Lib.hid (hQ6.out.below hb7)
        obtain ⟨lQ7, mQ7⟩ := hQ7.out.cs
        have hR7 := Lib.hid (hR6.out.below hb7)
        obtain ⟨lR7, mR7⟩ := hR7.out.cs
        clear hb7
        rw [y0]
        go_wp2_with fail
        refine (lessA_run _ _ _ (by omega) (by omega)).mono ?_
        rintro e V8 ⟨rfl, hb8⟩
        have HB8 := Lib.hid (bstep HB7.out hb8)
        have hP8 := Lib.hid (hP7.out.below hb8)
        obtain ⟨lP8, mP8⟩ := hP8.out.cs
        have hQ8 := Lib.hid (hQ7.out.below hb8)
        obtain ⟨lQ8, mQ8⟩ := hQ8.out.cs
        have hR8 := Lib.hid (hR7.out.below hb8)
        obtain ⟨lR8, mR8⟩ := hR8.out.cs
        clear hb8
        rw [y2]
        go_wp2_with fail
        refine (lessA_run _ _ _ (by omega) (by omega)).mono ?_
        rintro e V9 ⟨rfl, hb9⟩
        have HB9 := Lib.hid (bstep HB8.out hb9)
        have hP9 := Lib.hid (hP8.out.below hb9)
        obtain ⟨lP9, mP9⟩ := hP9.out.cs
        have hQ9 := Lib.hid (hQ8.out.below hb9)
        obtain ⟨lQ9, mQ9⟩ := hQ9.out.cs
        have hR9 := Lib.hid (hR8.out.below hb9)
        obtain ⟨lR9, mR9⟩ := hR9.out.cs
        clear hb9
        rw [y3]
        go_wp2_with fail
        refine (lessA_run _ _ _ (by omega) (by omega)).mono ?_
        rintro e V10 ⟨rfl, hb10⟩
        have HB10 := Lib.hid (bstep HB9.out hb10)
        have hP10 := Lib.hid (hP9.out.below hb10)
        obtain ⟨lP10, mP10⟩ := hP10.out.cs
        have hQ10 := Lib.hid (hQ9.out.below hb10)
        obtain ⟨lQ10, mQ10⟩ := hQ10.out.cs
        have hR10 := Lib.hid (hR9.out.below hb10)
        obtain ⟨lR10, mR10⟩ := hR10.out.cs
        clear hb10
        rw [y0]
        go_wp2_with fail
        go_meet
        exact ⟨rfl, hP10, hQ10, hR10, HB10⟩
  case rest =>
    obtain ⟨rfl, hP6, hQ6, hR6, HB6⟩ := hcut
    clear z1 z2 z3 lP4 mP4 lQ4 mQ4 lR4 mR4 hP4 hQ4 hR4 HB4
    go_upto_region 5 with fail
    match a, ha with
    | 0, _ =>
      have y9 : lessA 0 0 = false := by decide
      obtain ⟨lP6, mP6⟩ := hP6.out.cs
      have hS6 := Lib.hid (show wc.drew.cell? ⟨g, 0, none⟩ = some (.string ⟨#[]⟩) ∧ wc.drew.cell? ⟨g, 1, none⟩ = some (.int .i64 0) ∧ AsAt wc.drew g 0 ∧ Below w.heap.size w wc.drew from ⟨lP6, mP6, hP6.out, bdrew HB6.out⟩)
      clear hP6 lP6 mP6
      go_region_held3 (fun W => W.cell? ⟨g, 0, none⟩ = some (.string ⟨#[]⟩) ∧ W.cell? ⟨g, 1, none⟩ = some (.int .i64 0) ∧ AsAt W g 0 ∧ Below w.heap.size w W) (first | exact hS6.out | exact keepB0 (by assumption) hbK | go_keep)
        (first
          | (go_at_call_of 24 (Value.agg #[.string ⟨#[]⟩, .int .i64 0]); refine (asset_zero _).mono ?_; rintro e WK ⟨rfl, hbK⟩)
          | (go_at_call_of 24 (Value.agg #[.string ⟨#[88, 65, 85]⟩, .int .i64 9]); refine (asset_xau _).mono ?_; rintro e WK ⟨rfl, hbK⟩)
          | (go_at_call_of 24 (Value.agg #[.string ⟨#[88, 65, 85]⟩, .int .i64 0]); refine (asset_xau0 _).mono ?_; rintro e WK ⟨rfl, hbK⟩)
          | (go_at_call 23; refine (lessA_run 0 0 _ (by omega) (by omega)).mono ?_; rintro e WK ⟨rfl, hbK⟩; rw [y9])
          | (go_at_call 25; refine (native_zero _).mono ?_; rintro e WK ⟨rfl, hbK⟩)
          | (go_at_call 16; refine (sane_ok _).mono ?_; rintro e WK ⟨rfl, hbK⟩))
      all_goals
        have hF : WK.cell? ⟨g, 0, none⟩ = some (.string ⟨#[]⟩) ∧ WK.cell? ⟨g, 1, none⟩ = some (.int .i64 0) ∧ AsAt WK g 0 ∧ Below w.heap.size w WK := by assumption
        go_wp2_with fail
        go_ret
        exact ⟨rfl, hF.2.2.2⟩
    | 1, _ =>
      have y9 : lessA 1 0 = false := by decide
      obtain ⟨lP6, mP6⟩ := hP6.out.cs
      have hS6 := Lib.hid (show wc.drew.cell? ⟨g, 0, none⟩ = some (.string ⟨#[85, 83, 68]⟩) ∧ wc.drew.cell? ⟨g, 1, none⟩ = some (.int .i64 1) ∧ AsAt wc.drew g 1 ∧ Below w.heap.size w wc.drew from ⟨lP6, mP6, hP6.out, bdrew HB6.out⟩)
      clear hP6 lP6 mP6
      go_region_held3 (fun W => W.cell? ⟨g, 0, none⟩ = some (.string ⟨#[85, 83, 68]⟩) ∧ W.cell? ⟨g, 1, none⟩ = some (.int .i64 1) ∧ AsAt W g 1 ∧ Below w.heap.size w W) (first | exact hS6.out | exact keepB1 (by assumption) hbK | go_keep)
        (first
          | (go_at_call_of 24 (Value.agg #[.string ⟨#[85, 83, 68]⟩, .int .i64 1]); refine (asset_usd _).mono ?_; rintro e WK ⟨rfl, hbK⟩)
          | (go_at_call_of 24 (Value.agg #[.string ⟨#[88, 65, 85]⟩, .int .i64 9]); refine (asset_xau _).mono ?_; rintro e WK ⟨rfl, hbK⟩)
          | (go_at_call_of 24 (Value.agg #[.string ⟨#[88, 65, 85]⟩, .int .i64 0]); refine (asset_xau0 _).mono ?_; rintro e WK ⟨rfl, hbK⟩)
          | (go_at_call 23; refine (lessA_run 1 0 _ (by omega) (by omega)).mono ?_; rintro e WK ⟨rfl, hbK⟩; rw [y9])
          | (go_at_call 25; refine (native_usd _).mono ?_; rintro e WK ⟨rfl, hbK⟩)
          | (go_at_call 16; refine (sane_ok _).mono ?_; rintro e WK ⟨rfl, hbK⟩))
      all_goals
        have hF : WK.cell? ⟨g, 0, none⟩ = some (.string ⟨#[85, 83, 68]⟩) ∧ WK.cell? ⟨g, 1, none⟩ = some (.int .i64 1) ∧ AsAt WK g 1 ∧ Below w.heap.size w WK := by assumption
        go_wp2_with fail
        go_ret
        exact ⟨rfl, hF.2.2.2⟩
    | 2, _ =>
      have y9 : lessA 2 0 = false := by decide
      obtain ⟨lP6, mP6⟩ := hP6.out.cs
      have hS6 := Lib.hid (show wc.drew.cell? ⟨g, 0, none⟩ = some (.string ⟨#[69, 85, 82]⟩) ∧ wc.drew.cell? ⟨g, 1, none⟩ = some (.int .i64 2) ∧ AsAt wc.drew g 2 ∧ Below w.heap.size w wc.drew from ⟨lP6, mP6, hP6.out, bdrew HB6.out⟩)
      clear hP6 lP6 mP6
      go_region_held3 (fun W => W.cell? ⟨g, 0, none⟩ = some (.string ⟨#[69, 85, 82]⟩) ∧ W.cell? ⟨g, 1, none⟩ = some (.int .i64 2) ∧ AsAt W g 2 ∧ Below w.heap.size w W) (first | exact hS6.out | exact keepB2 (by assumption) hbK | go_keep)
        (first
          | (go_at_call_of 24 (Value.agg #[.string ⟨#[69, 85, 82]⟩, .int .i64 2]); refine (asset_eur _).mono ?_; rintro e WK ⟨rfl, hbK⟩)
          | (go_at_call_of 24 (Value.agg #[.string ⟨#[88, 65, 85]⟩, .int .i64 9]); refine (asset_xau _).mono ?_; rintro e WK ⟨rfl, hbK⟩)
          | (go_at_call_of 24 (Value.agg #[.string ⟨#[88, 65, 85]⟩, .int .i64 0]); refine (asset_xau0 _).mono ?_; rintro e WK ⟨rfl, hbK⟩)
          | (go_at_call 23; refine (lessA_run 2 0 _ (by omega) (by omega)).mono ?_; rintro e WK ⟨rfl, hbK⟩; rw [y9])
          | (go_at_call 25; refine (native_eur _).mono ?_; rintro e WK ⟨rfl, hbK⟩)
          | (go_at_call 16; refine (sane_ok _).mono ?_; rintro e WK ⟨rfl, hbK⟩))
      all_goals
        have hF : WK.cell? ⟨g, 0, none⟩ = some (.string ⟨#[69, 85, 82]⟩) ∧ WK.cell? ⟨g, 1, none⟩ = some (.int .i64 2) ∧ AsAt WK g 2 ∧ Below w.heap.size w WK := by assumption
        go_wp2_with fail
        go_ret
        exact ⟨rfl, hF.2.2.2⟩
end Go.Proofs.Ytolodegbilagbaa
