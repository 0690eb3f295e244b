/- Package trustlines: change. -/
import Derived.Test.YtfmdnhhdjjndbaaT37h
import Derived.Test.YtfmdnhhdjjndbaaA36c
namespace Go.Proofs.Ytfmdnhhdjjndbaa
set_option linter.unusedVariables false
set_option linter.unusedSimpArgs false
open Go.RowKit

set_option maxRecDepth 100000 in
set_option maxHeartbeats 8000000 in
theorem change_native (P : Nat → Prop) (g : Led) (i n : Int) (s : Nat) (va vl vo : Value) (w : World) (hs : s ≤ 2) (hn0 : 0 ≤ n) (hn1 : n ≤ 1000000000000) (hok : LedW g) (hhas : hasA i g.accs = true) (GN : Nat) (er : Acc → Int) (up : Acc → Acc) (f2 : Value) (hs0 : s = 0) (eg : ∀ args w, (callFunc GN args).run Try.prog w = .ok (.enter GN args) w) (hnat : ∀ W, Below w.heap.size w W → AccAt P W va g.accs → Calls Try.prog GN #[va, .int .i64 i, .int .i64 n] W fun e w' => ∃ v', e = .returned (.tuple #[v', .int .i64 (er (getA i g.accs))]) ∧ ChgOk W w' (er (getA i g.accs)) v' (g.accs.set (findA i g.accs) (up (getA i g.accs)))) (g' : Led) (hg0 : er (getA i g.accs) = 0 → g' = { g with accs := g.accs.set (findA i g.accs) (up (getA i g.accs)) }) (hg1 : er (getA i g.accs) ≠ 0 → g' = zeroG) (h : LedAt P w va vl vo g) :
    Calls Try.prog 52 #[valG g va vl vo, .int .i64 i, valS s, .int .i64 n, .func (.func GN) #[] #[], f2] w fun e w' => ∃ va' vl' vo', e = .returned (.tuple #[valG g' va' vl' vo', .int .i64 (er (getA i g.accs))]) ∧ LedAt (fun b => w.heap.size ≤ b) w' va' vl' vo' g' ∧ Below w.heap.size w w' := by
  obtain ⟨A, c, B, c2, C, c3, rfl, rfl, rfl, hc, hm, hc2, hm2, hc3, hm3⟩ := h.form
  have HLN := Lib.hid (And.intro hok.accs.len (And.intro hok.lines.len hok.olen))
  have HCK := Lib.hid (fun W (hW : LedAt P W (.slice A g.accs.length c) (.slice B g.lines.length c2) (.slice C g.offers.length c3) g) => tcheck_run P P g.accs g.lines _ _ W hok.accs hok.lines hW.l hW.a)
  have HAS := Lib.hid (fun W => tasset_run s W hs)
  have HNA := Lib.hid (fun W => tnative_run s W hs)
  have HF := Lib.hid (fun W (hW : LedAt P W (.slice A g.accs.length c) (.slice B g.lines.length c2) (.slice C g.offers.length c3) g) => afind_run P g.accs i _ W (show g.accs.length ≤ 1000 by have := HLN.out.1; omega) hW.a)
  have HDL := Lib.hid (fun W (hW : LedAt P W (.slice A g.accs.length c) (.slice B g.lines.length c2) (.slice C g.offers.length c3) g) => dledger_run P g _ _ _ W hok hW)
  have HVN := Lib.hid (okI_yes hn0 hn1)
  obtain ⟨x0, x2, hx⟩ := valA_form (getA i g.accs)
  have HXV := Lib.hid hx
  obtain ⟨BL, hBL⟩ : ∃ b, (getA i g.accs).bal = b := ⟨_, rfl⟩
  rw [hBL] at HXV
  have HH := Lib.hid hhas
  have HOK := Lib.hid hok
  unfold valG at HDL ⊢
  unfold valS at *
  have hb0 := balloc (balloc (balloc (bref w) (.cells #[.int .i64 g.number, .slice A g.accs.length c, .slice B g.lines.length c2, .slice C g.offers.length c3, .int .i64 g.next, .int .i64 g.fees, .int .u64 g.link] 30)) (.cells #[.string (codeOf s), .int .i64 (issOf s)] 49)) (.cells #[.int .i64 0, .slice none 0 0, .slice none 0 0, .slice none 0 0, .int .i64 0, .int .i64 0, .int .u64 0] 30)
  have HX0 := Lib.hid (box3a w (.cells #[.int .i64 g.number, .slice A g.accs.length c, .slice B g.lines.length c2, .slice C g.offers.length c3, .int .i64 g.next, .int .i64 g.fees, .int .u64 g.link] 30) (.cells #[.string (codeOf s), .int .i64 (issOf s)] 49) (.cells #[.int .i64 0, .slice none 0 0, .slice none 0 0, .slice none 0 0, .int .i64 0, .int .i64 0, .int .u64 0] 30)).1
  have HS0 := Lib.hid (box3a w (.cells #[.int .i64 g.number, .slice A g.accs.length c, .slice B g.lines.length c2, .slice C g.offers.length c3, .int .i64 g.next, .int .i64 g.fees, .int .u64 g.link] 30) (.cells #[.string (codeOf s), .int .i64 (issOf s)] 49) (.cells #[.int .i64 0, .slice none 0 0, .slice none 0 0, .slice none 0 0, .int .i64 0, .int .i64 0, .int .u64 0] 30)).2.1
  have HZ0 := Lib.hid (box3a w (.cells #[.int .i64 g.number, .slice A g.accs.length c, .slice B g.lines.length c2, .slice C g.offers.length c3, .int .i64 g.next, .int .i64 g.fees, .int .u64 g.link] 30) (.cells #[.string (codeOf s), .int .i64 (issOf s)] 49) (.cells #[.int .i64 0, .slice none 0 0, .slice none 0 0, .slice none 0 0, .int .i64 0, .int .i64 0, .int .u64 0] 30)).2.2
  have HL0 := Lib.hid (h.below hb0)
  have HB0 := Lib.hid hb0
  clear hx hBL hhas hb0 h
  have HZZ := Lib.hid (show (s == 0) = true by rw [hs0]; rfl)
  have HG0 := Lib.hid hg0
  have HG1 := Lib.hid hg1
  clear hs0 hg0 hg1
  have HNV := Lib.hid hnat
  generalize g.accs.set (findA i g.accs) (up (getA i g.accs)) = L' at *
  generalize er (getA i g.accs) = E at *
  clear hok hnat
  go_enter Try.func52, Try.ntmps52
  go_upto_region 1 with fail
  generalize ((w.alloc (.cells #[.int .i64 g.number, .slice A g.accs.length c, .slice B g.lines.length c2, .slice C g.offers.length c3, .int .i64 g.next, .int .i64 g.fees, .int .u64 g.link] 30)).alloc (.cells #[.string (codeOf s), .int .i64 (issOf s)] 49)).alloc (.cells #[.int .i64 0, .slice none 0 0, .slice none 0 0, .slice none 0 0, .int .i64 0, .int .i64 0, .int .u64 0] 30) = W0 at *
  obtain ⟨x_0, x_1, x_2, x_3, x_4, x_5, x_6, _⟩ := HX0.out.cs7
  obtain ⟨s_0, s_1, _⟩ := HS0.out.cs2
  go_wp2_with fail
  refine (HCK.out _ HL0.out).mono ?_
  rintro e w1 ⟨rfl, hb1⟩
  have HX1 := Lib.hid (HX0.out.below hb1)
  have HS1 := Lib.hid (HS0.out.below hb1)
  have HZ1 := Lib.hid (HZ0.out.below hb1)
  have HL1 := Lib.hid (HL0.out.below hb1)
  have HB1 := Lib.hid (bstep HB0.out hb1)
  clear x_0 x_1 x_2 x_3 x_4 x_5 x_6 s_0 s_1
  clear hb1
  obtain ⟨x_0, x_1, x_2, x_3, x_4, x_5, x_6, _⟩ := HX1.out.cs7
  obtain ⟨s_0, s_1, _⟩ := HS1.out.cs2
  go_wp2_with fail
  refine (HAS.out _).mono ?_
  rintro e w2 ⟨rfl, hb2⟩
  have HX2 := Lib.hid (HX1.out.below hb2)
  have HS2 := Lib.hid (HS1.out.below hb2)
  have HZ2 := Lib.hid (HZ1.out.below hb2)
  have HL2 := Lib.hid (HL1.out.below hb2)
  have HB2 := Lib.hid (bstep HB1.out hb2)
  clear x_0 x_1 x_2 x_3 x_4 x_5 x_6 s_0 s_1
  clear hb2
  obtain ⟨x_0, x_1, x_2, x_3, x_4, x_5, x_6, _⟩ := HX2.out.cs7
  obtain ⟨s_0, s_1, _⟩ := HS2.out.cs2
  go_wp2_with fail
  refine (HF.out _ HL2.out).mono ?_
  rintro e w3 ⟨rfl, hb3⟩
  have HX3 := Lib.hid (HX2.out.below hb3)
  have HS3 := Lib.hid (HS2.out.below hb3)
  have HZ3 := Lib.hid (HZ2.out.below hb3)
  have HL3 := Lib.hid (HL2.out.below hb3)
  have HB3 := Lib.hid (bstep HB2.out hb3)
  clear x_0 x_1 x_2 x_3 x_4 x_5 x_6 s_0 s_1
  clear hb3
  rw [HXV.out, HH.out]
  have HX4 := Lib.hid (HX3.out.alloc (.cells #[.int .i64 x0, .int .i64 BL, .int .i64 x2] 34))
  have HS4 := Lib.hid (HS3.out.alloc (.cells #[.int .i64 x0, .int .i64 BL, .int .i64 x2] 34))
  have HZ4 := Lib.hid (HZ3.out.alloc (.cells #[.int .i64 x0, .int .i64 BL, .int .i64 x2] 34))
  have HL4 := Lib.hid (HL3.out.alloc (.cells #[.int .i64 x0, .int .i64 BL, .int .i64 x2] 34))
  have HB4 := Lib.hid (balloc HB3.out (.cells #[.int .i64 x0, .int .i64 BL, .int .i64 x2] 34))
  go_upto_region 6 with fail
  generalize w3.alloc (.cells #[.int .i64 x0, .int .i64 BL, .int .i64 x2] 34) = w4 at *
  obtain ⟨x_0, x_1, x_2, x_3, x_4, x_5, x_6, _⟩ := HX4.out.cs7
  obtain ⟨s_0, s_1, _⟩ := HS4.out.cs2
  go_wp2_with fail
  refine (valid_any _ _).mono ?_
  rintro e w4b ⟨rfl, rfl⟩
  rw [HVN.out]
  go_wp2_with fail
  refine (HDL.out _ HL4.out).mono ?_
  rintro e w5 ⟨va', vl', vo', m0, m1, m2, rfl, hm0, hl5, hn5, hb5⟩
  obtain ⟨A5, c5, B5, d5, C5, e5, rfl, rfl, rfl, _, _, _, _, _, _⟩ := (hl5.led (Nat.le_refl _)).form
  have HE5 := Lib.hid hl5
  have HN5 := Lib.hid hn5
  have HX5 := Lib.hid (HX4.out.below hb5)
  have HS5 := Lib.hid (HS4.out.below hb5)
  have HZ5 := Lib.hid (HZ4.out.below hb5)
  have HL5 := Lib.hid (HL4.out.below hb5)
  have HB5 := Lib.hid (bstep HB4.out hb5)
  clear x_0 x_1 x_2 x_3 x_4 x_5 x_6 s_0 s_1
  have hz4 : w.heap.size + 2 < m0 := Nat.lt_of_lt_of_le HZ4.out.lt hm0
  have hmz : m2 ≤ w5.heap.size := hl5.h3
  have hmm : m0 ≤ m1 := hl5.h1
  have hmn : m1 ≤ m2 := hl5.h2
  clear hb5 hl5 hn5 hm0
  have HY6 := Lib.hid (show HasB w5.heap.size (.cells #[.int .i64 g.number, .slice A5 g.accs.length c5, .slice B5 g.lines.length d5, .slice C5 g.offers.length e5, .int .i64 g.next, .int .i64 g.fees, .int .u64 g.link] 30 (0, 0)) (w5.alloc (.cells #[.int .i64 g.number, .slice A5 g.accs.length c5, .slice B5 g.lines.length d5, .slice C5 g.offers.length e5, .int .i64 g.next, .int .i64 g.fees, .int .u64 g.link] 30)) from heap_alloc_new _ _)
  have HX6 := Lib.hid (HX5.out.below (balloc (bref _) (.cells #[.int .i64 g.number, .slice A5 g.accs.length c5, .slice B5 g.lines.length d5, .slice C5 g.offers.length e5, .int .i64 g.next, .int .i64 g.fees, .int .u64 g.link] 30)))
  have HS6 := Lib.hid (HS5.out.below (balloc (bref _) (.cells #[.int .i64 g.number, .slice A5 g.accs.length c5, .slice B5 g.lines.length d5, .slice C5 g.offers.length e5, .int .i64 g.next, .int .i64 g.fees, .int .u64 g.link] 30)))
  have HZ6 := Lib.hid (HZ5.out.below (balloc (bref _) (.cells #[.int .i64 g.number, .slice A5 g.accs.length c5, .slice B5 g.lines.length d5, .slice C5 g.offers.length e5, .int .i64 g.next, .int .i64 g.fees, .int .u64 g.link] 30)))
  have HL6 := Lib.hid (HL5.out.below (balloc (bref _) (.cells #[.int .i64 g.number, .slice A5 g.accs.length c5, .slice B5 g.lines.length d5, .slice C5 g.offers.length e5, .int .i64 g.next, .int .i64 g.fees, .int .u64 g.link] 30)))
  have HB6 := Lib.hid (balloc HB5.out (.cells #[.int .i64 g.number, .slice A5 g.accs.length c5, .slice B5 g.lines.length d5, .slice C5 g.offers.length e5, .int .i64 g.next, .int .i64 g.fees, .int .u64 g.link] 30))
  have HO6 := Lib.hid (show OffAt (fun b => w.heap.size + 2 < b ∧ b ≠ w5.heap.size) (w5.alloc (.cells #[.int .i64 g.number, .slice A5 g.accs.length c5, .slice B5 g.lines.length d5, .slice C5 g.offers.length e5, .int .i64 g.next, .int .i64 g.fees, .int .u64 g.link] 30)) _ g.offers from (HE5.out.o.both (Nat.le_refl _) (fun _ _ _ => rfl) (fun b hb hp => ⟨by omega, by omega⟩)).below (balloc (bref _) (.cells #[.int .i64 g.number, .slice A5 g.accs.length c5, .slice B5 g.lines.length d5, .slice C5 g.offers.length e5, .int .i64 g.next, .int .i64 g.fees, .int .u64 g.link] 30)))
  have HE6 := Lib.hid (HE5.out.below (balloc (bref _) (.cells #[.int .i64 g.number, .slice A5 g.accs.length c5, .slice B5 g.lines.length d5, .slice C5 g.offers.length e5, .int .i64 g.next, .int .i64 g.fees, .int .u64 g.link] 30)))
  have HN6 := Lib.hid (HN5.out.below (balloc (bref _) (.cells #[.int .i64 g.number, .slice A5 g.accs.length c5, .slice B5 g.lines.length d5, .slice C5 g.offers.length e5, .int .i64 g.next, .int .i64 g.fees, .int .u64 g.link] 30)))
  go_upto_region 11 with fail
  generalize hyb : w5.heap.size = yb at *
  generalize w5.alloc (.cells #[.int .i64 g.number, .slice A5 g.accs.length c5, .slice B5 g.lines.length d5, .slice C5 g.offers.length e5, .int .i64 g.next, .int .i64 g.fees, .int .u64 g.link] 30) = w6 at *
  clear hyb
  obtain ⟨s_0, s_1, _⟩ := HS6.out.cs2
  go_wp2_with fail
  refine (HNA.out _).mono ?_
  rintro e w7 ⟨rfl, hb7⟩
  have HX7 := Lib.hid (HX6.out.below hb7)
  have HS7 := Lib.hid (HS6.out.below hb7)
  have HZ7 := Lib.hid (HZ6.out.below hb7)
  have HL7 := Lib.hid (HL6.out.below hb7)
  have HB7 := Lib.hid (bstep HB6.out hb7)
  have HO7 := Lib.hid (HO6.out.below hb7)
  have HE7 := Lib.hid (HE6.out.below hb7)
  have HN7 := Lib.hid (HN6.out.below hb7)
  have HY7 := Lib.hid (HY6.out.below hb7)
  clear s_0 s_1
  clear hb7
  rw [HZZ.out]
  obtain ⟨x_0, x_1, x_2, x_3, x_4, x_5, x_6, _⟩ := HX7.out.cs7
  obtain ⟨s_0, s_1, _⟩ := HS7.out.cs2
  obtain ⟨y_0, y_1, y_2, y_3, y_4, y_5, y_6, _⟩ := HY7.out.cs7
  have yf1 := HY7.out.fr 1
  go_wp2_with fail
  refine (HNV.out _ HB7.out HL7.out.a).mono ?_
  rintro e w8 ⟨vx, rfl, hch⟩
  have HZ8 := Lib.hid (HZ7.out.below hch.bel)
  have HB8 := Lib.hid (bstep HB7.out hch.bel)
  have HE8 := Lib.hid (HE7.out.below hch.bel)
  have HY8 := Lib.hid (HY7.out.below hch.bel)
  clear x_0 x_1 x_2 x_3 x_4 x_5 x_6 s_0 s_1 y_0 y_1 y_2 y_3 y_4 y_5 y_6
  clear yf1
  have hz7 := hch.bel.size
  have hyl := HY7.out.lt
  have hzs : w.heap.size + 2 < w7.heap.size := HZ7.out.lt
  have HO8 := Lib.hid (show OffAt (fun b => w.heap.size + 2 < b ∧ b ≠ yb) w8 (.slice C5 g.offers.length e5) g.offers from (HO7.out.both (Nat.le_refl _) (fun _ _ _ => rfl) (fun b hb hp => hp)).below hch.bel)
  rcases (show E = 0 ∨ E ≠ 0 by omega) with h0 | h0
  · subst h0
    have hg := HG0.out rfl
    clear HG0 HG1
    subst hg
    have hga := hch.good rfl
    obtain ⟨X7, c7, hvx, _, _⟩ := hga.slice
    obtain ⟨n7, hn7⟩ : ∃ n, L'.length = n := ⟨_, rfl⟩
    rw [hn7] at hvx
    subst hvx
    have HGA := Lib.hid hga
    clear hga
    clear hch
    obtain ⟨y_0, y_1, y_2, y_3, y_4, y_5, y_6, _⟩ := HY8.out.cs7
    have yf1 := HY8.out.fr 1
    have HY9 := Lib.hid (show HasB yb (.cells #[.int .i64 g.number, .slice X7 n7 c7, .slice B5 g.lines.length d5, .slice C5 g.offers.length e5, .int .i64 g.next, .int .i64 g.fees, .int .u64 g.link] 30 (0, 0)) (w8.setCell ⟨yb, 1, none⟩ (.slice X7 n7 c7)) from set_obj (k := 1) HY8.out _)
    have HZ9 := Lib.hid (HZ8.out.far (p := ⟨yb, 1, none⟩) (by show yb ≠ w.heap.size + 2; omega) (.slice X7 n7 c7))
    have HB9 := Lib.hid (bset HB8.out (p := ⟨yb, 1, none⟩) (by show w.heap.size ≤ yb; omega) (.slice X7 n7 c7))
    have HL9 := Lib.hid (show LedAt (fun b => w.heap.size + 2 < b) (w8.setCell ⟨yb, 1, none⟩ (.slice X7 n7 c7)) (.slice X7 n7 c7) (.slice B5 g.lines.length d5) (.slice C5 g.offers.length e5) { g with accs := L' } from (show LedAt (fun b => w.heap.size + 2 < b ∧ b ≠ yb) w8 _ _ _ { g with accs := L' } from ⟨HGA.out.imp (fun b _ hp => by have hp2 : w7.heap.size ≤ b := hp; omega), HE8.out.l.imp (fun b _ hp => by have hp2 : m1 ≤ b ∧ b < m2 := hp; omega), HO8.out⟩).both (by simp [World.setCell]) (fun j hj hp => Below.heap_setCell _ _ _ _ (by show j ≠ yb; exact hp.2)) (fun _ _ h => h.1))
    go_upto_region 16 with fail
    clear y_0 y_1 y_2 y_3 y_4 y_5 y_6
    clear yf1
    generalize w8.setCell ⟨yb, 1, none⟩ (.slice X7 n7 c7) = w9 at *
    obtain ⟨y_0, y_1, y_2, y_3, y_4, y_5, y_6, _⟩ := HY9.out.cs7
    have HFB := Lib.hid (show HasB (w.heap.size + 2) (.cells #[.int .i64 g.number, .slice X7 n7 c7, .slice B5 g.lines.length d5, .slice C5 g.offers.length e5, .int .i64 g.next, .int .i64 g.fees, .int .u64 g.link] 30 (0, 0)) ((((((((w9).setCell ⟨w.heap.size + 2, 0, none⟩ (.int .i64 g.number)).setCell ⟨w.heap.size + 2, 1, none⟩ (.slice X7 n7 c7)).setCell ⟨w.heap.size + 2, 2, none⟩ (.slice B5 g.lines.length d5)).setCell ⟨w.heap.size + 2, 3, none⟩ (.slice C5 g.offers.length e5)).setCell ⟨w.heap.size + 2, 4, none⟩ (.int .i64 g.next)).setCell ⟨w.heap.size + 2, 5, none⟩ (.int .i64 g.fees)).setCell ⟨w.heap.size + 2, 6, none⟩ (.int .u64 g.link)) from set7 HZ9.out)
    have HFL := Lib.hid (show LedAt (fun b => w.heap.size ≤ b) ((((((((w9).setCell ⟨w.heap.size + 2, 0, none⟩ (.int .i64 g.number)).setCell ⟨w.heap.size + 2, 1, none⟩ (.slice X7 n7 c7)).setCell ⟨w.heap.size + 2, 2, none⟩ (.slice B5 g.lines.length d5)).setCell ⟨w.heap.size + 2, 3, none⟩ (.slice C5 g.offers.length e5)).setCell ⟨w.heap.size + 2, 4, none⟩ (.int .i64 g.next)).setCell ⟨w.heap.size + 2, 5, none⟩ (.int .i64 g.fees)).setCell ⟨w.heap.size + 2, 6, none⟩ (.int .u64 g.link)) (.slice X7 n7 c7) (.slice B5 g.lines.length d5) (.slice C5 g.offers.length e5) ({ g with accs := L' }) from (show LedAt (fun b => w.heap.size + 2 < b) _ (.slice X7 n7 c7) (.slice B5 g.lines.length d5) (.slice C5 g.offers.length e5) ({ g with accs := L' }) from HL9.out).both (by simp [World.setCell]) (fun j hj hp => (Below.heap_setCell _ ⟨w.heap.size + 2, 6, none⟩ (.int .u64 g.link) j (by show j ≠ w.heap.size + 2; omega)).trans ((Below.heap_setCell _ ⟨w.heap.size + 2, 5, none⟩ (.int .i64 g.fees) j (by show j ≠ w.heap.size + 2; omega)).trans ((Below.heap_setCell _ ⟨w.heap.size + 2, 4, none⟩ (.int .i64 g.next) j (by show j ≠ w.heap.size + 2; omega)).trans ((Below.heap_setCell _ ⟨w.heap.size + 2, 3, none⟩ (.slice C5 g.offers.length e5) j (by show j ≠ w.heap.size + 2; omega)).trans ((Below.heap_setCell _ ⟨w.heap.size + 2, 2, none⟩ (.slice B5 g.lines.length d5) j (by show j ≠ w.heap.size + 2; omega)).trans ((Below.heap_setCell _ ⟨w.heap.size + 2, 1, none⟩ (.slice X7 n7 c7) j (by show j ≠ w.heap.size + 2; omega)).trans ((Below.heap_setCell _ ⟨w.heap.size + 2, 0, none⟩ (.int .i64 g.number) j (by show j ≠ w.heap.size + 2; omega)).trans ((rfl : w9.heap[j]? = w9.heap[j]?))))))))) (fun _ _ h => by omega))
    have HFX := Lib.hid (bset (bset (bset (bset (bset (bset (bset (HB9.out) (p := ⟨w.heap.size + 2, 0, none⟩) (by show w.heap.size ≤ w.heap.size + 2; omega) (.int .i64 g.number)) (p := ⟨w.heap.size + 2, 1, none⟩) (by show w.heap.size ≤ w.heap.size + 2; omega) (.slice X7 n7 c7)) (p := ⟨w.heap.size + 2, 2, none⟩) (by show w.heap.size ≤ w.heap.size + 2; omega) (.slice B5 g.lines.length d5)) (p := ⟨w.heap.size + 2, 3, none⟩) (by show w.heap.size ≤ w.heap.size + 2; omega) (.slice C5 g.offers.length e5)) (p := ⟨w.heap.size + 2, 4, none⟩) (by show w.heap.size ≤ w.heap.size + 2; omega) (.int .i64 g.next)) (p := ⟨w.heap.size + 2, 5, none⟩) (by show w.heap.size ≤ w.heap.size + 2; omega) (.int .i64 g.fees)) (p := ⟨w.heap.size + 2, 6, none⟩) (by show w.heap.size ≤ w.heap.size + 2; omega) (.int .u64 g.link))
    obtain ⟨z_0, z_1, z_2, z_3, z_4, z_5, z_6, _⟩ := HZ9.out.cs7
    have zf0 := HZ9.out.fr 0
    have zf1 := HZ9.out.fr 1
    have zf2 := HZ9.out.fr 2
    have zf3 := HZ9.out.fr 3
    have zf4 := HZ9.out.fr 4
    have zf5 := HZ9.out.fr 5
    have zf6 := HZ9.out.fr 6
    have HK := Lib.hid (show ((((((((w9).setCell ⟨w.heap.size + 2, 0, none⟩ (.int .i64 g.number)).setCell ⟨w.heap.size + 2, 1, none⟩ (.slice X7 n7 c7)).setCell ⟨w.heap.size + 2, 2, none⟩ (.slice B5 g.lines.length d5)).setCell ⟨w.heap.size + 2, 3, none⟩ (.slice C5 g.offers.length e5)).setCell ⟨w.heap.size + 2, 4, none⟩ (.int .i64 g.next)).setCell ⟨w.heap.size + 2, 5, none⟩ (.int .i64 g.fees)).setCell ⟨w.heap.size + 2, 6, none⟩ (.int .u64 g.link)).heap[w.heap.size + 2]? = some (.cells #[.int .i64 g.number, .slice X7 n7 c7, .slice B5 g.lines.length d5, .slice C5 g.offers.length e5, .int .i64 g.next, .int .i64 g.fees, .int .u64 g.link] 30 (0, 0)) from HFB.out)
    obtain ⟨r_0, r_1, r_2, r_3, r_4, r_5, r_6, _⟩ := HFB.out.cs7
    go_wp2_with fail
    refine bodyPost_ret (v := .tuple #[.agg #[.int .i64 g.number, .slice X7 n7 c7, .slice B5 g.lines.length d5, .slice C5 g.offers.length e5, .int .i64 g.next, .int .i64 g.fees, .int .u64 g.link], .int .i64 0]) ?_ rfl ⟨_, _, _, rfl, HFL.out, HFX.out⟩
    simp [results, Try.results52, go_sem, r_0, r_1, r_2, r_3, r_4, r_5, r_6, (show _ = _ from HK.out)]
  · have q0 : (E != 0) = true := bne_iff_ne.2 h0
    have hvx := hch.bad h0
    subst hvx
    have hg := HG1.out h0
    clear HG0 HG1 h0
    subst hg
    clear hch
    obtain ⟨y_0, y_1, y_2, y_3, y_4, y_5, y_6, _⟩ := HY8.out.cs7
    have yf1 := HY8.out.fr 1
    have HY9 := Lib.hid (show HasB yb (.cells #[.int .i64 g.number, .slice none 0 0, .slice B5 g.lines.length d5, .slice C5 g.offers.length e5, .int .i64 g.next, .int .i64 g.fees, .int .u64 g.link] 30 (0, 0)) (w8.setCell ⟨yb, 1, none⟩ (.slice none 0 0)) from set_obj (k := 1) HY8.out _)
    have HZ9 := Lib.hid (HZ8.out.far (p := ⟨yb, 1, none⟩) (by show yb ≠ w.heap.size + 2; omega) (.slice none 0 0))
    have HB9 := Lib.hid (bset HB8.out (p := ⟨yb, 1, none⟩) (by show w.heap.size ≤ yb; omega) (.slice none 0 0))
    go_upto_region 16 with fail
    clear y_0 y_1 y_2 y_3 y_4 y_5 y_6
    clear yf1
    generalize w8.setCell ⟨yb, 1, none⟩ (.slice none 0 0) = w9 at *
    have HFB := Lib.hid (show HasB (w.heap.size + 2) (.cells #[.int .i64 0, .slice none 0 0, .slice none 0 0, .slice none 0 0, .int .i64 0, .int .i64 0, .int .u64 0] 30 (0, 0)) ((((((((w9).setCell ⟨w.heap.size + 2, 0, none⟩ (.int .i64 0)).setCell ⟨w.heap.size + 2, 1, none⟩ (.slice none 0 0)).setCell ⟨w.heap.size + 2, 2, none⟩ (.slice none 0 0)).setCell ⟨w.heap.size + 2, 3, none⟩ (.slice none 0 0)).setCell ⟨w.heap.size + 2, 4, none⟩ (.int .i64 0)).setCell ⟨w.heap.size + 2, 5, none⟩ (.int .i64 0)).setCell ⟨w.heap.size + 2, 6, none⟩ (.int .u64 0)) from set7 HZ9.out)
    have HFL := Lib.hid (show LedAt (fun b => w.heap.size ≤ b) ((((((((w9).setCell ⟨w.heap.size + 2, 0, none⟩ (.int .i64 0)).setCell ⟨w.heap.size + 2, 1, none⟩ (.slice none 0 0)).setCell ⟨w.heap.size + 2, 2, none⟩ (.slice none 0 0)).setCell ⟨w.heap.size + 2, 3, none⟩ (.slice none 0 0)).setCell ⟨w.heap.size + 2, 4, none⟩ (.int .i64 0)).setCell ⟨w.heap.size + 2, 5, none⟩ (.int .i64 0)).setCell ⟨w.heap.size + 2, 6, none⟩ (.int .u64 0)) (.slice none 0 0) (.slice none 0 0) (.slice none 0 0) zeroG from zeroG_at _ _)
    have HFX := Lib.hid (bset (bset (bset (bset (bset (bset (bset (HB9.out) (p := ⟨w.heap.size + 2, 0, none⟩) (by show w.heap.size ≤ w.heap.size + 2; omega) (.int .i64 0)) (p := ⟨w.heap.size + 2, 1, none⟩) (by show w.heap.size ≤ w.heap.size + 2; omega) (.slice none 0 0)) (p := ⟨w.heap.size + 2, 2, none⟩) (by show w.heap.size ≤ w.heap.size + 2; omega) (.slice none 0 0)) (p := ⟨w.heap.size + 2, 3, none⟩) (by show w.heap.size ≤ w.heap.size + 2; omega) (.slice none 0 0)) (p := ⟨w.heap.size + 2, 4, none⟩) (by show w.heap.size ≤ w.heap.size + 2; omega) (.int .i64 0)) (p := ⟨w.heap.size + 2, 5, none⟩) (by show w.heap.size ≤ w.heap.size + 2; omega) (.int .i64 0)) (p := ⟨w.heap.size + 2, 6, none⟩) (by show w.heap.size ≤ w.heap.size + 2; omega) (.int .u64 0))
    obtain ⟨z_0, z_1, z_2, z_3, z_4, z_5, z_6, _⟩ := HZ9.out.cs7
    have zf0 := HZ9.out.fr 0
    have zf1 := HZ9.out.fr 1
    have zf2 := HZ9.out.fr 2
    have zf3 := HZ9.out.fr 3
    have zf4 := HZ9.out.fr 4
    have zf5 := HZ9.out.fr 5
    have zf6 := HZ9.out.fr 6
    have HK := Lib.hid (show ((((((((w9).setCell ⟨w.heap.size + 2, 0, none⟩ (.int .i64 0)).setCell ⟨w.heap.size + 2, 1, none⟩ (.slice none 0 0)).setCell ⟨w.heap.size + 2, 2, none⟩ (.slice none 0 0)).setCell ⟨w.heap.size + 2, 3, none⟩ (.slice none 0 0)).setCell ⟨w.heap.size + 2, 4, none⟩ (.int .i64 0)).setCell ⟨w.heap.size + 2, 5, none⟩ (.int .i64 0)).setCell ⟨w.heap.size + 2, 6, none⟩ (.int .u64 0)).heap[w.heap.size + 2]? = some (.cells #[.int .i64 0, .slice none 0 0, .slice none 0 0, .slice none 0 0, .int .i64 0, .int .i64 0, .int .u64 0] 30 (0, 0)) from HFB.out)
    obtain ⟨r_0, r_1, r_2, r_3, r_4, r_5, r_6, _⟩ := HFB.out.cs7
    go_wp2_with fail
    refine bodyPost_ret (v := .tuple #[.agg #[.int .i64 0, .slice none 0 0, .slice none 0 0, .slice none 0 0, .int .i64 0, .int .i64 0, .int .u64 0], .int .i64 E]) ?_ rfl ⟨_, _, _, rfl, HFL.out, HFX.out⟩
    simp [results, Try.results52, go_sem, r_0, r_1, r_2, r_3, r_4, r_5, r_6, (show _ = _ from HK.out)]

end Go.Proofs.Ytfmdnhhdjjndbaa
