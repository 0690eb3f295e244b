/- The reference's Same and Ledgers on equal ledgers. -/
import Derived.Test.YtfmdnhhdjjndbaaT37l
namespace Go.Proofs.Ytfmdnhhdjjndbaa
set_option linter.unusedVariables false
set_option linter.unusedSimpArgs false
open Go.RowKit

set_option maxRecDepth 100000 in
set_option maxHeartbeats 4000000 in
theorem same37_run (P Q : Nat → Prop) (L : List Lin) (v u : Value) (w : World) (hlen : L.length ≤ 1000) (h : LinAt P w v L) (h2 : LinAt Q w u L) :
    Calls Try.prog 63 #[v, u] w fun e w' => e = .returned (.bool true) ∧ Below w.heap.size w w' := by
  obtain ⟨A, c, rfl, hc, hm⟩ := h.slice
  obtain ⟨A2, c2, rfl, hc2, hm2⟩ := h2.slice
  have H := Lib.hid h
  have H2 := Lib.hid h2
  obtain ⟨n, hn⟩ : ∃ n, L.length = n := ⟨_, rfl⟩
  rw [hn] at hlen H H2 hc hc2 ⊢
  have HN := Lib.hid hn
  clear h h2 hn
  go_enter Try.func63, Try.ntmps63
  go_wp2_with fail
  go_loopw [13] (fun t W => ∃ k : Nat, k ≤ n ∧ t = .int .i64 k ∧ Hid (Below w.heap.size w W)) (fun t _ => n - (intOf t).toNat)
  case atStart => exact ⟨0, by omega, rfl, Lib.hid (bref _)⟩
  case round =>
    obtain ⟨k, hk, rfl, hB⟩ := hrel
    by_cases hlt : k < n
    · obtain ⟨a, ha⟩ : ∃ a, L[k]? = some a := ⟨_, List.getElem?_eq_getElem (by rw [HN.out]; exact hlt)⟩
      obtain ⟨b, off, rfl, hP, hbl, d0, d1, d2, d3, d4⟩ := linBox (H.out.below hB.out) ha
      obtain ⟨b2, off2, rfl, hP2, hbl2, e0, e1, e2, e3, e4⟩ := linBox (H2.out.below hB.out) ha
      have hS := Lib.hid (show Cs [(⟨b, off + k * 5, none⟩, .int .i64 a.acc), (⟨b, off + k * 5 + 1, none⟩, .string (codeOf a.ast)), (⟨b, off + k * 5 + 2, none⟩, .int .i64 (issOf a.ast)), (⟨b, off + k * 5 + 3, none⟩, .int .i64 a.bal), (⟨b, off + k * 5 + 4, none⟩, .int .i64 a.lim), (⟨b2, off2 + k * 5, none⟩, .int .i64 a.acc), (⟨b2, off2 + k * 5 + 1, none⟩, .string (codeOf a.ast)), (⟨b2, off2 + k * 5 + 2, none⟩, .int .i64 (issOf a.ast)), (⟨b2, off2 + k * 5 + 3, none⟩, .int .i64 a.bal), (⟨b2, off2 + k * 5 + 4, none⟩, .int .i64 a.lim)] wr.drew from ⟨d0, d1, d2, d3, d4, e0, e1, e2, e3, e4, trivial⟩)
      have q0 : (0 : Int) ≤ (k : Int) := by omega
      have q1 : (k : Int) < (n : Int) := by omega
      have HB2 := Lib.hid (bdrew hB.out)
      clear d0 d1 d2 d3 d4 e0 e1 e2 e3 e4 ha
      go_upto_region 6 with fail
      refine wp_region_held_drew (S := (fun W => Cs [(⟨b, off + k * 5, none⟩, .int .i64 a.acc), (⟨b, off + k * 5 + 1, none⟩, .string (codeOf a.ast)), (⟨b, off + k * 5 + 2, none⟩, .int .i64 (issOf a.ast)), (⟨b, off + k * 5 + 3, none⟩, .int .i64 a.bal), (⟨b, off + k * 5 + 4, none⟩, .int .i64 a.lim), (⟨b2, off2 + k * 5, none⟩, .int .i64 a.acc), (⟨b2, off2 + k * 5 + 1, none⟩, .string (codeOf a.ast)), (⟨b2, off2 + k * 5 + 2, none⟩, .int .i64 (issOf a.ast)), (⟨b2, off2 + k * 5 + 3, none⟩, .int .i64 a.bal), (⟨b2, off2 + k * 5 + 4, none⟩, .int .i64 a.lim)] W)) (by kernel_rfl) hS.out (fun hSK => ?_)
      refine take_d (some 16) (i := 0) (v := ?_) rfl rfl (by kernel_rfl) (by kernel_rfl) (by kernel_rfl) (fun _ _ _ h => h) (Or.inl ⟨by rfl, ?_⟩) (by assumption) ?_
      rotate_left
      · intro w hSw; (dsimp only [Cs] at hSw); go_simp; (try with_reducible rfl)
      try simp only [Act.put, List.setIfInBounds_toArray, List.set_cons_zero, List.set_cons_succ]
      refine take_d (some 17) (i := 1) (v := ?_) rfl rfl (by kernel_rfl) (by kernel_rfl) (by kernel_rfl) (fun _ _ _ h => h) (Or.inl ⟨by rfl, ?_⟩) (by assumption) ?_
      rotate_left
      · intro w hSw; (dsimp only [Cs] at hSw); go_simp; (try with_reducible rfl)
      try simp only [Act.put, List.setIfInBounds_toArray, List.set_cons_zero, List.set_cons_succ]
      refine take_d (some 18) (i := 2) (v := ?_) rfl rfl (by kernel_rfl) (by kernel_rfl) (by kernel_rfl) (fun _ _ _ h => h) (Or.inl ⟨by rfl, ?_⟩) (by assumption) ?_
      rotate_left
      · intro w hSw; (dsimp only [Cs] at hSw); go_simp; (try with_reducible rfl)
      try simp only [Act.put, List.setIfInBounds_toArray, List.set_cons_zero, List.set_cons_succ]
      refine take_d (some 19) (i := 3) (v := ?_) rfl rfl (by kernel_rfl) (by kernel_rfl) (by kernel_rfl) (fun _ _ _ h => h) (Or.inl ⟨by rfl, ?_⟩) (by assumption) ?_
      rotate_left
      · intro w hSw; (dsimp only [Cs] at hSw); go_simp; (try with_reducible rfl)
      try simp only [Act.put, List.setIfInBounds_toArray, List.set_cons_zero, List.set_cons_succ]
      refine take_d (some 20) (i := 4) (v := ?_) rfl rfl (by kernel_rfl) (by kernel_rfl) (by kernel_rfl) (fun _ _ _ h => h) (Or.inl ⟨by rfl, ?_⟩) (by assumption) ?_
      rotate_left
      · intro w hSw; (dsimp only [Cs] at hSw); go_simp; (try with_reducible rfl)
      try simp only [Act.put, List.setIfInBounds_toArray, List.set_cons_zero, List.set_cons_succ]
      refine take_d (some 21) (i := 5) (v := ?_) rfl rfl (by kernel_rfl) (by kernel_rfl) (by kernel_rfl) (fun _ _ _ h => h) (Or.inl ⟨by rfl, ?_⟩) (by assumption) ?_
      rotate_left
      · intro w hSw; (dsimp only [Cs] at hSw); go_simp; (try with_reducible rfl)
      try simp only [Act.put, List.setIfInBounds_toArray, List.set_cons_zero, List.set_cons_succ]
      refine take_d (some 22) (i := 6) (v := ?_) rfl rfl (by kernel_rfl) (by kernel_rfl) (by kernel_rfl) (fun _ _ _ h => h) (Or.inl ⟨by rfl, ?_⟩) (by assumption) ?_
      rotate_left
      · intro w hSw; (dsimp only [Cs] at hSw); go_simp; (try with_reducible rfl)
      try simp only [Act.put, List.setIfInBounds_toArray, List.set_cons_zero, List.set_cons_succ]
      refine take_d (some 23) (i := 7) (v := ?_) rfl rfl (by kernel_rfl) (by kernel_rfl) (by kernel_rfl) (fun _ _ _ h => h) (Or.inl ⟨by rfl, ?_⟩) (by assumption) ?_
      rotate_left
      · intro w hSw; (dsimp only [Cs] at hSw); go_simp; (try with_reducible rfl)
      try simp only [Act.put, List.setIfInBounds_toArray, List.set_cons_zero, List.set_cons_succ]
      refine take_d (some 24) (i := 8) (v := ?_) rfl rfl (by kernel_rfl) (by kernel_rfl) (by kernel_rfl) (fun _ _ _ h => h) (Or.inl ⟨by rfl, ?_⟩) (by assumption) ?_
      rotate_left
      · intro w hSw; (dsimp only [Cs] at hSw); go_simp; (try with_reducible rfl)
      try simp only [Act.put, List.setIfInBounds_toArray, List.set_cons_zero, List.set_cons_succ]
      refine wpAnyH_done (by kernel_rfl) ?_ _
      clear hSK hS
      go_wp2_with fail
      go_roundw
      case rel => exact ⟨k + 1, by omega, by go_num, HB2⟩
      case measure => simp [intOf]; omega
    · obtain rfl : k = n := by omega
      go_wp2_with fail
      go_ret
      exact ⟨rfl, hB.out⟩

theorem box2a (w : World) (a b : Obj) : HasB w.heap.size a ((w.alloc a).alloc b) ∧ HasB (w.heap.size + 1) b ((w.alloc a).alloc b) := by
  have h1 : HasB w.heap.size a (w.alloc a) := heap_alloc_new _ _
  have h2 : HasB (w.alloc a).heap.size b ((w.alloc a).alloc b) := heap_alloc_new _ _
  rw [alloc_szS] at h2
  exact ⟨h1.alloc _, h2⟩

set_option maxRecDepth 100000 in
set_option maxHeartbeats 8000000 in
theorem ledgers_run (P Q : Nat → Prop) (g : Led) (va vl vo ua ul uo : Value) (w : World) (hok : LedW g) (h : LedAt P w va vl vo g) (h2 : LedAt Q w ua ul uo g) :
    Calls Try.prog 35 #[valG g va vl vo, valG g ua ul uo] w fun e w' => e = .returned (.bool true) ∧ Below w.heap.size w w' := by
  obtain ⟨A, c, B, c2, C, c3, rfl, rfl, rfl, hc, hm, hc2, hm2, hc3, hm3⟩ := h.form
  obtain ⟨A2, d, B2, d2, C2, d3, rfl, rfl, rfl, hd, hn, hd2, hn2, hd3, hn3⟩ := h2.form
  have hb0 := balloc (balloc (bref w) (.cells #[.int .i64 g.number, .slice A g.accs.length c, .slice B g.lines.length c2, .slice C g.offers.length c3, .int .i64 g.next, .int .i64 g.fees, .int .u64 g.link] 30)) (.cells #[.int .i64 g.number, .slice A2 g.accs.length d, .slice B2 g.lines.length d2, .slice C2 g.offers.length d3, .int .i64 g.next, .int .i64 g.fees, .int .u64 g.link] 30)
  have HX0 := Lib.hid (box2a w (.cells #[.int .i64 g.number, .slice A g.accs.length c, .slice B g.lines.length c2, .slice C g.offers.length c3, .int .i64 g.next, .int .i64 g.fees, .int .u64 g.link] 30) (.cells #[.int .i64 g.number, .slice A2 g.accs.length d, .slice B2 g.lines.length d2, .slice C2 g.offers.length d3, .int .i64 g.next, .int .i64 g.fees, .int .u64 g.link] 30)).1
  have HY0 := Lib.hid (box2a w (.cells #[.int .i64 g.number, .slice A g.accs.length c, .slice B g.lines.length c2, .slice C g.offers.length c3, .int .i64 g.next, .int .i64 g.fees, .int .u64 g.link] 30) (.cells #[.int .i64 g.number, .slice A2 g.accs.length d, .slice B2 g.lines.length d2, .slice C2 g.offers.length d3, .int .i64 g.next, .int .i64 g.fees, .int .u64 g.link] 30)).2
  have HL0 := Lib.hid (h.below hb0)
  have HM0 := Lib.hid (h2.below hb0)
  have HB0 := Lib.hid hb0
  have HSA := Lib.hid (fun W (hW : LedAt P W (.slice A g.accs.length c) (.slice B g.lines.length c2) (.slice C g.offers.length c3) g) (hW2 : LedAt Q W (.slice A2 g.accs.length d) (.slice B2 g.lines.length d2) (.slice C2 g.offers.length d3) g) => same36_run P Q g.accs (.slice A g.accs.length c) (.slice A2 g.accs.length d) W (by have := hok.accs.len; omega) hW.a hW2.a)
  have HSL := Lib.hid (fun W (hW : LedAt P W (.slice A g.accs.length c) (.slice B g.lines.length c2) (.slice C g.offers.length c3) g) (hW2 : LedAt Q W (.slice A2 g.accs.length d) (.slice B2 g.lines.length d2) (.slice C2 g.offers.length d3) g) => same37_run P Q g.lines (.slice B g.lines.length c2) (.slice B2 g.lines.length d2) W (by have := hok.lines.len; omega) hW.l hW2.l)
  have hol := hok.olen
  clear h h2 hb0 hok
  unfold valG
  go_enter Try.func35, Try.ntmps35
  go_upto_region 1 with fail
  generalize (w.alloc (.cells #[.int .i64 g.number, .slice A g.accs.length c, .slice B g.lines.length c2, .slice C g.offers.length c3, .int .i64 g.next, .int .i64 g.fees, .int .u64 g.link] 30)).alloc (.cells #[.int .i64 g.number, .slice A2 g.accs.length d, .slice B2 g.lines.length d2, .slice C2 g.offers.length d3, .int .i64 g.next, .int .i64 g.fees, .int .u64 g.link] 30) = W0 at *
  obtain ⟨x_0, x_1, x_2, x_3, x_4, x_5, x_6, _⟩ := HX0.out.cs7
  obtain ⟨y_0, y_1, y_2, y_3, y_4, y_5, y_6, _⟩ := HY0.out.cs7
  go_wp2_with fail
  refine (HSA.out _ HL0.out HM0.out).mono ?_
  rintro e w1 ⟨rfl, hb1⟩
  have HX1 := Lib.hid (HX0.out.below hb1)
  have HY1 := Lib.hid (HY0.out.below hb1)
  have HL1 := Lib.hid (HL0.out.below hb1)
  have HM1 := Lib.hid (HM0.out.below hb1)
  have HB1 := Lib.hid (bstep HB0.out hb1)
  clear x_0 x_1 x_2 x_3 x_4 x_5 x_6 y_0 y_1 y_2 y_3 y_4 y_5 y_6 hb1
  obtain ⟨x_0, x_1, x_2, x_3, x_4, x_5, x_6, _⟩ := HX1.out.cs7
  obtain ⟨y_0, y_1, y_2, y_3, y_4, y_5, y_6, _⟩ := HY1.out.cs7
  go_wp2_with fail
  refine (HSL.out _ HL1.out HM1.out).mono ?_
  rintro e w2 ⟨rfl, hb2⟩
  have HX2 := Lib.hid (HX1.out.below hb2)
  have HY2 := Lib.hid (HY1.out.below hb2)
  have HL2 := Lib.hid (HL1.out.below hb2)
  have HM2 := Lib.hid (HM1.out.below hb2)
  have HB2 := Lib.hid (bstep HB1.out hb2)
  clear x_0 x_1 x_2 x_3 x_4 x_5 x_6 y_0 y_1 y_2 y_3 y_4 y_5 y_6 hb2
  obtain ⟨x_0, x_1, x_2, x_3, x_4, x_5, x_6, _⟩ := HX2.out.cs7
  obtain ⟨y_0, y_1, y_2, y_3, y_4, y_5, y_6, _⟩ := HY2.out.cs7
  go_wp2_with fail
  clear x_0 x_1 x_2 x_3 x_4 x_5 x_6 y_0 y_1 y_2 y_3 y_4 y_5 y_6
  have HLN := Lib.hid (rfl : g.offers.length = g.offers.length)
  obtain ⟨n, hn⟩ : ∃ n, g.offers.length = n := ⟨_, rfl⟩
  have HN := Lib.hid hn
  have HC3 := Lib.hid (And.intro hc3 hd3)
  rw [hn] at hol HX2 HY2 HL2 HM2 hc3 hd3 ⊢
  clear hn HLN
  go_loopw [60] (fun t W => ∃ k : Nat, k ≤ n ∧ t = .int .i64 k ∧ Hid (Below w2.heap.size w2 W)) (fun t _ => n - (intOf t).toNat)
  case atStart => exact ⟨0, by omega, rfl, Lib.hid (bref _)⟩
  case round =>
    obtain ⟨k, hk, rfl, hB⟩ := hrel
    have HB3 := Lib.hid (bstep HB2.out hB.out)
    by_cases hlt : k < n
    · obtain ⟨a, ha⟩ : ∃ a, g.offers[k]? = some a := ⟨_, List.getElem?_eq_getElem (by rw [HN.out]; exact hlt)⟩
      have hxs := (HX2.out.below hB.out).cs7.2.2.2.1
      have hys := (HY2.out.below hB.out).cs7.2.2.2.1
      obtain ⟨b, off, rfl, hP, hbl, p0, p1, p2, p3, p4, p5, p6, p7, p8⟩ := offBox (HL2.out.below hB.out).o ha
      obtain ⟨b2, off2, rfl, hP2, hbl2, e0, e1, e2, e3, e4, e5, e6, e7, e8⟩ := offBox (HM2.out.below hB.out).o ha
      have hS := Lib.hid (show Cs [(⟨w.heap.size, 3, none⟩, .slice (some ⟨b, off, none⟩) n c3), (⟨w.heap.size + 1, 3, none⟩, .slice (some ⟨b2, off2, none⟩) n d3), (⟨b, off + k * 9, none⟩, .int .i64 a.id), (⟨b, off + k * 9 + 1, none⟩, .int .i64 a.seller), (⟨b, off + k * 9 + 2, none⟩, .string (codeOf a.sel)), (⟨b, off + k * 9 + 3, none⟩, .int .i64 (issOf a.sel)), (⟨b, off + k * 9 + 4, none⟩, .string (codeOf a.buy)), (⟨b, off + k * 9 + 5, none⟩, .int .i64 (issOf a.buy)), (⟨b, off + k * 9 + 6, none⟩, .int .i64 a.amt), (⟨b, off + k * 9 + 7, none⟩, .int .i64 (a.num : Int)), (⟨b, off + k * 9 + 8, none⟩, .int .i64 (a.den : Int)), (⟨b2, off2 + k * 9, none⟩, .int .i64 a.id), (⟨b2, off2 + k * 9 + 1, none⟩, .int .i64 a.seller), (⟨b2, off2 + k * 9 + 2, none⟩, .string (codeOf a.sel)), (⟨b2, off2 + k * 9 + 3, none⟩, .int .i64 (issOf a.sel)), (⟨b2, off2 + k * 9 + 4, none⟩, .string (codeOf a.buy)), (⟨b2, off2 + k * 9 + 5, none⟩, .int .i64 (issOf a.buy)), (⟨b2, off2 + k * 9 + 6, none⟩, .int .i64 a.amt), (⟨b2, off2 + k * 9 + 7, none⟩, .int .i64 (a.num : Int)), (⟨b2, off2 + k * 9 + 8, none⟩, .int .i64 (a.den : Int))] wr.drew from ⟨hxs, hys, p0, p1, p2, p3, p4, p5, p6, p7, p8, e0, e1, e2, e3, e4, e5, e6, e7, e8, trivial⟩)
      have q0 : (0 : Int) ≤ (k : Int) := by omega
      have q1 : (k : Int) < (n : Int) := by omega
      have HB4 := Lib.hid (bdrew hB.out)
      clear p0 p1 p2 p3 p4 p5 p6 p7 p8 e0 e1 e2 e3 e4 e5 e6 e7 e8 ha hxs hys
      go_upto_region 6 with fail
      refine wp_region_held_drew (S := (fun W => Cs [(⟨w.heap.size, 3, none⟩, .slice (some ⟨b, off, none⟩) n c3), (⟨w.heap.size + 1, 3, none⟩, .slice (some ⟨b2, off2, none⟩) n d3), (⟨b, off + k * 9, none⟩, .int .i64 a.id), (⟨b, off + k * 9 + 1, none⟩, .int .i64 a.seller), (⟨b, off + k * 9 + 2, none⟩, .string (codeOf a.sel)), (⟨b, off + k * 9 + 3, none⟩, .int .i64 (issOf a.sel)), (⟨b, off + k * 9 + 4, none⟩, .string (codeOf a.buy)), (⟨b, off + k * 9 + 5, none⟩, .int .i64 (issOf a.buy)), (⟨b, off + k * 9 + 6, none⟩, .int .i64 a.amt), (⟨b, off + k * 9 + 7, none⟩, .int .i64 (a.num : Int)), (⟨b, off + k * 9 + 8, none⟩, .int .i64 (a.den : Int)), (⟨b2, off2 + k * 9, none⟩, .int .i64 a.id), (⟨b2, off2 + k * 9 + 1, none⟩, .int .i64 a.seller), (⟨b2, off2 + k * 9 + 2, none⟩, .string (codeOf a.sel)), (⟨b2, off2 + k * 9 + 3, none⟩, .int .i64 (issOf a.sel)), (⟨b2, off2 + k * 9 + 4, none⟩, .string (codeOf a.buy)), (⟨b2, off2 + k * 9 + 5, none⟩, .int .i64 (issOf a.buy)), (⟨b2, off2 + k * 9 + 6, none⟩, .int .i64 a.amt), (⟨b2, off2 + k * 9 + 7, none⟩, .int .i64 (a.num : Int)), (⟨b2, off2 + k * 9 + 8, none⟩, .int .i64 (a.den : Int))] W)) (by kernel_rfl) hS.out (fun hSK => ?_)
      refine take_d (some 63) (i := 0) (v := ?_) rfl rfl (by kernel_rfl) (by kernel_rfl) (by kernel_rfl) (fun _ _ _ h => h) (Or.inl ⟨by rfl, ?_⟩) (by assumption) ?_
      rotate_left
      · intro w hSw; (dsimp only [Cs] at hSw); go_simp; (try with_reducible rfl)
      try simp only [Act.put, List.setIfInBounds_toArray, List.set_cons_zero, List.set_cons_succ]
      refine take_d (some 64) (i := 1) (v := ?_) rfl rfl (by kernel_rfl) (by kernel_rfl) (by kernel_rfl) (fun _ _ _ h => h) (Or.inl ⟨by rfl, ?_⟩) (by assumption) ?_
      rotate_left
      · intro w hSw; (dsimp only [Cs] at hSw); go_simp; (try with_reducible rfl)
      try simp only [Act.put, List.setIfInBounds_toArray, List.set_cons_zero, List.set_cons_succ]
      refine take_d (some 65) (i := 2) (v := ?_) rfl rfl (by kernel_rfl) (by kernel_rfl) (by kernel_rfl) (fun _ _ _ h => h) (Or.inl ⟨by rfl, ?_⟩) (by assumption) ?_
      rotate_left
      · intro w hSw; (dsimp only [Cs] at hSw); go_simp; (try with_reducible rfl)
      try simp only [Act.put, List.setIfInBounds_toArray, List.set_cons_zero, List.set_cons_succ]
      refine take_d (some 66) (i := 3) (v := ?_) rfl rfl (by kernel_rfl) (by kernel_rfl) (by kernel_rfl) (fun _ _ _ h => h) (Or.inl ⟨by rfl, ?_⟩) (by assumption) ?_
      rotate_left
      · intro w hSw; (dsimp only [Cs] at hSw); go_simp; (try with_reducible rfl)
      try simp only [Act.put, List.setIfInBounds_toArray, List.set_cons_zero, List.set_cons_succ]
      refine take_d (some 67) (i := 4) (v := ?_) rfl rfl (by kernel_rfl) (by kernel_rfl) (by kernel_rfl) (fun _ _ _ h => h) (Or.inl ⟨by rfl, ?_⟩) (by assumption) ?_
      rotate_left
      · intro w hSw; (dsimp only [Cs] at hSw); go_simp; (try with_reducible rfl)
      try simp only [Act.put, List.setIfInBounds_toArray, List.set_cons_zero, List.set_cons_succ]
      refine take_d (some 68) (i := 5) (v := ?_) rfl rfl (by kernel_rfl) (by kernel_rfl) (by kernel_rfl) (fun _ _ _ h => h) (Or.inl ⟨by rfl, ?_⟩) (by assumption) ?_
      rotate_left
      · intro w hSw; (dsimp only [Cs] at hSw); go_simp; (try with_reducible rfl)
      try simp only [Act.put, List.setIfInBounds_toArray, List.set_cons_zero, List.set_cons_succ]
      refine take_d (some 69) (i := 6) (v := ?_) rfl rfl (by kernel_rfl) (by kernel_rfl) (by kernel_rfl) (fun _ _ _ h => h) (Or.inl ⟨by rfl, ?_⟩) (by assumption) ?_
      rotate_left
      · intro w hSw; (dsimp only [Cs] at hSw); go_simp; (try with_reducible rfl)
      try simp only [Act.put, List.setIfInBounds_toArray, List.set_cons_zero, List.set_cons_succ]
      refine take_d (some 70) (i := 7) (v := ?_) rfl rfl (by kernel_rfl) (by kernel_rfl) (by kernel_rfl) (fun _ _ _ h => h) (Or.inl ⟨by rfl, ?_⟩) (by assumption) ?_
      rotate_left
      · intro w hSw; (dsimp only [Cs] at hSw); go_simp; (try with_reducible rfl)
      try simp only [Act.put, List.setIfInBounds_toArray, List.set_cons_zero, List.set_cons_succ]
      refine take_d (some 71) (i := 8) (v := ?_) rfl rfl (by kernel_rfl) (by kernel_rfl) (by kernel_rfl) (fun _ _ _ h => h) (Or.inl ⟨by rfl, ?_⟩) (by assumption) ?_
      rotate_left
      · intro w hSw; (dsimp only [Cs] at hSw); go_simp; (try with_reducible rfl)
      try simp only [Act.put, List.setIfInBounds_toArray, List.set_cons_zero, List.set_cons_succ]
      refine take_d (some 72) (i := 9) (v := ?_) rfl rfl (by kernel_rfl) (by kernel_rfl) (by kernel_rfl) (fun _ _ _ h => h) (Or.inl ⟨by rfl, ?_⟩) (by assumption) ?_
      rotate_left
      · intro w hSw; (dsimp only [Cs] at hSw); go_simp; (try with_reducible rfl)
      try simp only [Act.put, List.setIfInBounds_toArray, List.set_cons_zero, List.set_cons_succ]
      refine take_d (some 73) (i := 10) (v := ?_) rfl rfl (by kernel_rfl) (by kernel_rfl) (by kernel_rfl) (fun _ _ _ h => h) (Or.inl ⟨by rfl, ?_⟩) (by assumption) ?_
      rotate_left
      · intro w hSw; (dsimp only [Cs] at hSw); go_simp; (try with_reducible rfl)
      try simp only [Act.put, List.setIfInBounds_toArray, List.set_cons_zero, List.set_cons_succ]
      refine wpAnyH_done (by kernel_rfl) ?_ _
      clear hSK hS
      go_wp2_with fail
      go_roundw
      case rel => exact ⟨k + 1, by omega, by go_num, HB4⟩
      case measure => simp [intOf]; omega
    · obtain rfl : k = n := by omega
      go_wp2_with fail
      go_ret
      exact ⟨rfl, HB3.out⟩
end Go.Proofs.Ytfmdnhhdjjndbaa
