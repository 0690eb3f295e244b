/- The walk of TrustlinesRoom: what an account holds and what it has room for are together its limit. -/
import Derived.Test.YtfmdnhhdjjndbaaT37o
import Derived.Test.YtfmdnhhdjjndbaaSrcL
import Derived.Deep.RegionHeld3
namespace Go.Proofs.Ytfmdnhhdjjndbaa
set_option linter.unusedVariables false
set_option linter.unusedSimpArgs false
open Go.RowKit

theorem befL_trans {a b : Lin} {i : Int} {s : Nat} (h1 : befL a b.acc b.ast = true) (h2 : befL b i s = true) : befL a i s = true := by
  unfold befL lessR at *
  simp only [Bool.or_eq_true, Bool.and_eq_true, decide_eq_true_eq, beq_iff_eq] at *
  omega

theorem befL_ne {a : Lin} {i : Int} {s : Nat} (h : befL a i s = true) : ¬ (a.acc = i ∧ a.ast = s) := by
  unfold befL lessR at h
  simp only [Bool.or_eq_true, Bool.and_eq_true, decide_eq_true_eq, beq_iff_eq] at h
  rintro ⟨rfl, rfl⟩
  omega

theorem LinesOk.lt {accs : List Acc} {L : List Lin} (h : LinesOk accs L) : ∀ (d j : Nat) (a b : Lin), L[j]? = some a → L[j + d + 1]? = some b → befL a b.acc b.ast = true
  | 0, j, a, b, ha, hb => h.asc j a b ha hb
  | d + 1, j, a, b, ha, hb => by
    have hl := (List.getElem?_eq_some_iff.1 hb).1
    have h1 := LinesOk.lt h d j a _ ha (List.getElem?_eq_getElem (show j + d + 1 < L.length by omega))
    exact befL_trans h1 (h.asc (j + d + 1) _ b (List.getElem?_eq_getElem (show j + d + 1 < L.length by omega)) hb)

theorem LinesOk.find {accs : List Acc} {L : List Lin} (h : LinesOk accs L) {k : Nat} {a : Lin} (ha : L[k]? = some a) : findL a.acc a.ast L = k :=
  findL_at ha ⟨rfl, rfl⟩ (fun j b hj hb e => by
    obtain ⟨d, rfl⟩ : ∃ d, k = j + d + 1 := ⟨k - j - 1, by omega⟩
    exact befL_ne (h.lt d j b a hb ha) e)

theorem AccN.hasNot {L : List Acc} (h : AccN L) {i : Int} (h2 : (L.length : Int) < i) : hasA i L = false := by
  unfold hasA
  rw [findA_none (fun k a ha e => by
    have h3 := (List.getElem?_eq_some_iff.1 ha).1
    rw [h.id k a ha] at e
    omega)]
  exact decide_eq_false (Nat.lt_irrefl _)

set_option maxRecDepth 100000 in
set_option maxHeartbeats 8000000 in
theorem walkTrustlinesRoom (a0 : Option Addr) (len0 cap0 : Nat) (z0 : List Int) (w : World) (w0 : IsRow .i64 w a0 len0 cap0 z0) :
    Calls Try.prog 6 #[.slice a0 len0 cap0] w fun e w' => e = .returned (.bool true) ∧ Below w.heap.size w w' := by
  have HR := Lib.hid w0
  clear w0
  go_enter Try.func6, Try.ntmps6
  go_wp2_with fail
  refine (New_run _ _ _ _ _ HR.out).mono ?_
  rintro e v1 ⟨rfl, hs1, hb1⟩
  have HS1 := Lib.hid hs1
  have HB1 := Lib.hid hb1
  clear hs1 hb1
  go_wp2_with fail
  refine (Ledger_run _ _ HS1.out).mono ?_
  rintro e v2 ⟨g, va, vl, vo, rfl, hg⟩
  obtain ⟨A, c, B, c2, C, c3, hva, hvl, hvo, hc, _, hc2, _, hc3, _⟩ := hg.at_.form
  subst hva
  subst hvl
  subst hvo
  have HW := Lib.hid hg.ok.w
  have HID := Lib.hid hg.acc
  have hn1 := hg.n1
  have hn5 := hg.n5
  have HL2 := Lib.hid hg.at_
  have HB2 := Lib.hid (show Below w.heap.size w v2 from Below.grown HB1.out hg.gr HB1.out.size (fun j hj => by cases hj; exact Nat.le_refl _))
  have hml := hg.ok.lines.len
  have HSR := Lib.hid hg.src
  have HGR := Lib.hid hg.gr
  clear hg
  obtain ⟨n, hn⟩ : ∃ x, g.accs.length = x := ⟨_, rfl⟩
  obtain ⟨m, hm⟩ : ∃ x, g.lines.length = x := ⟨_, rfl⟩
  obtain ⟨mo, hmo⟩ : ∃ x, g.offers.length = x := ⟨_, rfl⟩
  have HN := Lib.hid (And.intro hn (And.intro hm hmo))
  unfold valG
  rw [hn] at hc hn1 hn5 HL2 ⊢
  rw [hm] at hc2 hml HL2 ⊢
  rw [hmo] at hc3 HL2 ⊢
  clear hn hm hmo
  have HX3 := Lib.hid (show HasB v2.heap.size (.cells #[.int .i64 g.number, .slice A n c, .slice B m c2, .slice C mo c3, .int .i64 g.next, .int .i64 g.fees, .int .u64 g.link] 30 (0, 0)) (v2.alloc (.cells #[.int .i64 g.number, .slice A n c, .slice B m c2, .slice C mo c3, .int .i64 g.next, .int .i64 g.fees, .int .u64 g.link] 30)) from heap_alloc_new _ _)
  have HL3 := Lib.hid (show LedAt (fun _ => True) (v2.alloc (.cells #[.int .i64 g.number, .slice A n c, .slice B m c2, .slice C mo c3, .int .i64 g.next, .int .i64 g.fees, .int .u64 g.link] 30)) (.slice A n c) (.slice B m c2) (.slice C mo c3) g from (HL2.out.both (Nat.le_refl _) (fun _ _ _ => rfl) (fun _ _ _ => trivial)).alloc _)
  have HB3 := Lib.hid (balloc HB2.out (.cells #[.int .i64 g.number, .slice A n c, .slice B m c2, .slice C mo c3, .int .i64 g.next, .int .i64 g.fees, .int .u64 g.link] 30))
  clear HL2 HSR HGR
  go_upto_region 3 with fail
  generalize v2.alloc (.cells #[.int .i64 g.number, .slice A n c, .slice B m c2, .slice C mo c3, .int .i64 g.next, .int .i64 g.fees, .int .u64 g.link] 30) = v3 at *
  generalize v2.heap.size = gb at *
  obtain ⟨x_0, x_1, x_2, x_3, x_4, x_5, x_6, _⟩ := HX3.out.cs7
  go_wp2_with fail
  clear x_0 x_1 x_2 x_3 x_4 x_5 x_6
  go_loopw [17] (fun t W => ∃ k : Nat, k ≤ m ∧ t = .int .i64 k ∧ Hid (Below v3.heap.size v3 W)) (fun t _ => m - (intOf t).toNat)
  case atStart => exact ⟨0, by omega, rfl, Lib.hid (bref _)⟩
  case round =>
    obtain ⟨k, hk, rfl, hB⟩ := hrel
    have HX4 := Lib.hid (HX3.out.below hB.out)
    have HL4 := Lib.hid (HL3.out.below hB.out)
    by_cases hlt : k < m
    · obtain ⟨a, ha⟩ : ∃ a, g.lines[k]? = some a := ⟨_, List.getElem?_eq_getElem (by rw [HN.out.2.1]; exact hlt)⟩
      have hag := HW.out.lines.each k a ha
      have hgl := getL_at (HW.out.lines.find ha) ha
      have hs2 := hag.a2
      have hs1 := hag.a1
      have hb0 := hag.b0
      have hb1 := hag.b1
      have hm1 := hag.m1
      have HHE := Lib.hid (show ∀ W, LedAt (fun _ => True) W (.slice A n c) (.slice B m c2) (.slice C mo c3) g → Calls Try.prog 22 #[.agg #[.int .i64 g.number, .slice A n c, .slice B m c2, .slice C mo c3, .int .i64 g.next, .int .i64 g.fees, .int .u64 g.link], .int .i64 (a.acc), .agg #[.string (codeOf a.ast), .int .i64 (issOf a.ast)]] W fun e w' => e = .returned (.int .i64 (a.bal)) ∧ Below W.heap.size W w' from fun W hW => by
        have h1 := theld_run (fun _ => True) g (a.acc) a.ast (.slice A n c) (.slice B m c2) (.slice C mo c3) W (by omega) HW.out hW
        rw [heldG_3 hag.has (by omega) hag.iss, hgl] at h1
        exact h1)
      have HRO := Lib.hid (show ∀ W, LedAt (fun _ => True) W (.slice A n c) (.slice B m c2) (.slice C mo c3) g → Calls Try.prog 23 #[.agg #[.int .i64 g.number, .slice A n c, .slice B m c2, .slice C mo c3, .int .i64 g.next, .int .i64 g.fees, .int .u64 g.link], .int .i64 (a.acc), .agg #[.string (codeOf a.ast), .int .i64 (issOf a.ast)]] W fun e w' => e = .returned (.int .i64 (a.lim - a.bal)) ∧ Below W.heap.size W w' from fun W hW => by
        have h1 := troom_run (fun _ => True) g (a.acc) a.ast (.slice A n c) (.slice B m c2) (.slice C mo c3) W (by omega) HW.out hW
        rw [show roomG g a.acc a.ast = a.lim - a.bal from by unfold roomG; rw [if_neg (by rw [hag.has]; simp), if_neg (by omega), if_neg hag.iss, hgl]] at h1
        exact h1)
      obtain ⟨b, off, rfl, hP, hbl, d0, d1, d2, d3, d4⟩ := linBox HL4.out.l ha
      have hy := HX4.out.lt
      have hw1 : IntKind.i64.wrap (a.bal + (a.lim - a.bal)) = a.lim := by
        rw [show a.bal + (a.lim - a.bal) = a.lim by omega]
        exact IntWalk.i64_in _ (by omega)
      have HW1 := Lib.hid hw1
      have HBX := Lib.hid (box5 wr 51 (.int .i64 a.acc) (.string (codeOf a.ast)) (.int .i64 (issOf a.ast)) (.int .i64 a.bal) (.int .i64 a.lim))
      have hba := balloc (bref wr) (.cells #[.int .i64 a.acc, .string (codeOf a.ast), .int .i64 (issOf a.ast), .int .i64 a.bal, .int .i64 a.lim] 51)
      have HX5 := Lib.hid (HX4.out.below hba)
      have HL5 := Lib.hid (HL4.out.below hba)
      have HB5 := Lib.hid (bstep (bstep HB3.out hB.out) hba)
      have HB6 := Lib.hid (bstep hB.out hba)
      clear hba hag hgl
      go_upto_region 6 with fail
      generalize wr.alloc (.cells #[.int .i64 a.acc, .string (codeOf a.ast), .int .i64 (issOf a.ast), .int .i64 a.bal, .int .i64 a.lim] 51) = W5 at *
      generalize wr.heap.size = lb at *
      clear d0 d1 d2 d3 d4 ha
      obtain ⟨x_0, x_1, x_2, x_3, x_4, x_5, x_6, _⟩ := HX5.out.cs7
      obtain ⟨d_0, d_1, d_2, d_3, d_4, _⟩ := HBX.out
      have hS := Lib.hid (show (fun W => W.cell? ⟨gb, 0, none⟩ = some (.int .i64 g.number) ∧ W.cell? ⟨gb, 1, none⟩ = some (.slice A n c) ∧ W.cell? ⟨gb, 2, none⟩ = some (.slice (some ⟨b, off, none⟩) m c2) ∧ W.cell? ⟨gb, 3, none⟩ = some (.slice C mo c3) ∧ W.cell? ⟨gb, 4, none⟩ = some (.int .i64 g.next) ∧ W.cell? ⟨gb, 5, none⟩ = some (.int .i64 g.fees) ∧ W.cell? ⟨gb, 6, none⟩ = some (.int .u64 g.link) ∧ W.cell? ⟨lb, 0, none⟩ = some (.int .i64 a.acc) ∧ W.cell? ⟨lb, 1, none⟩ = some (.string (codeOf a.ast)) ∧ W.cell? ⟨lb, 2, none⟩ = some (.int .i64 (issOf a.ast)) ∧ W.cell? ⟨lb, 3, none⟩ = some (.int .i64 a.bal) ∧ W.cell? ⟨lb, 4, none⟩ = some (.int .i64 a.lim) ∧ Below v3.heap.size v3 W ∧ LedAt (fun _ => True) W (.slice A n c) (.slice (some ⟨b, off, none⟩) m c2) (.slice C mo c3) g ∧ Below w.heap.size w W) W5.drew from ⟨x_0, x_1, x_2, x_3, x_4, x_5, x_6, d_0, d_1, d_2, d_3, d_4, bdrew HB6.out, HL5.out.below (bdrew (bref _)), bdrew HB5.out⟩)
      have HSL := Lib.hid (show ∀ W : World, (W.cell? ⟨gb, 0, none⟩ = some (.int .i64 g.number) ∧ W.cell? ⟨gb, 1, none⟩ = some (.slice A n c) ∧ W.cell? ⟨gb, 2, none⟩ = some (.slice (some ⟨b, off, none⟩) m c2) ∧ W.cell? ⟨gb, 3, none⟩ = some (.slice C mo c3) ∧ W.cell? ⟨gb, 4, none⟩ = some (.int .i64 g.next) ∧ W.cell? ⟨gb, 5, none⟩ = some (.int .i64 g.fees) ∧ W.cell? ⟨gb, 6, none⟩ = some (.int .u64 g.link) ∧ W.cell? ⟨lb, 0, none⟩ = some (.int .i64 a.acc) ∧ W.cell? ⟨lb, 1, none⟩ = some (.string (codeOf a.ast)) ∧ W.cell? ⟨lb, 2, none⟩ = some (.int .i64 (issOf a.ast)) ∧ W.cell? ⟨lb, 3, none⟩ = some (.int .i64 a.bal) ∧ W.cell? ⟨lb, 4, none⟩ = some (.int .i64 a.lim) ∧ Below v3.heap.size v3 W ∧ LedAt (fun _ => True) W (.slice A n c) (.slice (some ⟨b, off, none⟩) m c2) (.slice C mo c3) g ∧ Below w.heap.size w W) → LedAt (fun _ => True) W (.slice A n c) (.slice (some ⟨b, off, none⟩) m c2) (.slice C mo c3) g from fun W h => h.2.2.2.2.2.2.2.2.2.2.2.2.2.1)
      have HLF := Lib.hid (show ∀ W W' : World, (W.cell? ⟨gb, 0, none⟩ = some (.int .i64 g.number) ∧ W.cell? ⟨gb, 1, none⟩ = some (.slice A n c) ∧ W.cell? ⟨gb, 2, none⟩ = some (.slice (some ⟨b, off, none⟩) m c2) ∧ W.cell? ⟨gb, 3, none⟩ = some (.slice C mo c3) ∧ W.cell? ⟨gb, 4, none⟩ = some (.int .i64 g.next) ∧ W.cell? ⟨gb, 5, none⟩ = some (.int .i64 g.fees) ∧ W.cell? ⟨gb, 6, none⟩ = some (.int .u64 g.link) ∧ W.cell? ⟨lb, 0, none⟩ = some (.int .i64 a.acc) ∧ W.cell? ⟨lb, 1, none⟩ = some (.string (codeOf a.ast)) ∧ W.cell? ⟨lb, 2, none⟩ = some (.int .i64 (issOf a.ast)) ∧ W.cell? ⟨lb, 3, none⟩ = some (.int .i64 a.bal) ∧ W.cell? ⟨lb, 4, none⟩ = some (.int .i64 a.lim) ∧ Below v3.heap.size v3 W ∧ LedAt (fun _ => True) W (.slice A n c) (.slice (some ⟨b, off, none⟩) m c2) (.slice C mo c3) g ∧ Below w.heap.size w W) → Below W.heap.size W W' → (W'.cell? ⟨gb, 0, none⟩ = some (.int .i64 g.number) ∧ W'.cell? ⟨gb, 1, none⟩ = some (.slice A n c) ∧ W'.cell? ⟨gb, 2, none⟩ = some (.slice (some ⟨b, off, none⟩) m c2) ∧ W'.cell? ⟨gb, 3, none⟩ = some (.slice C mo c3) ∧ W'.cell? ⟨gb, 4, none⟩ = some (.int .i64 g.next) ∧ W'.cell? ⟨gb, 5, none⟩ = some (.int .i64 g.fees) ∧ W'.cell? ⟨gb, 6, none⟩ = some (.int .u64 g.link) ∧ W'.cell? ⟨lb, 0, none⟩ = some (.int .i64 a.acc) ∧ W'.cell? ⟨lb, 1, none⟩ = some (.string (codeOf a.ast)) ∧ W'.cell? ⟨lb, 2, none⟩ = some (.int .i64 (issOf a.ast)) ∧ W'.cell? ⟨lb, 3, none⟩ = some (.int .i64 a.bal) ∧ W'.cell? ⟨lb, 4, none⟩ = some (.int .i64 a.lim) ∧ Below v3.heap.size v3 W' ∧ LedAt (fun _ => True) W' (.slice A n c) (.slice (some ⟨b, off, none⟩) m c2) (.slice C mo c3) g ∧ Below w.heap.size w W') from fun W W' h hb => by
        obtain ⟨k0, k1, k2, k3, k4, k5, k6, k7, k8, k9, k10, k11, k12, kl, kb⟩ := h
        exact ⟨(hb.cell (cell_lt k0)).trans k0, (hb.cell (cell_lt k1)).trans k1, (hb.cell (cell_lt k2)).trans k2, (hb.cell (cell_lt k3)).trans k3, (hb.cell (cell_lt k4)).trans k4, (hb.cell (cell_lt k5)).trans k5, (hb.cell (cell_lt k6)).trans k6, (hb.cell (cell_lt k7)).trans k7, (hb.cell (cell_lt k8)).trans k8, (hb.cell (cell_lt k9)).trans k9, (hb.cell (cell_lt k10)).trans k10, (hb.cell (cell_lt k11)).trans k11, bstep k12 hb, kl.below hb, bstep kb hb⟩)
      clear x_0 x_1 x_2 x_3 x_4 x_5 x_6 d_0 d_1 d_2 d_3 d_4
      go_region_held3 (fun W => W.cell? ⟨gb, 0, none⟩ = some (.int .i64 g.number) ∧ W.cell? ⟨gb, 1, none⟩ = some (.slice A n c) ∧ W.cell? ⟨gb, 2, none⟩ = some (.slice (some ⟨b, off, none⟩) m c2) ∧ W.cell? ⟨gb, 3, none⟩ = some (.slice C mo c3) ∧ W.cell? ⟨gb, 4, none⟩ = some (.int .i64 g.next) ∧ W.cell? ⟨gb, 5, none⟩ = some (.int .i64 g.fees) ∧ W.cell? ⟨gb, 6, none⟩ = some (.int .u64 g.link) ∧ W.cell? ⟨lb, 0, none⟩ = some (.int .i64 a.acc) ∧ W.cell? ⟨lb, 1, none⟩ = some (.string (codeOf a.ast)) ∧ W.cell? ⟨lb, 2, none⟩ = some (.int .i64 (issOf a.ast)) ∧ W.cell? ⟨lb, 3, none⟩ = some (.int .i64 a.bal) ∧ W.cell? ⟨lb, 4, none⟩ = some (.int .i64 a.lim) ∧ Below v3.heap.size v3 W ∧ LedAt (fun _ => True) W (.slice A n c) (.slice (some ⟨b, off, none⟩) m c2) (.slice C mo c3) g ∧ Below w.heap.size w W) (first | (with_reducible exact hS.out) | (with_reducible exact hSK) | go_keep)
        (first | (go_at_call 22; refine (HHE.out _ (by exact HSL.out _ (by assumption))).mono ?_; rintro e WK ⟨rfl, hbK⟩; have hSK := HLF.out _ _ (by assumption) hbK) | (go_at_call 23; refine (HRO.out _ (by exact HSL.out _ (by assumption))).mono ?_; rintro e WK ⟨rfl, hbK⟩; have hSK := HLF.out _ _ (by assumption) hbK))
      all_goals
        have HB7 := Lib.hid hSK.2.2.2.2.2.2.2.2.2.2.2.2.1
        go_wp2_with fail
        go_roundw
        case rel => exact ⟨k + 1, by omega, by go_num, HB7⟩
        case measure => simp [intOf]; omega
    · obtain rfl : m = k := by omega
      have HB4 := Lib.hid (bstep HB3.out hB.out)
      obtain ⟨x_0, x_1, x_2, x_3, x_4, x_5, x_6, _⟩ := HX4.out.cs7
      go_wp2_with fail
      clear x_0 x_1 x_2 x_3 x_4 x_5 x_6
      generalize hq : wr = W4 at *
      clear hq
      go_loopw [41] (fun t W => ∃ k : Nat, k ≤ n ∧ t = .int .i64 k ∧ Hid (Below W4.heap.size W4 W)) (fun t _ => n - (intOf t).toNat)
      case atStart => exact ⟨0, by omega, rfl, Lib.hid (bref _)⟩
      case round =>
        obtain ⟨q, hk, rfl, hC⟩ := hrel
        have HX6 := Lib.hid (HX4.out.below hC.out)
        have HL6 := Lib.hid (HL4.out.below hC.out)
        by_cases hlt : q < n
        · obtain ⟨a, ha⟩ : ∃ a, g.accs[q]? = some a := ⟨_, List.getElem?_eq_getElem (by rw [HN.out.1]; exact hlt)⟩
          have hag := HW.out.accs.each q a ha
          have hfa := HW.out.accs.find ha
          have hga := getA_at hfa ha
          have hha : hasA a.id g.accs = true := by unfold hasA; rw [hfa]; exact decide_eq_true (List.getElem?_eq_some_iff.1 ha).1
          have hb0 := hag.b0
          have hb1 := hag.b1
          have HHE := Lib.hid (show ∀ W, LedAt (fun _ => True) W (.slice A n c) (.slice B m c2) (.slice C mo c3) g → Calls Try.prog 22 #[.agg #[.int .i64 g.number, .slice A n c, .slice B m c2, .slice C mo c3, .int .i64 g.next, .int .i64 g.fees, .int .u64 g.link], .int .i64 (a.id), .agg #[.string ⟨#[]⟩, .int .i64 0]] W fun e w' => e = .returned (.int .i64 (a.bal)) ∧ Below W.heap.size W w' from fun W hW => by
            have h1 := theld_run (fun _ => True) g (a.id) 0 (.slice A n c) (.slice B m c2) (.slice C mo c3) W (by omega) HW.out hW
            rw [heldG_1 hha, hga] at h1
            exact h1)
          have HRO := Lib.hid (show ∀ W, LedAt (fun _ => True) W (.slice A n c) (.slice B m c2) (.slice C mo c3) g → Calls Try.prog 23 #[.agg #[.int .i64 g.number, .slice A n c, .slice B m c2, .slice C mo c3, .int .i64 g.next, .int .i64 g.fees, .int .u64 g.link], .int .i64 (a.id), .agg #[.string ⟨#[]⟩, .int .i64 0]] W fun e w' => e = .returned (.int .i64 (1000000000000 - a.bal)) ∧ Below W.heap.size W w' from fun W hW => by
            have h1 := troom_run (fun _ => True) g (a.id) 0 (.slice A n c) (.slice B m c2) (.slice C mo c3) W (by omega) HW.out hW
            rw [show roomG g a.id 0 = 1000000000000 - a.bal from by unfold roomG; rw [if_neg (by rw [hha]; simp), if_pos rfl, hga]] at h1
            exact h1)
          obtain ⟨b, off, rfl, hP, hbl, d0, d1, d2⟩ := accBox HL6.out.a ha
          have hy := HX6.out.lt
          have hw1 : IntKind.i64.wrap (1000000000000 - a.bal + a.bal) = 1000000000000 := by
            rw [show 1000000000000 - a.bal + a.bal = 1000000000000 by omega]
            exact IntWalk.i64_in _ (by omega)
          have HBX := Lib.hid (box3 wr 34 (.int .i64 a.id) (.int .i64 a.bal) (.int .i64 a.seq))
          have hba := balloc (bref wr) (.cells #[.int .i64 a.id, .int .i64 a.bal, .int .i64 a.seq] 34)
          have HX5 := Lib.hid (HX6.out.below hba)
          have HL5 := Lib.hid (HL6.out.below hba)
          have HB5 := Lib.hid (bstep (bstep HB4.out hC.out) hba)
          have HB6 := Lib.hid (bstep hC.out hba)
          clear hba hag hfa hga hha
          go_upto_region 12 with fail
          generalize wr.alloc (.cells #[.int .i64 a.id, .int .i64 a.bal, .int .i64 a.seq] 34) = W5 at *
          generalize wr.heap.size = lb at *
          clear d0 d1 d2 ha
          obtain ⟨x_0, x_1, x_2, x_3, x_4, x_5, x_6, _⟩ := HX5.out.cs7
          obtain ⟨d_0, d_1, d_2, _⟩ := HBX.out
          have hS := Lib.hid (show (fun W => W.cell? ⟨gb, 0, none⟩ = some (.int .i64 g.number) ∧ W.cell? ⟨gb, 1, none⟩ = some (.slice (some ⟨b, off, none⟩) n c) ∧ W.cell? ⟨gb, 2, none⟩ = some (.slice B m c2) ∧ W.cell? ⟨gb, 3, none⟩ = some (.slice C mo c3) ∧ W.cell? ⟨gb, 4, none⟩ = some (.int .i64 g.next) ∧ W.cell? ⟨gb, 5, none⟩ = some (.int .i64 g.fees) ∧ W.cell? ⟨gb, 6, none⟩ = some (.int .u64 g.link) ∧ W.cell? ⟨lb, 0, none⟩ = some (.int .i64 a.id) ∧ W.cell? ⟨lb, 1, none⟩ = some (.int .i64 a.bal) ∧ W.cell? ⟨lb, 2, none⟩ = some (.int .i64 a.seq) ∧ Below W4.heap.size W4 W ∧ LedAt (fun _ => True) W (.slice (some ⟨b, off, none⟩) n c) (.slice B m c2) (.slice C mo c3) g ∧ Below w.heap.size w W) W5.drew from ⟨x_0, x_1, x_2, x_3, x_4, x_5, x_6, d_0, d_1, d_2, bdrew HB6.out, HL5.out.below (bdrew (bref _)), bdrew HB5.out⟩)
          have HSL := Lib.hid (show ∀ W : World, (W.cell? ⟨gb, 0, none⟩ = some (.int .i64 g.number) ∧ W.cell? ⟨gb, 1, none⟩ = some (.slice (some ⟨b, off, none⟩) n c) ∧ W.cell? ⟨gb, 2, none⟩ = some (.slice B m c2) ∧ W.cell? ⟨gb, 3, none⟩ = some (.slice C mo c3) ∧ W.cell? ⟨gb, 4, none⟩ = some (.int .i64 g.next) ∧ W.cell? ⟨gb, 5, none⟩ = some (.int .i64 g.fees) ∧ W.cell? ⟨gb, 6, none⟩ = some (.int .u64 g.link) ∧ W.cell? ⟨lb, 0, none⟩ = some (.int .i64 a.id) ∧ W.cell? ⟨lb, 1, none⟩ = some (.int .i64 a.bal) ∧ W.cell? ⟨lb, 2, none⟩ = some (.int .i64 a.seq) ∧ Below W4.heap.size W4 W ∧ LedAt (fun _ => True) W (.slice (some ⟨b, off, none⟩) n c) (.slice B m c2) (.slice C mo c3) g ∧ Below w.heap.size w W) → LedAt (fun _ => True) W (.slice (some ⟨b, off, none⟩) n c) (.slice B m c2) (.slice C mo c3) g from fun W h => h.2.2.2.2.2.2.2.2.2.2.2.1)
          have HLF := Lib.hid (show ∀ W W' : World, (W.cell? ⟨gb, 0, none⟩ = some (.int .i64 g.number) ∧ W.cell? ⟨gb, 1, none⟩ = some (.slice (some ⟨b, off, none⟩) n c) ∧ W.cell? ⟨gb, 2, none⟩ = some (.slice B m c2) ∧ W.cell? ⟨gb, 3, none⟩ = some (.slice C mo c3) ∧ W.cell? ⟨gb, 4, none⟩ = some (.int .i64 g.next) ∧ W.cell? ⟨gb, 5, none⟩ = some (.int .i64 g.fees) ∧ W.cell? ⟨gb, 6, none⟩ = some (.int .u64 g.link) ∧ W.cell? ⟨lb, 0, none⟩ = some (.int .i64 a.id) ∧ W.cell? ⟨lb, 1, none⟩ = some (.int .i64 a.bal) ∧ W.cell? ⟨lb, 2, none⟩ = some (.int .i64 a.seq) ∧ Below W4.heap.size W4 W ∧ LedAt (fun _ => True) W (.slice (some ⟨b, off, none⟩) n c) (.slice B m c2) (.slice C mo c3) g ∧ Below w.heap.size w W) → Below W.heap.size W W' → (W'.cell? ⟨gb, 0, none⟩ = some (.int .i64 g.number) ∧ W'.cell? ⟨gb, 1, none⟩ = some (.slice (some ⟨b, off, none⟩) n c) ∧ W'.cell? ⟨gb, 2, none⟩ = some (.slice B m c2) ∧ W'.cell? ⟨gb, 3, none⟩ = some (.slice C mo c3) ∧ W'.cell? ⟨gb, 4, none⟩ = some (.int .i64 g.next) ∧ W'.cell? ⟨gb, 5, none⟩ = some (.int .i64 g.fees) ∧ W'.cell? ⟨gb, 6, none⟩ = some (.int .u64 g.link) ∧ W'.cell? ⟨lb, 0, none⟩ = some (.int .i64 a.id) ∧ W'.cell? ⟨lb, 1, none⟩ = some (.int .i64 a.bal) ∧ W'.cell? ⟨lb, 2, none⟩ = some (.int .i64 a.seq) ∧ Below W4.heap.size W4 W' ∧ LedAt (fun _ => True) W' (.slice (some ⟨b, off, none⟩) n c) (.slice B m c2) (.slice C mo c3) g ∧ Below w.heap.size w W') from fun W W' h hb => by
            obtain ⟨k0, k1, k2, k3, k4, k5, k6, k7, k8, k9, k10, kl, kb⟩ := h
            exact ⟨(hb.cell (cell_lt k0)).trans k0, (hb.cell (cell_lt k1)).trans k1, (hb.cell (cell_lt k2)).trans k2, (hb.cell (cell_lt k3)).trans k3, (hb.cell (cell_lt k4)).trans k4, (hb.cell (cell_lt k5)).trans k5, (hb.cell (cell_lt k6)).trans k6, (hb.cell (cell_lt k7)).trans k7, (hb.cell (cell_lt k8)).trans k8, (hb.cell (cell_lt k9)).trans k9, bstep k10 hb, kl.below hb, bstep kb hb⟩)
          clear x_0 x_1 x_2 x_3 x_4 x_5 x_6 d_0 d_1 d_2
          go_region_held3 (fun W => W.cell? ⟨gb, 0, none⟩ = some (.int .i64 g.number) ∧ W.cell? ⟨gb, 1, none⟩ = some (.slice (some ⟨b, off, none⟩) n c) ∧ W.cell? ⟨gb, 2, none⟩ = some (.slice B m c2) ∧ W.cell? ⟨gb, 3, none⟩ = some (.slice C mo c3) ∧ W.cell? ⟨gb, 4, none⟩ = some (.int .i64 g.next) ∧ W.cell? ⟨gb, 5, none⟩ = some (.int .i64 g.fees) ∧ W.cell? ⟨gb, 6, none⟩ = some (.int .u64 g.link) ∧ W.cell? ⟨lb, 0, none⟩ = some (.int .i64 a.id) ∧ W.cell? ⟨lb, 1, none⟩ = some (.int .i64 a.bal) ∧ W.cell? ⟨lb, 2, none⟩ = some (.int .i64 a.seq) ∧ Below W4.heap.size W4 W ∧ LedAt (fun _ => True) W (.slice (some ⟨b, off, none⟩) n c) (.slice B m c2) (.slice C mo c3) g ∧ Below w.heap.size w W) (first | (with_reducible exact hS.out) | (with_reducible exact hSK) | go_keep)
            (first | (go_at_call 22; refine (HHE.out _ (by exact HSL.out _ (by assumption))).mono ?_; rintro e WK ⟨rfl, hbK⟩; have hSK := HLF.out _ _ (by assumption) hbK) | (go_at_call 23; refine (HRO.out _ (by exact HSL.out _ (by assumption))).mono ?_; rintro e WK ⟨rfl, hbK⟩; have hSK := HLF.out _ _ (by assumption) hbK))
          all_goals
            have HB7 := Lib.hid hSK.2.2.2.2.2.2.2.2.2.2.1
            go_wp2_with fail
            go_roundw
            case rel => exact ⟨q + 1, by omega, by go_num, HB7⟩
            case measure => simp [intOf]; omega
        · obtain rfl : n = q := by omega
          have HB8 := Lib.hid (bstep HB4.out hC.out)
          have HR1 := Lib.hid (show ∀ W, LedAt (fun _ => True) W (.slice A n c) (.slice B m c2) (.slice C mo c3) g → Calls Try.prog 23 #[.agg #[.int .i64 g.number, .slice A n c, .slice B m c2, .slice C mo c3, .int .i64 g.next, .int .i64 g.fees, .int .u64 g.link], .int .i64 (1), .agg #[.string (codeOf 1), .int .i64 (issOf 1)]] W fun e w' => e = .returned (.int .i64 (1000000000000)) ∧ Below W.heap.size W w' from fun W hW => by
            have h1 := troom_run (fun _ => True) g (1) 1 (.slice A n c) (.slice B m c2) (.slice C mo c3) W (by omega) HW.out hW
            rw [show roomG g 1 1 = 1000000000000 from by unfold roomG; rw [if_neg (by rw [HID.out.has (by omega) (by rw [HN.out.1]; omega)]; simp), if_neg (by omega), if_pos (show issOf 1 = 1 from rfl)]] at h1
            exact h1)
          have HR2 := Lib.hid (show ∀ W, LedAt (fun _ => True) W (.slice A n c) (.slice B m c2) (.slice C mo c3) g → Calls Try.prog 23 #[.agg #[.int .i64 g.number, .slice A n c, .slice B m c2, .slice C mo c3, .int .i64 g.next, .int .i64 g.fees, .int .u64 g.link], .int .i64 (999), .agg #[.string (codeOf 1), .int .i64 (issOf 1)]] W fun e w' => e = .returned (.int .i64 (0)) ∧ Below W.heap.size W w' from fun W hW => by
            have h1 := troom_run (fun _ => True) g (999) 1 (.slice A n c) (.slice B m c2) (.slice C mo c3) W (by omega) HW.out hW
            rw [show roomG g 999 1 = 0 from by unfold roomG; rw [if_pos (HID.out.hasNot (by rw [HN.out.1]; omega))]] at h1
            exact h1)
          obtain ⟨x_0, x_1, x_2, x_3, x_4, x_5, x_6, _⟩ := HX6.out.cs7
          go_upto_region 15 with fail
          have hS := Lib.hid (show (fun W => W.cell? ⟨gb, 0, none⟩ = some (.int .i64 g.number) ∧ W.cell? ⟨gb, 1, none⟩ = some (.slice A n c) ∧ W.cell? ⟨gb, 2, none⟩ = some (.slice B m c2) ∧ W.cell? ⟨gb, 3, none⟩ = some (.slice C mo c3) ∧ W.cell? ⟨gb, 4, none⟩ = some (.int .i64 g.next) ∧ W.cell? ⟨gb, 5, none⟩ = some (.int .i64 g.fees) ∧ W.cell? ⟨gb, 6, none⟩ = some (.int .u64 g.link) ∧ LedAt (fun _ => True) W (.slice A n c) (.slice B m c2) (.slice C mo c3) g ∧ Below w.heap.size w W) wr.drew from ⟨x_0, x_1, x_2, x_3, x_4, x_5, x_6, HL6.out.below (bdrew (bref _)), bdrew HB8.out⟩)
          have HSL := Lib.hid (show ∀ W : World, (W.cell? ⟨gb, 0, none⟩ = some (.int .i64 g.number) ∧ W.cell? ⟨gb, 1, none⟩ = some (.slice A n c) ∧ W.cell? ⟨gb, 2, none⟩ = some (.slice B m c2) ∧ W.cell? ⟨gb, 3, none⟩ = some (.slice C mo c3) ∧ W.cell? ⟨gb, 4, none⟩ = some (.int .i64 g.next) ∧ W.cell? ⟨gb, 5, none⟩ = some (.int .i64 g.fees) ∧ W.cell? ⟨gb, 6, none⟩ = some (.int .u64 g.link) ∧ LedAt (fun _ => True) W (.slice A n c) (.slice B m c2) (.slice C mo c3) g ∧ Below w.heap.size w W) → LedAt (fun _ => True) W (.slice A n c) (.slice B m c2) (.slice C mo c3) g from fun W h => h.2.2.2.2.2.2.2.1)
          have HLF := Lib.hid (show ∀ W W' : World, (W.cell? ⟨gb, 0, none⟩ = some (.int .i64 g.number) ∧ W.cell? ⟨gb, 1, none⟩ = some (.slice A n c) ∧ W.cell? ⟨gb, 2, none⟩ = some (.slice B m c2) ∧ W.cell? ⟨gb, 3, none⟩ = some (.slice C mo c3) ∧ W.cell? ⟨gb, 4, none⟩ = some (.int .i64 g.next) ∧ W.cell? ⟨gb, 5, none⟩ = some (.int .i64 g.fees) ∧ W.cell? ⟨gb, 6, none⟩ = some (.int .u64 g.link) ∧ LedAt (fun _ => True) W (.slice A n c) (.slice B m c2) (.slice C mo c3) g ∧ Below w.heap.size w W) → Below W.heap.size W W' → (W'.cell? ⟨gb, 0, none⟩ = some (.int .i64 g.number) ∧ W'.cell? ⟨gb, 1, none⟩ = some (.slice A n c) ∧ W'.cell? ⟨gb, 2, none⟩ = some (.slice B m c2) ∧ W'.cell? ⟨gb, 3, none⟩ = some (.slice C mo c3) ∧ W'.cell? ⟨gb, 4, none⟩ = some (.int .i64 g.next) ∧ W'.cell? ⟨gb, 5, none⟩ = some (.int .i64 g.fees) ∧ W'.cell? ⟨gb, 6, none⟩ = some (.int .u64 g.link) ∧ LedAt (fun _ => True) W' (.slice A n c) (.slice B m c2) (.slice C mo c3) g ∧ Below w.heap.size w W') from fun W W' h hb => by
            obtain ⟨k0, k1, k2, k3, k4, k5, k6, kl, kb⟩ := h
            exact ⟨(hb.cell (cell_lt k0)).trans k0, (hb.cell (cell_lt k1)).trans k1, (hb.cell (cell_lt k2)).trans k2, (hb.cell (cell_lt k3)).trans k3, (hb.cell (cell_lt k4)).trans k4, (hb.cell (cell_lt k5)).trans k5, (hb.cell (cell_lt k6)).trans k6, kl.below hb, bstep kb hb⟩)
          clear x_0 x_1 x_2 x_3 x_4 x_5 x_6
          go_region_held3 (fun W => W.cell? ⟨gb, 0, none⟩ = some (.int .i64 g.number) ∧ W.cell? ⟨gb, 1, none⟩ = some (.slice A n c) ∧ W.cell? ⟨gb, 2, none⟩ = some (.slice B m c2) ∧ W.cell? ⟨gb, 3, none⟩ = some (.slice C mo c3) ∧ W.cell? ⟨gb, 4, none⟩ = some (.int .i64 g.next) ∧ W.cell? ⟨gb, 5, none⟩ = some (.int .i64 g.fees) ∧ W.cell? ⟨gb, 6, none⟩ = some (.int .u64 g.link) ∧ LedAt (fun _ => True) W (.slice A n c) (.slice B m c2) (.slice C mo c3) g ∧ Below w.heap.size w W) (first | (with_reducible exact hS.out) | (with_reducible exact hSK) | go_keep)
            (first | (go_at_call 24; refine (Usd_run _).mono ?_; rintro e WK ⟨rfl, hbK⟩; have hSK := HLF.out _ _ (by assumption) hbK) | (go_at_call 23; refine (HR1.out _ (by exact HSL.out _ (by assumption))).mono ?_; rintro e WK ⟨rfl, hbK⟩; have hSK := HLF.out _ _ (by assumption) hbK))
          all_goals
            have HSK := Lib.hid hSK
            clear hSK hS
            go_upto_region 16 with fail
            have hS := Lib.hid (show (fun W => W.cell? ⟨gb, 0, none⟩ = some (.int .i64 g.number) ∧ W.cell? ⟨gb, 1, none⟩ = some (.slice A n c) ∧ W.cell? ⟨gb, 2, none⟩ = some (.slice B m c2) ∧ W.cell? ⟨gb, 3, none⟩ = some (.slice C mo c3) ∧ W.cell? ⟨gb, 4, none⟩ = some (.int .i64 g.next) ∧ W.cell? ⟨gb, 5, none⟩ = some (.int .i64 g.fees) ∧ W.cell? ⟨gb, 6, none⟩ = some (.int .u64 g.link) ∧ LedAt (fun _ => True) W (.slice A n c) (.slice B m c2) (.slice C mo c3) g ∧ Below w.heap.size w W) WK.drew from HLF.out _ _ HSK.out (bdrew (bref _)))
            go_region_held3 (fun W => W.cell? ⟨gb, 0, none⟩ = some (.int .i64 g.number) ∧ W.cell? ⟨gb, 1, none⟩ = some (.slice A n c) ∧ W.cell? ⟨gb, 2, none⟩ = some (.slice B m c2) ∧ W.cell? ⟨gb, 3, none⟩ = some (.slice C mo c3) ∧ W.cell? ⟨gb, 4, none⟩ = some (.int .i64 g.next) ∧ W.cell? ⟨gb, 5, none⟩ = some (.int .i64 g.fees) ∧ W.cell? ⟨gb, 6, none⟩ = some (.int .u64 g.link) ∧ LedAt (fun _ => True) W (.slice A n c) (.slice B m c2) (.slice C mo c3) g ∧ Below w.heap.size w W) (first | (with_reducible exact hS.out) | (with_reducible exact hSK) | go_keep)
              (first | (go_at_call 24; refine (Usd_run _).mono ?_; rintro e WK ⟨rfl, hbK⟩; have hSK := HLF.out _ _ (by assumption) hbK) | (go_at_call 23; refine (HR2.out _ (by exact HSL.out _ (by assumption))).mono ?_; rintro e WK ⟨rfl, hbK⟩; have hSK := HLF.out _ _ (by assumption) hbK) | (go_at_call 25; refine (sane37 _).mono ?_; rintro e WK ⟨rfl, hbK⟩; have hSK := HLF.out _ _ (by assumption) hbK))
            all_goals
              have HBF := Lib.hid hSK.2.2.2.2.2.2.2.2
              go_wp2_with fail
              go_ret
              exact ⟨rfl, HBF.out⟩

end Go.Proofs.Ytfmdnhhdjjndbaa
