/- The walk of TrustlinesMove: moving an asset keeps what is issued. -/
import Derived.Test.YtfmdnhhdjjndbaaT37p
namespace Go.Proofs.Ytfmdnhhdjjndbaa
set_option linter.unusedVariables false
set_option linter.unusedSimpArgs false
open Go.RowKit

set_option maxRecDepth 100000 in
set_option maxHeartbeats 8000000 in
theorem walkTrustlinesMove (a0 : Option Addr) (len0 cap0 : Nat) (z0 : List Int) (a1 : Int) (w : World) (w0 : IsRow .i64 w a0 len0 cap0 z0) (w1 : (Lit.int .u16 a1).wf = true) :
    Calls Try.prog 7 #[.slice a0 len0 cap0, .int .u16 a1] w fun e w' => e = .returned (.bool true) ∧ Below w.heap.size w w' := by
  have hu : 0 ≤ a1 ∧ a1 ≤ 65535 := (show IntKind.u16.min ≤ a1 ∧ a1 ≤ IntKind.u16.max by simpa [Lit.wf] using w1)
  clear w1
  have HR := Lib.hid w0
  clear w0
  go_enter Try.func7, Try.ntmps7
  go_wp2_with fail
  refine (New_run _ _ _ _ _ HR.out).mono ?_
  rintro e v1 ⟨rfl, hs1, hb1⟩
  have HS1 := Lib.hid hs1
  have HB1 := Lib.hid hb1
  clear hs1 hb1
  go_wp2_with fail
  refine (Ledger_run _ _ HS1.out).mono ?_
  rintro e v2 ⟨g, va, vl, vo, rfl, hg⟩
  obtain ⟨A, c, B, c2, C, c3, hva, hvl, hvo, hc, _, hc2, _, hc3, _⟩ := hg.at_.form
  subst hva
  subst hvl
  subst hvo
  have HW := Lib.hid hg.ok.w
  have HID := Lib.hid hg.acc
  have hn1 := hg.n1
  have hn5 := hg.n5
  have HL2 := Lib.hid hg.at_
  have HB2 := Lib.hid (show Below w.heap.size w v2 from Below.grown HB1.out hg.gr HB1.out.size (fun j hj => by cases hj; exact Nat.le_refl _))
  have hml := hg.ok.lines.len
  have HSR := Lib.hid hg.src
  have HGR := Lib.hid hg.gr
  clear hg
  obtain ⟨n, hn⟩ : ∃ x, g.accs.length = x := ⟨_, rfl⟩
  obtain ⟨m, hm⟩ : ∃ x, g.lines.length = x := ⟨_, rfl⟩
  obtain ⟨mo, hmo⟩ : ∃ x, g.offers.length = x := ⟨_, rfl⟩
  have HN := Lib.hid (And.intro hn (And.intro hm hmo))
  unfold valG
  rw [hn] at hc hn1 hn5 HL2 ⊢
  rw [hm] at hc2 hml HL2 ⊢
  rw [hmo] at hc3 HL2 ⊢
  clear hn hm hmo
  have HX3 := Lib.hid (show HasB v2.heap.size (.cells #[.int .i64 g.number, .slice A n c, .slice B m c2, .slice C mo c3, .int .i64 g.next, .int .i64 g.fees, .int .u64 g.link] 30 (0, 0)) (v2.alloc (.cells #[.int .i64 g.number, .slice A n c, .slice B m c2, .slice C mo c3, .int .i64 g.next, .int .i64 g.fees, .int .u64 g.link] 30)) from heap_alloc_new _ _)
  have hv1 : w.heap.size < v1.heap.size := HS1.out.lt
  have HL3 := Lib.hid (show LedAt (fun b => w.heap.size < b) (v2.alloc (.cells #[.int .i64 g.number, .slice A n c, .slice B m c2, .slice C mo c3, .int .i64 g.next, .int .i64 g.fees, .int .u64 g.link] 30)) (.slice A n c) (.slice B m c2) (.slice C mo c3) g from (HL2.out.both (Nat.le_refl _) (fun _ _ _ => rfl) (fun b _ hp => Nat.lt_of_lt_of_le hv1 hp)).alloc _)
  have HB3 := Lib.hid (balloc HB2.out (.cells #[.int .i64 g.number, .slice A n c, .slice B m c2, .slice C mo c3, .int .i64 g.next, .int .i64 g.fees, .int .u64 g.link] 30))
  have HS3 := Lib.hid (HSR.out.alloc (.cells #[.int .i64 g.number, .slice A n c, .slice B m c2, .slice C mo c3, .int .i64 g.next, .int .i64 g.fees, .int .u64 g.link] 30))
  have hgb : w.heap.size < v2.heap.size := HSR.out.lt
  clear HL2 HSR HGR HS1 HB1 HB2
  go_upto_region 3 with fail
  generalize v2.alloc (.cells #[.int .i64 g.number, .slice A n c, .slice B m c2, .slice C mo c3, .int .i64 g.next, .int .i64 g.fees, .int .u64 g.link] 30) = v3 at *
  generalize v2.heap.size = gb at *
  clear hv1
  go_cut [7] (fun p W => ∃ (ab s : Nat), p = .pointer (some ⟨ab, 0, none⟩) ∧ 1 ≤ s ∧ s ≤ 2 ∧ w.heap.size < ab ∧ Hid (HasB ab (.cells #[.string (codeOf s), .int .i64 (issOf s)] 49 (0, 0)) W) ∧ Hid (HasB gb (.cells #[.int .i64 g.number, .slice A n c, .slice B m c2, .slice C mo c3, .int .i64 g.next, .int .i64 g.fees, .int .u64 g.link] 30 (0, 0)) W) ∧ Hid (LedAt (fun b => w.heap.size < b) W (.slice A n c) (.slice B m c2) (.slice C mo c3) g) ∧ Hid (SrcOk W w.heap.size) ∧ Hid (Below w.heap.size w W))
  case first =>
    go_wp2_with fail
    refine (Usd_run _).mono ?_
    rintro e v4 ⟨rfl, hb4⟩
    go_wp2_with fail
    refine (Eur_run _).mono ?_
    rintro e v5 ⟨rfl, hb5⟩
    have hb45 := bstep hb4 hb5
    have HX5 := Lib.hid (HX3.out.below hb45)
    have HL5 := Lib.hid (HL3.out.below hb45)
    have HS5 := Lib.hid (HS3.out.below hb45)
    have HB5 := Lib.hid (bstep HB3.out hb45)
    clear hb4 hb5 hb45
    go_wp2_with fail
    refine (N_run _ w.heap.size 2 (by omega) (by omega) (HS5.out.alloc _)).mono ?_
    rintro e v6 ⟨r, hr0, hr1, rfl, hs6, hg6⟩
    have hrow : v6.heap[v5.heap.size]? = some (.cells #[.string (codeOf 1), .int .i64 (issOf 1), .string (codeOf 2), .int .i64 (issOf 2)] 49 (0, 0)) := by
      rw [hg6.block v5.heap.size (by simp) (fun e => by
        have e2 := Option.some.inj e
        have := HS5.out.lt
        omega)]
      exact heap_alloc_new _ _
    have c0 : v6.cell? ⟨v5.heap.size, 0, none⟩ = some (.string (codeOf 1)) := cell_of_row _ _ 0 _ _ (0, 0) hrow
    have c1 : v6.cell? ⟨v5.heap.size, 1, none⟩ = some (.int .i64 (issOf 1)) := cell_of_row _ _ 1 _ _ (0, 0) hrow
    have c2' : v6.cell? ⟨v5.heap.size, 2, none⟩ = some (.string (codeOf 2)) := cell_of_row _ _ 2 _ _ (0, 0) hrow
    have c3' : v6.cell? ⟨v5.heap.size, 3, none⟩ = some (.int .i64 (issOf 2)) := cell_of_row _ _ 3 _ _ (0, 0) hrow
    have HX6 := Lib.hid ((HX5.out.alloc (.cells #[.string (codeOf 1), .int .i64 (issOf 1), .string (codeOf 2), .int .i64 (issOf 2)] 49)).grown hg6 (by omega))
    have HL6 := Lib.hid ((HL5.out.alloc (.cells #[.string (codeOf 1), .int .i64 (issOf 1), .string (codeOf 2), .int .i64 (issOf 2)] 49)).grown hg6)
    have HB6 := Lib.hid (bgrow (balloc HB5.out (.cells #[.string (codeOf 1), .int .i64 (issOf 1), .string (codeOf 2), .int .i64 (issOf 2)] 49)) hg6 (Nat.le_refl _))
    have HS6 := Lib.hid hs6
    have hl6 := hs6.lt
    clear hrow hs6 hg6
    obtain ⟨q, rfl⟩ := Int.eq_ofNat_of_zero_le hr0
    have hq : q < 2 := by omega
    match q, hq with
    | 0, _ =>
      have HA7 := Lib.hid (show HasB v6.heap.size (.cells #[.string (codeOf 1), .int .i64 (issOf 1)] 49 (0, 0)) (v6.alloc (.cells #[.string (codeOf 1), .int .i64 (issOf 1)] 49)) from heap_alloc_new _ _)
      go_wp2_with fail
      go_meet
      exact ⟨_, 1, rfl, by omega, by omega, hl6, HA7, Lib.hid (HX6.out.alloc (.cells #[.string (codeOf 1), .int .i64 (issOf 1)] 49)), Lib.hid (HL6.out.alloc (.cells #[.string (codeOf 1), .int .i64 (issOf 1)] 49)), Lib.hid (HS6.out.alloc (.cells #[.string (codeOf 1), .int .i64 (issOf 1)] 49)), Lib.hid (balloc HB6.out (.cells #[.string (codeOf 1), .int .i64 (issOf 1)] 49))⟩
    | 1, _ =>
      have HA7 := Lib.hid (show HasB v6.heap.size (.cells #[.string (codeOf 2), .int .i64 (issOf 2)] 49 (0, 0)) (v6.alloc (.cells #[.string (codeOf 2), .int .i64 (issOf 2)] 49)) from heap_alloc_new _ _)
      go_wp2_with fail
      go_meet
      exact ⟨_, 2, rfl, by omega, by omega, hl6, HA7, Lib.hid (HX6.out.alloc (.cells #[.string (codeOf 2), .int .i64 (issOf 2)] 49)), Lib.hid (HL6.out.alloc (.cells #[.string (codeOf 2), .int .i64 (issOf 2)] 49)), Lib.hid (HS6.out.alloc (.cells #[.string (codeOf 2), .int .i64 (issOf 2)] 49)), Lib.hid (balloc HB6.out (.cells #[.string (codeOf 2), .int .i64 (issOf 2)] 49))⟩
  case rest =>
    clear HX3 HL3 HB3 HS3
    obtain ⟨ab, s, rfl, hs1, hs2, hab, HA, HX, HL, HS, HB⟩ := hcut
    have hmd : (IntKind.i64.wrap a1).tmod 300 = a1 % 300 := by rw [IntWalk.i64_in a1 (by omega), Int.tmod_eq_emod_of_nonneg (by omega)]
    obtain ⟨mm, hf, hf0, hf1⟩ : ∃ f : Int, (IntKind.i64.wrap a1).tmod 300 = f ∧ 0 ≤ f ∧ f < 300 := ⟨_, rfl, by rw [hmd]; omega, by rw [hmd]; omega⟩
    have HF := Lib.hid hf
    clear hmd hf
    go_upto_region 4 with fail
    have hS : Cs [(⟨gb, 0, none⟩, .int .i64 g.number), (⟨gb, 1, none⟩, .slice A n c), (⟨gb, 2, none⟩, .slice B m c2), (⟨gb, 3, none⟩, .slice C mo c3), (⟨gb, 4, none⟩, .int .i64 g.next), (⟨gb, 5, none⟩, .int .i64 g.fees), (⟨gb, 6, none⟩, .int .u64 g.link)] wc.drew ∧ HasB ab (.cells #[.string (codeOf s), .int .i64 (issOf s)] 49 (0, 0)) wc.drew ∧ HasB gb (.cells #[.int .i64 g.number, .slice A n c, .slice B m c2, .slice C mo c3, .int .i64 g.next, .int .i64 g.fees, .int .u64 g.link] 30 (0, 0)) wc.drew ∧ LedAt (fun b => w.heap.size < b) wc.drew (.slice A n c) (.slice B m c2) (.slice C mo c3) g ∧ SrcOk wc.drew w.heap.size ∧ Below w.heap.size w wc.drew := ⟨HX.out.cs7.drew, HA.out.below (bdrew (bref _)), HX.out.below (bdrew (bref _)), HL.out.below (bdrew (bref _)), HS.out.drew, bdrew HB.out⟩
    clear HA HX HL HS HB
    refine wp_region_held_drew (S := (fun W => Cs [(⟨gb, 0, none⟩, .int .i64 g.number), (⟨gb, 1, none⟩, .slice A n c), (⟨gb, 2, none⟩, .slice B m c2), (⟨gb, 3, none⟩, .slice C mo c3), (⟨gb, 4, none⟩, .int .i64 g.next), (⟨gb, 5, none⟩, .int .i64 g.fees), (⟨gb, 6, none⟩, .int .u64 g.link)] W ∧ HasB ab (.cells #[.string (codeOf s), .int .i64 (issOf s)] 49 (0, 0)) W ∧ HasB gb (.cells #[.int .i64 g.number, .slice A n c, .slice B m c2, .slice C mo c3, .int .i64 g.next, .int .i64 g.fees, .int .u64 g.link] 30 (0, 0)) W ∧ LedAt (fun b => w.heap.size < b) W (.slice A n c) (.slice B m c2) (.slice C mo c3) g ∧ SrcOk W w.heap.size ∧ Below w.heap.size w W)) (by kernel_rfl) hS (fun hSK => ?_)
    clear hS
    refine take_d (some 27) (i := 0) (v := ?_) rfl rfl (by kernel_rfl) (by kernel_rfl) (by kernel_rfl) (fun _ _ _ h => h) (Or.inl ⟨by rfl, ?_⟩) (by assumption) ?_
    rotate_left
    · intro w hSw; (dsimp only [Cs] at hSw); go_simp; (try with_reducible rfl)
    try simp only [Act.put, List.setIfInBounds_toArray, List.set_cons_zero, List.set_cons_succ]
    refine take_d (some 28) (i := 1) (v := ?_) rfl rfl (by kernel_rfl) (by kernel_rfl) (by kernel_rfl) (fun _ _ _ h => h) (Or.inl ⟨by rfl, ?_⟩) (by assumption) ?_
    rotate_left
    · intro w hSw; (dsimp only [Cs] at hSw); go_simp; (try with_reducible rfl)
    try simp only [Act.put, List.setIfInBounds_toArray, List.set_cons_zero, List.set_cons_succ]
    refine take_d (some 29) (i := 2) (v := ?_) rfl rfl (by kernel_rfl) (by kernel_rfl) (by kernel_rfl) (fun _ _ _ h => h) (Or.inl ⟨by rfl, ?_⟩) (by assumption) ?_
    rotate_left
    · intro w hSw; (dsimp only [Cs] at hSw); go_simp; (try with_reducible rfl)
    try simp only [Act.put, List.setIfInBounds_toArray, List.set_cons_zero, List.set_cons_succ]
    refine take_d (some 30) (i := 3) (v := ?_) rfl rfl (by kernel_rfl) (by kernel_rfl) (by kernel_rfl) (fun _ _ _ h => h) (Or.inl ⟨by rfl, ?_⟩) (by assumption) ?_
    rotate_left
    · intro w hSw; (dsimp only [Cs] at hSw); go_simp; (try with_reducible rfl)
    try simp only [Act.put, List.setIfInBounds_toArray, List.set_cons_zero, List.set_cons_succ]
    refine take_d (some 32) (i := 5) (v := ?_) rfl rfl (by kernel_rfl) (by kernel_rfl) (by kernel_rfl) (fun _ _ _ h => h) (Or.inl ⟨by rfl, ?_⟩) (by assumption) ?_
    rotate_left
    · intro w hSw; (dsimp only [Cs] at hSw); go_simp; (try with_reducible rfl)
    try simp only [Act.put, List.setIfInBounds_toArray, List.set_cons_zero, List.set_cons_succ]
    refine take_d (some 33) (i := 6) (v := ?_) rfl rfl (by kernel_rfl) (by kernel_rfl) (by kernel_rfl) (fun _ _ _ h => h) (Or.inl ⟨by rfl, ?_⟩) (by assumption) ?_
    rotate_left
    · intro w hSw; (dsimp only [Cs] at hSw); go_simp; (try with_reducible rfl)
    try simp only [Act.put, List.setIfInBounds_toArray, List.set_cons_zero, List.set_cons_succ]
    refine take_d (some 34) (i := 7) (v := ?_) rfl rfl (by kernel_rfl) (by kernel_rfl) (by kernel_rfl) (fun _ _ _ h => h) (Or.inl ⟨by rfl, ?_⟩) (by assumption) ?_
    rotate_left
    · intro w hSw; (dsimp only [Cs] at hSw); go_simp; (try with_reducible rfl)
    try simp only [Act.put, List.setIfInBounds_toArray, List.set_cons_zero, List.set_cons_succ]
    refine take_d (some 35) (i := 8) (v := ?_) rfl rfl (by kernel_rfl) (by kernel_rfl) (by kernel_rfl) (fun _ _ _ h => h) (Or.inl ⟨by rfl, ?_⟩) (by assumption) ?_
    rotate_left
    · intro w hSw; (dsimp only [Cs] at hSw); go_simp; (try with_reducible rfl)
    try simp only [Act.put, List.setIfInBounds_toArray, List.set_cons_zero, List.set_cons_succ]
    refine take_d (some 37) (i := 10) (v := ?_) rfl rfl (by kernel_rfl) (by kernel_rfl) (by kernel_rfl) (fun _ _ _ h => h) (Or.inl ⟨by rfl, ?_⟩) (by assumption) ?_
    rotate_left
    · intro w hSw; (dsimp only [Cs] at hSw); go_simp; (try with_reducible rfl)
    try simp only [Act.put, List.setIfInBounds_toArray, List.set_cons_zero, List.set_cons_succ]
    refine take_d (some 38) (i := 11) (v := ?_) rfl rfl (by kernel_rfl) (by kernel_rfl) (by kernel_rfl) (fun _ _ _ h => h) (Or.inl ⟨by rfl, ?_⟩) (by assumption) ?_
    rotate_left
    · intro w hSw; (dsimp only [Cs] at hSw); go_simp; (try with_reducible rfl)
    try simp only [Act.put, List.setIfInBounds_toArray, List.set_cons_zero, List.set_cons_succ]
    refine take_d (some 39) (i := 12) (v := ?_) rfl rfl (by kernel_rfl) (by kernel_rfl) (by kernel_rfl) (fun _ _ _ h => h) (Or.inl ⟨by rfl, ?_⟩) (by assumption) ?_
    rotate_left
    · intro w hSw; (dsimp only [Cs] at hSw); go_simp; (try with_reducible rfl)
    try simp only [Act.put, List.setIfInBounds_toArray, List.set_cons_zero, List.set_cons_succ]
    refine wpAnyH_ready (rs := [4]) (by kernel_rfl) (by simp) ?_
    refine AllReadyH.cons rfl (fun K hK => ?_) AllReadyH.nil
    go_simp
    refine (Range_run _ _ 1 (n : Int) (by omega) (by omega) (by omega) hSK.2.2.2.2.1).mono ?_
    rintro e wK ⟨ia, ia0, ia1, rfl, hsK, hgK⟩
    go_wp2_with fail
    refine hK.out _ _ ?_ (fun hHeld => ?_)
    · have hx := hSK.2.2.1.grown hgK (by omega); exact ⟨hx.cs7, hSK.2.1.grown hgK (by omega), hx, hSK.2.2.2.1.grown hgK, hsK, bgrow hSK.2.2.2.2.2 hgK (Nat.le_refl _)⟩
    clear hSK
    have hSK := hHeld
    clear hHeld
    clear hK K
    try simp only [Act.put, List.setIfInBounds_toArray, List.set_cons_zero, List.set_cons_succ]
    refine wpAnyH_ready (rs := [9]) (by kernel_rfl) (by simp) ?_
    refine AllReadyH.cons rfl (fun K hK => ?_) AllReadyH.nil
    go_simp
    refine (Range_run _ _ 1 (n : Int) (by omega) (by omega) (by omega) hSK.2.2.2.2.1).mono ?_
    rintro e wK ⟨ib, ib0, ib1, rfl, hsK, hgK⟩
    go_wp2_with fail
    refine hK.out _ _ ?_ (fun hHeld => ?_)
    · have hx := hSK.2.2.1.grown hgK (by omega); exact ⟨hx.cs7, hSK.2.1.grown hgK (by omega), hx, hSK.2.2.2.1.grown hgK, hsK, bgrow hSK.2.2.2.2.2 hgK (Nat.le_refl _)⟩
    clear hSK
    have hSK := hHeld
    clear hHeld
    clear hK K
    try simp only [Act.put, List.setIfInBounds_toArray, List.set_cons_zero, List.set_cons_succ]
    refine take_d (some 8) (i := 13) (v := ?_) rfl rfl (by kernel_rfl) (by kernel_rfl) (by kernel_rfl) (fun _ _ _ h => h) (Or.inl ⟨by rfl, ?_⟩) (by assumption) ?_
    rotate_left
    · intro w hSw; (dsimp only [Cs] at hSw); go_simp; (try with_reducible rfl)
    try simp only [Act.put, List.setIfInBounds_toArray, List.set_cons_zero, List.set_cons_succ]
    refine take_d (some 9) (i := 14) (v := ?_) rfl rfl (by kernel_rfl) (by kernel_rfl) (by kernel_rfl) (fun _ _ _ h => h) (Or.inl ⟨by rfl, ?_⟩) (by assumption) ?_
    rotate_left
    · intro w hSw; (dsimp only [Cs] at hSw); go_simp; (try with_reducible rfl)
    try simp only [Act.put, List.setIfInBounds_toArray, List.set_cons_zero, List.set_cons_succ]
    refine take_d (some 10) (i := 15) (v := ?_) rfl rfl (by kernel_rfl) (by kernel_rfl) (by kernel_rfl) (fun _ _ _ h => h) (Or.inl ⟨by rfl, ?_⟩) (by assumption) ?_
    rotate_left
    · intro w hSw; (dsimp only [Cs] at hSw); go_simp; (try with_reducible rfl)
    try simp only [Act.put, List.setIfInBounds_toArray, List.set_cons_zero, List.set_cons_succ]
    refine wpAnyH_done (by kernel_rfl) ?_ _
    have HA4 := Lib.hid hSK.2.1
    have HX4 := Lib.hid hSK.2.2.1
    have HL4 := Lib.hid hSK.2.2.2.1
    have HB4 := Lib.hid hSK.2.2.2.2.2
    have hia : hasA ia g.accs = true := HID.out.has ia0 (by rw [HN.out.1]; exact ia1)
    have hib : hasA ib g.accs = true := HID.out.has ib0 (by rw [HN.out.1]; exact ib1)
    clear hSK
    rw [HF.out]
    go_upto_region 5 with fail
    generalize hwk : wK = W4 at *
    clear hwk HF
    have HIA := Lib.hid hia
    have HIB := Lib.hid hib
    clear hia hib
    have HDB := Lib.hid (debit_run _ g ia mm s (.slice A n c) (.slice B m c2) (.slice C mo c3) W4 hs2 hf0 (by omega) HW.out HIA.out HL4.out)
    obtain ⟨E, hE⟩ : ∃ E, chgE (takeE mm) (dbE mm) g ia s = E := ⟨_, rfl⟩
    obtain ⟨x, hx⟩ : ∃ x, chgG (takeE mm) (takeU mm) (dbE mm) (dbU mm) g ia s = x := ⟨_, rfl⟩
    have HOK := Lib.hid (fun h0 : E = 0 => db_ok HW.out hs1 hf0 (hE.trans h0))
    have HBAD := Lib.hid (fun h0 : E ≠ 0 => hx.symm.trans (chgG_bad (g := g) (i := ia) (s := s) (ea := takeE mm) (el := dbE mm) (ua := takeU mm) (ul := dbU mm) (by rw [hE]; exact h0)))
    rw [hE, hx] at HDB
    rw [hx] at HOK
    have HISG := Lib.hid (issT_all (s := s) HW.out.lines)
    clear hE hx
    unfold valG valS at HDB
    obtain ⟨x_0, x_1, x_2, x_3, x_4, x_5, x_6, _⟩ := HX4.out.cs7
    obtain ⟨s_0, s_1, _⟩ := HA4.out.cs2
    go_wp2_with fail
    refine HDB.out.mono ?_
    rintro e v5 ⟨va5, vl5, vo5, rfl, hl5, hb5⟩
    obtain ⟨A9, c9, B9, d9, C9, e9, rfl, rfl, rfl, _⟩ := hl5.form
    have hba := balloc (bref v5) (.cells #[.int .i64 x.number, .slice A9 x.accs.length c9, .slice B9 x.lines.length d9, .slice C9 x.offers.length e9, .int .i64 x.next, .int .i64 x.fees, .int .u64 x.link] 30)
    have HX5 := Lib.hid ((HX4.out.below hb5).below hba)
    have HA5 := Lib.hid ((HA4.out.below hb5).below hba)
    have HL5 := Lib.hid ((HL4.out.below hb5).below hba)
    have HB5 := Lib.hid (bstep (bstep HB4.out hb5) hba)
    have HXL := Lib.hid (hl5.below hba)
    have HXB := Lib.hid (show HasB v5.heap.size (.cells #[.int .i64 x.number, .slice A9 x.accs.length c9, .slice B9 x.lines.length d9, .slice C9 x.offers.length e9, .int .i64 x.next, .int .i64 x.fees, .int .u64 x.link] 30 (0, 0)) (v5.alloc (.cells #[.int .i64 x.number, .slice A9 x.accs.length c9, .slice B9 x.lines.length d9, .slice C9 x.offers.length e9, .int .i64 x.next, .int .i64 x.fees, .int .u64 x.link] 30)) from heap_alloc_new _ _)
    clear x_0 x_1 x_2 x_3 x_4 x_5 x_6 s_0 s_1 hba hb5 hl5 HDB HX4 HA4 HL4 HB4
    go_upto_region 6 with fail
    generalize v5.alloc (.cells #[.int .i64 x.number, .slice A9 x.accs.length c9, .slice B9 x.lines.length d9, .slice C9 x.offers.length e9, .int .i64 x.next, .int .i64 x.fees, .int .u64 x.link] 30) = W5 at *
    generalize v5.heap.size = xb at *
    obtain ⟨PX, hPX⟩ : ∃ P : Nat → Prop, (fun b => W4.heap.size ≤ b) = P := ⟨_, rfl⟩
    rw [hPX] at HXL
    clear hPX
    rcases Decidable.em (E = 0) with h0 | h0
    · subst h0
      obtain ⟨hxw, hxa, hxi⟩ := HOK.out rfl
      have HXW := Lib.hid hxw
      have HXI := Lib.hid hxi
      have HIX := Lib.hid (show hasA ib x.accs = true by rw [hxa]; exact HIB.out)
      clear hxw hxa hxi HOK HBAD
      have HCR := Lib.hid (fun W hW => credit_run PX x ib mm s (.slice A9 x.accs.length c9) (.slice B9 x.lines.length d9) (.slice C9 x.offers.length e9) W hs2 hf0 (by omega) HXW.out HIX.out hW)
      obtain ⟨F, hF⟩ : ∃ F, chgE (giveE mm) (crE mm) x ib s = F := ⟨_, rfl⟩
      obtain ⟨y, hy⟩ : ∃ y, chgG (giveE mm) (giveU mm) (crE mm) (crU mm) x ib s = y := ⟨_, rfl⟩
      have HOK := Lib.hid (fun h0 : F = 0 => cr_ok HXW.out hs1 hf0 (hF.trans h0))
      have HBAD := Lib.hid (fun h0 : F ≠ 0 => (hF.symm.trans (cr_bad hs1 (by rw [hF]; exact h0)) : F = 70))
      rw [hF, hy] at HCR
      rw [hy] at HOK
      clear hF hy
      unfold valG valS at HCR
      obtain ⟨x_0, x_1, x_2, x_3, x_4, x_5, x_6, _⟩ := HXB.out.cs7
      obtain ⟨s_0, s_1, _⟩ := HA5.out.cs2
      go_wp2_with fail
      refine (HCR.out _ HXL.out).mono ?_
      rintro e v6 ⟨va6, vl6, vo6, rfl, hl6, hb6⟩
      obtain ⟨A8, c8, B8, d8, C8, e8, rfl, rfl, rfl, _⟩ := hl6.form
      have hba := balloc (bref v6) (.cells #[.int .i64 y.number, .slice A8 y.accs.length c8, .slice B8 y.lines.length d8, .slice C8 y.offers.length e8, .int .i64 y.next, .int .i64 y.fees, .int .u64 y.link] 30)
      have HX6 := Lib.hid ((HX5.out.below hb6).below hba)
      have HA6 := Lib.hid ((HA5.out.below hb6).below hba)
      have HL6 := Lib.hid ((HL5.out.below hb6).below hba)
      have HB6 := Lib.hid (bstep (bstep HB5.out hb6) hba)
      have HYL := Lib.hid (hl6.below hba)
      have HYB := Lib.hid (show HasB v6.heap.size (.cells #[.int .i64 y.number, .slice A8 y.accs.length c8, .slice B8 y.lines.length d8, .slice C8 y.offers.length e8, .int .i64 y.next, .int .i64 y.fees, .int .u64 y.link] 30 (0, 0)) (v6.alloc (.cells #[.int .i64 y.number, .slice A8 y.accs.length c8, .slice B8 y.lines.length d8, .slice C8 y.offers.length e8, .int .i64 y.next, .int .i64 y.fees, .int .u64 y.link] 30)) from heap_alloc_new _ _)
      clear x_0 x_1 x_2 x_3 x_4 x_5 x_6 s_0 s_1 hba hb6 hl6 HCR HX5 HA5 HL5 HB5 HXL HXB
      go_upto_region 9 with fail
      generalize v6.alloc (.cells #[.int .i64 y.number, .slice A8 y.accs.length c8, .slice B8 y.lines.length d8, .slice C8 y.offers.length e8, .int .i64 y.next, .int .i64 y.fees, .int .u64 y.link] 30) = W6 at *
      generalize v6.heap.size = yb at *
      obtain ⟨PY, hPY⟩ : ∃ P : Nat → Prop, (fun b => W5.heap.size ≤ b) = P := ⟨_, rfl⟩
      rw [hPY] at HYL
      clear hPY
      rcases Decidable.em (F = 0) with h0 | h0
      · subst h0
        obtain ⟨hyw, hya, hyi⟩ := HOK.out rfl
        obtain ⟨ch, hch⟩ : ∃ ch : Int, (if issOf s = ia then mm else 0) - (if issOf s = ib then mm else 0) = ch := ⟨_, rfl⟩
        have hyt : issT s y.lines = issT s g.lines + ch := by
          rw [hyi, HXI.out, ← hch]
          split <;> split <;> omega
        have HYT := Lib.hid hyt
        have HYW := Lib.hid hyw
        have hcb : -300 ≤ ch ∧ ch ≤ 300 := by
          rw [← hch]
          split <;> split <;> omega
        clear hyw hya hyi HOK HBAD hyt
        have HCH := Lib.hid hch
        clear hch
        obtain ⟨s_0, s_1, _⟩ := HA6.out.cs2
        obtain ⟨c1, hc1⟩ : ∃ c1 : Int, (if issOf s = ia then mm else 0) = c1 := ⟨_, rfl⟩
        have hcb1 : 0 ≤ c1 ∧ c1 ≤ 300 := by
          rw [← hc1]
          split <;> omega
        have HC1 := Lib.hid hc1
        clear hc1
        go_upto_if 76 with fail
        go_cut [15] (fun q W => q = .int .i64 c1 ∧ W = W6)
        case first =>
          have hc := HC1.out
          rcases Decidable.em (ia = issOf s) with h1 | h1
          · rw [if_pos h1.symm] at hc
            have q1 : (ia == issOf s) = true := by simpa using h1
            have HC := Lib.hid hc
            clear h1 hc
            go_wp2_with fail
            go_meet
            exact ⟨by rw [← HC.out], rfl⟩
          · rw [if_neg (fun e => h1 e.symm)] at hc
            have q1 : (ia == issOf s) = false := by simpa using h1
            have HC := Lib.hid hc
            clear h1 hc
            go_wp2_with fail
            go_meet
            exact ⟨by rw [← HC.out], rfl⟩
        case rest =>
          obtain ⟨rfl, hwc⟩ := hcut
          subst hwc
          go_upto_if 83 with fail
          go_cut [15] (fun q W => q = .int .i64 ch ∧ W = wc)
          case first =>
            have hc := HCH.out
            rw [HC1.out] at hc
            rcases Decidable.em (ib = issOf s) with h1 | h1
            · rw [if_pos h1.symm] at hc
              have q1 : (ib == issOf s) = true := by simpa using h1
              have HC := Lib.hid hc
              clear h1 hc
              go_wp2_with fail
              go_meet
              exact ⟨by rw [← HC.out], rfl⟩
            · rw [if_neg (fun e => h1 e.symm)] at hc
              have q1 : (ib == issOf s) = false := by simpa using h1
              have HC := Lib.hid (show c1 = ch by omega)
              clear h1 hc
              go_wp2_with fail
              go_meet
              exact ⟨by rw [← HC.out], rfl⟩
          case rest =>
            obtain ⟨rfl, hwc⟩ := hcut
            subst hwc
            clear s_0 s_1
            have HIY := Lib.hid (fun W hW => issued_w PY y s (.slice B8 y.lines.length d8) W hs2 HYW.out hW)
            rw [HYT.out] at HIY
            have HIG := Lib.hid (fun W (hW : LinAt (fun b => w.heap.size < b) W (.slice B m c2) g.lines) => issued_w _ g s (.slice B m c2) W hs2 HW.out hW)
            have HCK := Lib.hid (fun W (hW : LedAt PY W (.slice A8 y.accs.length c8) (.slice B8 y.lines.length d8) (.slice C8 y.offers.length e8) y) => tcheck_run PY PY y.accs y.lines (.slice B8 y.lines.length d8) (.slice A8 y.accs.length c8) W HYW.out.accs HYW.out.lines hW.l hW.a)
            unfold valS at HIY HIG
            have hig := HISG.out
            generalize issT s g.lines = T at *
            have hwt : IntKind.i64.wrap (T + ch) = T + ch := IntWalk.i64_in _ (by omega)
            go_upto_region 16 with fail
            have hS : Cs [(⟨yb, 0, none⟩, .int .i64 y.number), (⟨yb, 1, none⟩, .slice A8 y.accs.length c8), (⟨yb, 2, none⟩, .slice B8 y.lines.length d8), (⟨yb, 3, none⟩, .slice C8 y.offers.length e8), (⟨yb, 4, none⟩, .int .i64 y.next), (⟨yb, 5, none⟩, .int .i64 y.fees), (⟨yb, 6, none⟩, .int .u64 y.link), (⟨gb, 0, none⟩, .int .i64 g.number), (⟨gb, 1, none⟩, .slice A n c), (⟨gb, 2, none⟩, .slice B m c2), (⟨gb, 3, none⟩, .slice C mo c3), (⟨gb, 4, none⟩, .int .i64 g.next), (⟨gb, 5, none⟩, .int .i64 g.fees), (⟨gb, 6, none⟩, .int .u64 g.link), (⟨ab, 0, none⟩, .string (codeOf s)), (⟨ab, 1, none⟩, .int .i64 (issOf s))] wc.drew ∧ LedAt PY wc.drew (.slice A8 y.accs.length c8) (.slice B8 y.lines.length d8) (.slice C8 y.offers.length e8) y ∧ LedAt (fun b => w.heap.size < b) wc.drew (.slice A n c) (.slice B m c2) (.slice C mo c3) g ∧ Below w.heap.size w wc.drew := ⟨Cs.app (Cs.app HYB.out.cs7.drew HX6.out.cs7.drew) HA6.out.cs2.drew, HYL.out.below (bdrew (bref _)), HL6.out.below (bdrew (bref _)), bdrew HB6.out⟩
            clear HYB HX6 HA6 HYL HL6 HB6
            refine wp_region_held_drew (S := (fun W => Cs [(⟨yb, 0, none⟩, .int .i64 y.number), (⟨yb, 1, none⟩, .slice A8 y.accs.length c8), (⟨yb, 2, none⟩, .slice B8 y.lines.length d8), (⟨yb, 3, none⟩, .slice C8 y.offers.length e8), (⟨yb, 4, none⟩, .int .i64 y.next), (⟨yb, 5, none⟩, .int .i64 y.fees), (⟨yb, 6, none⟩, .int .u64 y.link), (⟨gb, 0, none⟩, .int .i64 g.number), (⟨gb, 1, none⟩, .slice A n c), (⟨gb, 2, none⟩, .slice B m c2), (⟨gb, 3, none⟩, .slice C mo c3), (⟨gb, 4, none⟩, .int .i64 g.next), (⟨gb, 5, none⟩, .int .i64 g.fees), (⟨gb, 6, none⟩, .int .u64 g.link), (⟨ab, 0, none⟩, .string (codeOf s)), (⟨ab, 1, none⟩, .int .i64 (issOf s))] W ∧ LedAt PY W (.slice A8 y.accs.length c8) (.slice B8 y.lines.length d8) (.slice C8 y.offers.length e8) y ∧ LedAt (fun b => w.heap.size < b) W (.slice A n c) (.slice B m c2) (.slice C mo c3) g ∧ Below w.heap.size w W)) (by kernel_rfl) hS (fun hSK => ?_)
            clear hS
            refine take_d (some 87) (i := 0) (v := ?_) rfl rfl (by kernel_rfl) (by kernel_rfl) (by kernel_rfl) (fun _ _ _ h => h) (Or.inl ⟨by rfl, ?_⟩) (by assumption) ?_
            rotate_left
            · intro w hSw; (dsimp only [Cs] at hSw); go_simp; (try with_reducible rfl)
            try simp only [Act.put, List.setIfInBounds_toArray, List.set_cons_zero, List.set_cons_succ]
            refine take_d (some 88) (i := 1) (v := ?_) rfl rfl (by kernel_rfl) (by kernel_rfl) (by kernel_rfl) (fun _ _ _ h => h) (Or.inl ⟨by rfl, ?_⟩) (by assumption) ?_
            rotate_left
            · intro w hSw; (dsimp only [Cs] at hSw); go_simp; (try with_reducible rfl)
            try simp only [Act.put, List.setIfInBounds_toArray, List.set_cons_zero, List.set_cons_succ]
            refine take_d (some 89) (i := 2) (v := ?_) rfl rfl (by kernel_rfl) (by kernel_rfl) (by kernel_rfl) (fun _ _ _ h => h) (Or.inl ⟨by rfl, ?_⟩) (by assumption) ?_
            rotate_left
            · intro w hSw; (dsimp only [Cs] at hSw); go_simp; (try with_reducible rfl)
            try simp only [Act.put, List.setIfInBounds_toArray, List.set_cons_zero, List.set_cons_succ]
            refine take_d (some 91) (i := 4) (v := ?_) rfl rfl (by kernel_rfl) (by kernel_rfl) (by kernel_rfl) (fun _ _ _ h => h) (Or.inl ⟨by rfl, ?_⟩) (by assumption) ?_
            rotate_left
            · intro w hSw; (dsimp only [Cs] at hSw); go_simp; (try with_reducible rfl)
            try simp only [Act.put, List.setIfInBounds_toArray, List.set_cons_zero, List.set_cons_succ]
            refine take_d (some 92) (i := 5) (v := ?_) rfl rfl (by kernel_rfl) (by kernel_rfl) (by kernel_rfl) (fun _ _ _ h => h) (Or.inl ⟨by rfl, ?_⟩) (by assumption) ?_
            rotate_left
            · intro w hSw; (dsimp only [Cs] at hSw); go_simp; (try with_reducible rfl)
            try simp only [Act.put, List.setIfInBounds_toArray, List.set_cons_zero, List.set_cons_succ]
            refine take_d (some 93) (i := 6) (v := ?_) rfl rfl (by kernel_rfl) (by kernel_rfl) (by kernel_rfl) (fun _ _ _ h => h) (Or.inl ⟨by rfl, ?_⟩) (by assumption) ?_
            rotate_left
            · intro w hSw; (dsimp only [Cs] at hSw); go_simp; (try with_reducible rfl)
            try simp only [Act.put, List.setIfInBounds_toArray, List.set_cons_zero, List.set_cons_succ]
            refine take_d (some 95) (i := 8) (v := ?_) rfl rfl (by kernel_rfl) (by kernel_rfl) (by kernel_rfl) (fun _ _ _ h => h) (Or.inl ⟨by rfl, ?_⟩) (by assumption) ?_
            rotate_left
            · intro w hSw; (dsimp only [Cs] at hSw); go_simp; (try with_reducible rfl)
            try simp only [Act.put, List.setIfInBounds_toArray, List.set_cons_zero, List.set_cons_succ]
            refine wpAnyH_ready (rs := [3]) (by kernel_rfl) (by simp) ?_
            refine AllReadyH.cons rfl (fun K hK => ?_) AllReadyH.nil
            go_simp
            refine (HIY.out _ hSK.2.1.l).mono ?_
            rintro e wK ⟨rfl, hbK⟩
            go_wp2_with fail
            refine hK.out _ _ ?_ (fun hHeld => ?_)
            · exact ⟨Cs.below hSK.1 hbK, hSK.2.1.below hbK, hSK.2.2.1.below hbK, bstep hSK.2.2.2 hbK⟩
            clear hSK
            have hSK := hHeld
            clear hHeld
            clear hK K
            try simp only [Act.put, List.setIfInBounds_toArray, List.set_cons_zero, List.set_cons_succ]
            refine wpAnyH_ready (rs := [7]) (by kernel_rfl) (by simp) ?_
            refine AllReadyH.cons rfl (fun K hK => ?_) AllReadyH.nil
            go_simp
            refine (HIG.out _ hSK.2.2.1.l).mono ?_
            rintro e wK ⟨rfl, hbK⟩
            go_wp2_with fail
            refine hK.out _ _ ?_ (fun hHeld => ?_)
            · exact ⟨Cs.below hSK.1 hbK, hSK.2.1.below hbK, hSK.2.2.1.below hbK, bstep hSK.2.2.2 hbK⟩
            clear hSK
            have hSK := hHeld
            clear hHeld
            clear hK K
            try simp only [Act.put, List.setIfInBounds_toArray, List.set_cons_zero, List.set_cons_succ]
            refine take_d (some 96) (i := 9) (v := ?_) rfl rfl (by kernel_rfl) (by kernel_rfl) (by kernel_rfl) (fun _ _ _ h => h) (Or.inl ⟨by rfl, ?_⟩) (by assumption) ?_
            rotate_left
            · intro w hSw; (dsimp only [Cs] at hSw); go_simp; (try with_reducible rfl)
            try simp only [Act.put, List.setIfInBounds_toArray, List.set_cons_zero, List.set_cons_succ]
            refine take_d (some 97) (i := 10) (v := ?_) rfl rfl (by kernel_rfl) (by kernel_rfl) (by kernel_rfl) (fun _ _ _ h => h) (Or.inl ⟨by rfl, ?_⟩) (by assumption) ?_
            rotate_left
            · intro w hSw; (dsimp only [Cs] at hSw); go_simp; (try with_reducible rfl)
            try simp only [Act.put, List.setIfInBounds_toArray, List.set_cons_zero, List.set_cons_succ]
            refine take_d (some 98) (i := 11) (v := ?_) rfl rfl (by kernel_rfl) (by kernel_rfl) (by kernel_rfl) (fun _ _ _ h => h) (Or.inl ⟨by rfl, ?_⟩) (by assumption) ?_
            rotate_left
            · intro w hSw; (dsimp only [Cs] at hSw); go_simp; (try with_reducible rfl)
            try simp only [Act.put, List.setIfInBounds_toArray, List.set_cons_zero, List.set_cons_succ]
            refine take_d (some 99) (i := 12) (v := ?_) rfl rfl (by kernel_rfl) (by kernel_rfl) (by kernel_rfl) (fun _ _ _ h => h) (Or.inl ⟨by rfl, ?_⟩) (by assumption) ?_
            rotate_left
            · intro w hSw; (dsimp only [Cs] at hSw); go_simp; (try with_reducible rfl)
            try simp only [Act.put, List.setIfInBounds_toArray, List.set_cons_zero, List.set_cons_succ]
            refine take_d (some 100) (i := 13) (v := ?_) rfl rfl (by kernel_rfl) (by kernel_rfl) (by kernel_rfl) (fun _ _ _ h => h) (Or.inl ⟨by rfl, ?_⟩) (by assumption) ?_
            rotate_left
            · intro w hSw; (dsimp only [Cs] at hSw); go_simp; (try with_reducible rfl)
            try simp only [Act.put, List.setIfInBounds_toArray, List.set_cons_zero, List.set_cons_succ]
            refine take_d (some 101) (i := 14) (v := ?_) rfl rfl (by kernel_rfl) (by kernel_rfl) (by kernel_rfl) (fun _ _ _ h => h) (Or.inl ⟨by rfl, ?_⟩) (by assumption) ?_
            rotate_left
            · intro w hSw; (dsimp only [Cs] at hSw); go_simp; (try with_reducible rfl)
            try simp only [Act.put, List.setIfInBounds_toArray, List.set_cons_zero, List.set_cons_succ]
            refine take_d (some 102) (i := 15) (v := ?_) rfl rfl (by kernel_rfl) (by kernel_rfl) (by kernel_rfl) (fun _ _ _ h => h) (Or.inl ⟨by rfl, ?_⟩) (by assumption) ?_
            rotate_left
            · intro w hSw; (dsimp only [Cs] at hSw); go_simp; (try with_reducible rfl)
            try simp only [Act.put, List.setIfInBounds_toArray, List.set_cons_zero, List.set_cons_succ]
            refine wpAnyH_ready (rs := [16]) (by kernel_rfl) (by simp) ?_
            refine AllReadyH.cons rfl (fun K hK => ?_) AllReadyH.nil
            go_simp
            refine (HCK.out _ hSK.2.1).mono ?_
            rintro e wK ⟨rfl, hbK⟩
            go_wp2_with fail
            refine hK.out _ _ ?_ (fun hHeld => ?_)
            · exact ⟨Cs.below hSK.1 hbK, hSK.2.1.below hbK, hSK.2.2.1.below hbK, bstep hSK.2.2.2 hbK⟩
            clear hSK
            have hSK := hHeld
            clear hHeld
            clear hK K
            try simp only [Act.put, List.setIfInBounds_toArray, List.set_cons_zero, List.set_cons_succ]
            refine take_d (some 104) (i := 17) (v := ?_) rfl rfl (by kernel_rfl) (by kernel_rfl) (by kernel_rfl) (fun _ _ _ h => h) (Or.inl ⟨by rfl, ?_⟩) (by assumption) ?_
            rotate_left
            · intro w hSw; (dsimp only [Cs] at hSw); go_simp; (try with_reducible rfl)
            try simp only [Act.put, List.setIfInBounds_toArray, List.set_cons_zero, List.set_cons_succ]
            refine take_d (some 105) (i := 18) (v := ?_) rfl rfl (by kernel_rfl) (by kernel_rfl) (by kernel_rfl) (fun _ _ _ h => h) (Or.inl ⟨by rfl, ?_⟩) (by assumption) ?_
            rotate_left
            · intro w hSw; (dsimp only [Cs] at hSw); go_simp; (try with_reducible rfl)
            try simp only [Act.put, List.setIfInBounds_toArray, List.set_cons_zero, List.set_cons_succ]
            refine take_d (some 106) (i := 19) (v := ?_) rfl rfl (by kernel_rfl) (by kernel_rfl) (by kernel_rfl) (fun _ _ _ h => h) (Or.inl ⟨by rfl, ?_⟩) (by assumption) ?_
            rotate_left
            · intro w hSw; (dsimp only [Cs] at hSw); go_simp; (try with_reducible rfl)
            try simp only [Act.put, List.setIfInBounds_toArray, List.set_cons_zero, List.set_cons_succ]
            refine wpAnyH_ready (rs := [20]) (by kernel_rfl) (by simp) ?_
            refine AllReadyH.cons rfl (fun K hK => ?_) AllReadyH.nil
            go_simp
            refine (sane37 _).mono ?_
            rintro e wK ⟨rfl, hbK⟩
            go_wp2_with fail
            refine hK.out _ _ ?_ (fun hHeld => ?_)
            · exact ⟨Cs.below hSK.1 hbK, hSK.2.1.below hbK, hSK.2.2.1.below hbK, bstep hSK.2.2.2 hbK⟩
            clear hSK
            have hSK := hHeld
            clear hHeld
            clear hK K
            try simp only [Act.put, List.setIfInBounds_toArray, List.set_cons_zero, List.set_cons_succ]
            refine take_d (some 108) (i := 21) (v := ?_) rfl rfl (by kernel_rfl) (by kernel_rfl) (by kernel_rfl) (fun _ _ _ h => h) (Or.inl ⟨by rfl, ?_⟩) (by assumption) ?_
            rotate_left
            · intro w hSw; (dsimp only [Cs] at hSw); go_simp; (try with_reducible rfl)
            try simp only [Act.put, List.setIfInBounds_toArray, List.set_cons_zero, List.set_cons_succ]
            refine take_d (some 4) (i := 22) (v := ?_) rfl rfl (by kernel_rfl) (by kernel_rfl) (by kernel_rfl) (fun _ _ _ h => h) (Or.inl ⟨by rfl, ?_⟩) (by assumption) ?_
            rotate_left
            · intro w hSw; (dsimp only [Cs] at hSw); go_simp; (try with_reducible rfl)
            try simp only [Act.put, List.setIfInBounds_toArray, List.set_cons_zero, List.set_cons_succ]
            refine wpAnyH_done (by kernel_rfl) ?_ _
            have HB9 := Lib.hid hSK.2.2.2
            clear hSK
            go_wp2_with fail
            go_ret
            exact ⟨rfl, HB9.out⟩
      · have h1 := HBAD.out h0
        subst h1
        clear HOK HBAD h0
        go_wp2_with fail
        refine (sane37 _).mono ?_
        rintro e v7 ⟨rfl, hb7⟩
        have HB7 := Lib.hid (bstep HB6.out hb7)
        clear hb7
        go_wp2_with fail
        go_ret
        exact ⟨rfl, HB7.out⟩
    · have q0 : (E != 0) = true := bne_iff_ne.2 h0
      have h1 := HBAD.out h0
      subst h1
      clear HOK HBAD h0
      have HIS := Lib.hid (fun W hW => issued_w PX zeroG s (.slice B9 zeroG.lines.length d9) W hs2 zeroG_w hW)
      rw [show issT s zeroG.lines = 0 from rfl] at HIS
      unfold valS at HIS
      obtain ⟨x_0, x_1, x_2, x_3, x_4, x_5, x_6, _⟩ := HXB.out.cs7
      obtain ⟨s_0, s_1, _⟩ := HA5.out.cs2
      go_wp2_with fail
      refine (HIS.out _ HXL.out.l).mono ?_
      rintro e v6 ⟨rfl, hb6⟩
      have HB6 := Lib.hid (bstep HB5.out hb6)
      clear hb6 x_0 x_1 x_2 x_3 x_4 x_5 x_6 s_0 s_1
      go_wp2_with fail
      refine (sane37 _).mono ?_
      rintro e v7 ⟨rfl, hb7⟩
      have HB7 := Lib.hid (bstep HB6.out hb7)
      clear hb7
      go_wp2_with fail
      go_ret
      exact ⟨rfl, HB7.out⟩

end Go.Proofs.Ytfmdnhhdjjndbaa
