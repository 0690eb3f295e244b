/- The walk of FederatedSafe: two members outside of a set that may confirm share a node outside of it. -/
import Derived.Test.YtbbdmaakphoofaaSafeReg
import Derived.Test.YtbbdmaakphoofaaMkSet
import Derived.Test.YtbbdmaakphoofaaHeld
import Derived.Deep.DeepCutAuto
import Derived.Deep.CutRange
namespace Go.Proofs.Ytbbdmaakphoofaa
set_option linter.unusedVariables false
set_option linter.unusedSimpArgs false
open Go.RowKit

set_option maxRecDepth 100000 in
set_option maxHeartbeats 8000000 in
theorem walkFederatedSafe (a0 : Option Addr) (len0 cap0 : Nat) (z0 : List Int) (w : World) (w0 : IsRow .i64 w a0 len0 cap0 z0) :
    Calls Try.prog 4 #[.slice a0 len0 cap0] w fun e w' => e = .returned (.bool true) ∧ Below w.heap.size w w' := by
  have HR := Lib.hid w0
  clear w0
  go_enter Try.func4, Try.ntmps4
  go_wp2_with fail
  refine (TNew_run _ _ _ _ _ HR.out).mono ?_
  rintro e v0 ⟨rfl, hs0, hb0⟩
  have HS0 := Lib.hid hs0
  have HB0 := Lib.hid hb0
  have hsl := hs0.lt
  clear hs0 hb0
  go_wp2_with fail
  refine (config_run _ 6 (by omega) (by omega) _ HS0.out).mono ?_
  rintro e v2 ⟨cv, ms, rfl, hl1, hl2, hM, hok, hs2, hg2⟩
  have hM0 := id hM
  obtain ⟨A, c, hcv, _⟩ := hM0
  obtain ⟨L, hL⟩ : ∃ L, ms.length = L := ⟨_, rfl⟩
  rw [hL] at hcv
  subst hcv
  have hba := balloc (bref v2) (.cells #[.slice A L c] 27)
  have HM := Lib.hid (show CMade w v2.heap.size (.slice A L c) ms (v2.alloc (.cells #[.slice A L c] 27)) from
    ⟨hs2.alloc _, alloc_at rfl, (hM.both (Q := fun b => w.heap.size < b) (fun _ _ _ => rfl) (fun k _ hk => by omega)).below hba, hs2.lt, bstep (bgrownC HB0.out hg2 (Nat.le_refl _)) hba⟩)
  have HL := Lib.hid hL
  have HOK := Lib.hid hok
  have hl10 : ms.length ≤ 10 := by omega
  clear hM hok hs2 hg2 hba HS0 HB0 hL
  go_upto_region 3 with fail
  generalize v2.alloc (.cells #[.slice A L c] 27) = W1 at *
  generalize v2.heap.size = g at *
  have c0 := HM.out.cell
  go_wp2_with fail
  refine (mkSet_run _ ms _ _ hl1 hl10 HM.out.tape HM.out.mems).mono ?_
  rintro e W2 ⟨s, rfl, hs10, hsT, hgT⟩
  have H2 := Lib.hid (HM.out.grown hsT hgT)
  clear hsT hgT c0 HM
  have c0 := H2.out.cell
  go_wp2_with fail
  refine (rdelete_run _ ms _ s _ hl10 hs10 H2.out.mems HOK.out).mono ?_
  rintro e W3 ⟨dv, rfl, hDM, hb3⟩
  have H3 := Lib.hid (H2.out.bel hb3)
  have hDO := delM_ok (s := s) HOK.out
  clear hb3 c0 H2
  go_wp2_with fail
  refine (rholds_run _ (delM s ms) _ _ (by rw [delM_len]; exact hl10) hDM hDO).mono ?_
  rintro e W4 ⟨⟨yes, rfl, hyes⟩, hb4⟩
  have H4 := Lib.hid (H3.out.bel hb4)
  have HY := Lib.hid hyes
  clear hb4 hDM hDO H3 hyes
  go_upto_region 5 with fail
  have R0 := Lib.hid H4.out.rs.drew
  go_cut [8, 9] (fun p q W => ∃ (gx gy : Nat) (vx vy : Value) (xs ys : List Mem), p = .pointer (some ⟨gx, 0, none⟩) ∧ q = .pointer (some ⟨gy, 0, none⟩) ∧ Hid (CMade w gx vx xs W) ∧ Hid (CMade w gy vy ys W) ∧ Hid (xs.length = ms.length ∧ ys.length = ms.length) ∧ Hid (∀ k, k < ms.length → s.testBit k = false → xs[k]? = ms[k]?) ∧ Hid (∀ k, k < ms.length → s.testBit k = false → ys[k]? = ms[k]?))
  case first =>
    clear H4 HY HOK HL HR
    refine wp_region_noPanic ?_
    refine wp_region_held_drew (S := fun W => W.cell? ⟨g, 0, none⟩ = some (.slice A L c)) (by kernel_rfl) R0.out.cell (fun hHeld => ?_)
    generalize W4.drew = W5 at *
    generalize W4.heap.size = G0 at *
    refine take_d (some 29) (i := 0) (v := ?_) rfl rfl (by kernel_rfl) (by kernel_rfl) (by kernel_rfl) (fun _ _ _ h => h) (Or.inl ⟨by rfl, ?_⟩) (by assumption) ?_
    rotate_left
    · intro w hSw; (try dsimp only at hSw); go_simp; (try with_reducible rfl)
    try simp only [Act.put, List.setIfInBounds_toArray, List.set_cons_zero, List.set_cons_succ]
    refine take_d (some 30) (i := 1) (v := ?_) rfl rfl (by kernel_rfl) (by kernel_rfl) (by kernel_rfl) (fun _ _ _ h => h) (Or.inl ⟨by rfl, ?_⟩) (by assumption) ?_
    rotate_left
    · intro w hSw; (try dsimp only at hSw); go_simp; (try with_reducible rfl)
    try simp only [Act.put, List.setIfInBounds_toArray, List.set_cons_zero, List.set_cons_succ]
    refine take_d (some 31) (i := 2) (v := ?_) rfl rfl (by kernel_rfl) (by kernel_rfl) (by kernel_rfl) (fun _ _ _ h => h) (Or.inl ⟨by rfl, ?_⟩) (by assumption) ?_
    rotate_left
    · intro w hSw; (try dsimp only at hSw); go_simp; (try with_reducible rfl)
    try simp only [Act.put, List.setIfInBounds_toArray, List.set_cons_zero, List.set_cons_succ]
    refine take_d (some 33) (i := 4) (v := ?_) rfl rfl (by kernel_rfl) (by kernel_rfl) (by kernel_rfl) (fun _ _ _ h => h) (Or.inl ⟨by rfl, ?_⟩) (by assumption) ?_
    rotate_left
    · intro w hSw; (try dsimp only at hSw); go_simp; (try with_reducible rfl)
    try simp only [Act.put, List.setIfInBounds_toArray, List.set_cons_zero, List.set_cons_succ]
    refine take_d (some 34) (i := 5) (v := ?_) rfl rfl (by kernel_rfl) (by kernel_rfl) (by kernel_rfl) (fun _ _ _ h => h) (Or.inl ⟨by rfl, ?_⟩) (by assumption) ?_
    rotate_left
    · intro w hSw; (try dsimp only at hSw); go_simp; (try with_reducible rfl)
    try simp only [Act.put, List.setIfInBounds_toArray, List.set_cons_zero, List.set_cons_succ]
    refine take_d (some 35) (i := 6) (v := ?_) rfl rfl (by kernel_rfl) (by kernel_rfl) (by kernel_rfl) (fun _ _ _ h => h) (Or.inl ⟨by rfl, ?_⟩) (by assumption) ?_
    rotate_left
    · intro w hSw; (try dsimp only at hSw); go_simp; (try with_reducible rfl)
    try simp only [Act.put, List.setIfInBounds_toArray, List.set_cons_zero, List.set_cons_succ]
    refine wpAnyH_ready (rs := [3, 8, 9]) (by kernel_rfl) (by simp) ?_
    refine AllReadyH.cons rfl (fun K hK => ?_) (AllReadyH.cons rfl (fun K hK => ?_) (AllReadyH.cons rfl (fun K hK => ?_) AllReadyH.nil))
    · go_simp
      refine (shown_run (fun b => w.heap.size < b ∧ b < G0) w.heap.size (fun b h => h.1) ms _ s _ hl1 hl10 hs10 R0.out.tape R0.out.mems).mono ?_
      rintro e W11 ⟨v1, xs, rfl, hxl, hxm, hxa, hsT, hgT⟩
      obtain ⟨B1, b1, hv⟩ := hxm.slice
      rw [hxl] at hv
      subst hv
      have R1 := Lib.hid (R0.out.grown hsT hgT)
      have X1_1 := Lib.hid (ConfOff.make R0.out hxm)
      have LX1 := Lib.hid hxl
      have AX1 := Lib.hid hxa
      clear hxl hxm hxa hsT hgT R0
      go_wp2_with fail
      refine hK.out _ _ ?_ (fun hHeld => ?_)
      · exact R1.out.cell
      clear hK K
      try simp only [Act.put, List.setIfInBounds_toArray, List.set_cons_zero, List.set_cons_succ]
      refine wpAnyH_ready (rs := [7, 8, 9]) (by kernel_rfl) (by simp) ?_
      refine AllReadyH.cons rfl (fun K hK => ?_) (AllReadyH.cons rfl (fun K hK => ?_) (AllReadyH.cons rfl (fun K hK => ?_) AllReadyH.nil))
      · go_simp
        refine (shown_run (fun b => w.heap.size < b ∧ b < G0) w.heap.size (fun b h => h.1) ms _ s _ hl1 hl10 hs10 R1.out.tape R1.out.mems).mono ?_
        rintro e W12 ⟨v2, ys, rfl, hxl, hxm, hxa, hsT, hgT⟩
        obtain ⟨B2, b2, hv⟩ := hxm.slice
        rw [hxl] at hv
        subst hv
        have R2 := Lib.hid (R1.out.grown hsT hgT)
        have X1_2 := Lib.hid (X1_1.out.grown hgT)
        have X2_2 := Lib.hid (ConfOff.make R1.out hxm)
        have LX2 := Lib.hid hxl
        have AX2 := Lib.hid hxa
        clear hxl hxm hxa hsT hgT R1 X1_1
        go_wp2_with fail
        refine hK.out _ _ ?_ (fun hHeld => ?_)
        · exact R2.out.cell
        clear hK K
        try simp only [Act.put, List.setIfInBounds_toArray, List.set_cons_zero, List.set_cons_succ]
        refine wpAnyH_ready (rs := [8, 9]) (by kernel_rfl) (by simp) ?_
        refine AllReadyH.cons rfl (fun K hK => ?_) (AllReadyH.cons rfl (fun K hK => ?_) AllReadyH.nil)
        · go_simp
          have R3 := Lib.hid (R2.out.alloc (.cells #[.slice none 0 0] 27))
          have V8_3 := Lib.hid (VarAt.new W12 (.slice none 0 0))
          have X1_3 := Lib.hid (X1_2.out.alloc (.cells #[.slice none 0 0] 27))
          have X2_3 := Lib.hid (X2_2.out.alloc (.cells #[.slice none 0 0] 27))
          refine hK.out _ _ ?_ (fun hHeld => ?_)
          · exact R3.out.cell
          clear hK K R2 X1_2 X2_2
          generalize W12.alloc (.cells #[.slice none 0 0] 27) = W13 at *
          generalize W12.heap.size = p8 at *
          try simp only [Act.put, List.setIfInBounds_toArray, List.set_cons_zero, List.set_cons_succ]
          refine wpAnyH_ready (rs := [9]) (by kernel_rfl) (by simp) ?_
          refine AllReadyH.cons rfl (fun K hK => ?_) AllReadyH.nil
          · go_simp
            have R4 := Lib.hid (R3.out.alloc (.cells #[.slice none 0 0] 27))
            have V8_4 := Lib.hid (V8_3.out.alloc (.cells #[.slice none 0 0] 27))
            have HN := Lib.hid (Nat.ne_of_lt V8_3.out.lt)
            have V9_4 := Lib.hid (VarAt.new W13 (.slice none 0 0))
            have X1_4 := Lib.hid (X1_3.out.alloc (.cells #[.slice none 0 0] 27))
            have X2_4 := Lib.hid (X2_3.out.alloc (.cells #[.slice none 0 0] 27))
            refine hK.out _ _ ?_ (fun hHeld => ?_)
            · exact R4.out.cell
            clear hK K R3 X1_3 X2_3 V8_3
            generalize W13.alloc (.cells #[.slice none 0 0] 27) = W14 at *
            generalize W13.heap.size = p9 at *
            try simp only [Act.put, List.setIfInBounds_toArray, List.set_cons_zero, List.set_cons_succ]
            refine wpAnyH_ready (rs := [10]) (by kernel_rfl) (by simp) ?_
            refine AllReadyH.cons rfl (fun K hK => ?_) AllReadyH.nil
            · have q0 := V8_4.out.cell
              have q1 := V8_4.out.free
              go_simp
              have R5 := Lib.hid (R4.out.store (p := p8) (by simp) (.slice B1 ms.length b1))
              have V8_5 := Lib.hid (V8_4.out.set (.slice B1 ms.length b1))
              have V9_5 := Lib.hid (V9_4.out.far (q := p8) HN.out (.slice B1 ms.length b1))
              have X1_5 := Lib.hid (X1_4.out.store (p := p8) (by simp) (.slice B1 ms.length b1))
              have X2_5 := Lib.hid (X2_4.out.store (p := p8) (by simp) (.slice B1 ms.length b1))
              refine hK.out _ _ ?_ (fun hHeld => ?_)
              · exact R5.out.cell
              clear hK K q0 q1 R4 X1_4 X2_4 V8_4 V9_4
              generalize W14.setCell ⟨p8, 0, none⟩ (.slice B1 ms.length b1) = W15 at *
              try simp only [Act.put, List.setIfInBounds_toArray, List.set_cons_zero, List.set_cons_succ]
              refine wpAnyH_ready (rs := [11]) (by kernel_rfl) (by simp) ?_
              refine AllReadyH.cons rfl (fun K hK => ?_) AllReadyH.nil
              · have q0 := V9_5.out.cell
                have q1 := V9_5.out.free
                go_simp
                have R6 := Lib.hid (R5.out.store (p := p9) (by simp) (.slice B2 ms.length b2))
                have V9_6 := Lib.hid (V9_5.out.set (.slice B2 ms.length b2))
                have V8_6 := Lib.hid (V8_5.out.far (q := p9) HN.out.symm (.slice B2 ms.length b2))
                have X1_6 := Lib.hid (X1_5.out.store (p := p9) (by simp) (.slice B2 ms.length b2))
                have X2_6 := Lib.hid (X2_5.out.store (p := p9) (by simp) (.slice B2 ms.length b2))
                refine hK.out _ _ ?_ (fun hHeld => ?_)
                · exact R6.out.cell
                clear hK K q0 q1 R5 X1_5 X2_5 V8_5 V9_5
                generalize W15.setCell ⟨p9, 0, none⟩ (.slice B2 ms.length b2) = W16 at *
                try simp only [Act.put, List.setIfInBounds_toArray, List.set_cons_zero, List.set_cons_succ]
                refine wpAnyH_done (by kernel_rfl) ?_ _
                refine NoPanic.normal ?_
                clear hHeld
                go_wp2_with fail
                go_meet
                exact ⟨p8, p9, _, _, xs, ys, rfl, rfl, Lib.hid (X1_6.out.made R6.out (by simp) V8_6.out), Lib.hid (X2_6.out.made R6.out (by simp) V9_6.out), Lib.hid ⟨LX1.out, LX2.out⟩, AX1, AX2⟩
        · go_simp
          have R7 := Lib.hid (R2.out.alloc (.cells #[.slice none 0 0] 27))
          have V9_7 := Lib.hid (VarAt.new W12 (.slice none 0 0))
          have X1_7 := Lib.hid (X1_2.out.alloc (.cells #[.slice none 0 0] 27))
          have X2_7 := Lib.hid (X2_2.out.alloc (.cells #[.slice none 0 0] 27))
          refine hK.out _ _ ?_ (fun hHeld => ?_)
          · exact R7.out.cell
          clear hK K R2 X1_2 X2_2
          generalize W12.alloc (.cells #[.slice none 0 0] 27) = W17 at *
          generalize W12.heap.size = p9 at *
          try simp only [Act.put, List.setIfInBounds_toArray, List.set_cons_zero, List.set_cons_succ]
          refine wpAnyH_ready (rs := [8]) (by kernel_rfl) (by simp) ?_
          refine AllReadyH.cons rfl (fun K hK => ?_) AllReadyH.nil
          · go_simp
            have R8 := Lib.hid (R7.out.alloc (.cells #[.slice none 0 0] 27))
            have V9_8 := Lib.hid (V9_7.out.alloc (.cells #[.slice none 0 0] 27))
            have HN := Lib.hid (Nat.ne_of_lt V9_7.out.lt)
            have V8_8 := Lib.hid (VarAt.new W17 (.slice none 0 0))
            have X1_8 := Lib.hid (X1_7.out.alloc (.cells #[.slice none 0 0] 27))
            have X2_8 := Lib.hid (X2_7.out.alloc (.cells #[.slice none 0 0] 27))
            refine hK.out _ _ ?_ (fun hHeld => ?_)
            · exact R8.out.cell
            clear hK K R7 X1_7 X2_7 V9_7
            generalize W17.alloc (.cells #[.slice none 0 0] 27) = W18 at *
            generalize W17.heap.size = p8 at *
            try simp only [Act.put, List.setIfInBounds_toArray, List.set_cons_zero, List.set_cons_succ]
            refine wpAnyH_ready (rs := [10]) (by kernel_rfl) (by simp) ?_
            refine AllReadyH.cons rfl (fun K hK => ?_) AllReadyH.nil
            · have q0 := V8_8.out.cell
              have q1 := V8_8.out.free
              go_simp
              have R9 := Lib.hid (R8.out.store (p := p8) (by simp) (.slice B1 ms.length b1))
              have V8_9 := Lib.hid (V8_8.out.set (.slice B1 ms.length b1))
              have V9_9 := Lib.hid (V9_8.out.far (q := p8) HN.out.symm (.slice B1 ms.length b1))
              have X1_9 := Lib.hid (X1_8.out.store (p := p8) (by simp) (.slice B1 ms.length b1))
              have X2_9 := Lib.hid (X2_8.out.store (p := p8) (by simp) (.slice B1 ms.length b1))
              refine hK.out _ _ ?_ (fun hHeld => ?_)
              · exact R9.out.cell
              clear hK K q0 q1 R8 X1_8 X2_8 V9_8 V8_8
              generalize W18.setCell ⟨p8, 0, none⟩ (.slice B1 ms.length b1) = W19 at *
              try simp only [Act.put, List.setIfInBounds_toArray, List.set_cons_zero, List.set_cons_succ]
              refine wpAnyH_ready (rs := [11]) (by kernel_rfl) (by simp) ?_
              refine AllReadyH.cons rfl (fun K hK => ?_) AllReadyH.nil
              · have q0 := V9_9.out.cell
                have q1 := V9_9.out.free
                go_simp
                have R10 := Lib.hid (R9.out.store (p := p9) (by simp) (.slice B2 ms.length b2))
                have V9_10 := Lib.hid (V9_9.out.set (.slice B2 ms.length b2))
                have V8_10 := Lib.hid (V8_9.out.far (q := p9) HN.out (.slice B2 ms.length b2))
                have X1_10 := Lib.hid (X1_9.out.store (p := p9) (by simp) (.slice B2 ms.length b2))
                have X2_10 := Lib.hid (X2_9.out.store (p := p9) (by simp) (.slice B2 ms.length b2))
                refine hK.out _ _ ?_ (fun hHeld => ?_)
                · exact R10.out.cell
                clear hK K q0 q1 R9 X1_9 X2_9 V9_9 V8_9
                generalize W19.setCell ⟨p9, 0, none⟩ (.slice B2 ms.length b2) = W20 at *
                try simp only [Act.put, List.setIfInBounds_toArray, List.set_cons_zero, List.set_cons_succ]
                refine wpAnyH_done (by kernel_rfl) ?_ _
                refine NoPanic.normal ?_
                clear hHeld
                go_wp2_with fail
                go_meet
                exact ⟨p8, p9, _, _, xs, ys, rfl, rfl, Lib.hid (X1_10.out.made R10.out (by simp) V8_10.out), Lib.hid (X2_10.out.made R10.out (by simp) V9_10.out), Lib.hid ⟨LX1.out, LX2.out⟩, AX1, AX2⟩
      · go_simp
        have R11 := Lib.hid (R1.out.alloc (.cells #[.slice none 0 0] 27))
        have V8_11 := Lib.hid (VarAt.new W11 (.slice none 0 0))
        have X1_11 := Lib.hid (X1_1.out.alloc (.cells #[.slice none 0 0] 27))
        refine hK.out _ _ ?_ (fun hHeld => ?_)
        · exact R11.out.cell
        clear hK K R1 X1_1
        generalize W11.alloc (.cells #[.slice none 0 0] 27) = W21 at *
        generalize W11.heap.size = p8 at *
        try simp only [Act.put, List.setIfInBounds_toArray, List.set_cons_zero, List.set_cons_succ]
        refine wpAnyH_ready (rs := [7, 9]) (by kernel_rfl) (by simp) ?_
        refine AllReadyH.cons rfl (fun K hK => ?_) (AllReadyH.cons rfl (fun K hK => ?_) AllReadyH.nil)
        · go_simp
          refine (shown_run (fun b => w.heap.size < b ∧ b < G0) w.heap.size (fun b h => h.1) ms _ s _ hl1 hl10 hs10 R11.out.tape R11.out.mems).mono ?_
          rintro e W22 ⟨v2, ys, rfl, hxl, hxm, hxa, hsT, hgT⟩
          obtain ⟨B2, b2, hv⟩ := hxm.slice
          rw [hxl] at hv
          subst hv
          have R12 := Lib.hid (R11.out.grown hsT hgT)
          have V8_12 := Lib.hid (V8_11.out.grown R11.out (by simp) hgT)
          have X1_12 := Lib.hid (X1_11.out.grown hgT)
          have X2_12 := Lib.hid (ConfOff.make R11.out hxm)
          have LX2 := Lib.hid hxl
          have AX2 := Lib.hid hxa
          clear hxl hxm hxa hsT hgT R11 X1_11 V8_11
          go_wp2_with fail
          refine hK.out _ _ ?_ (fun hHeld => ?_)
          · exact R12.out.cell
          clear hK K
          try simp only [Act.put, List.setIfInBounds_toArray, List.set_cons_zero, List.set_cons_succ]
          refine wpAnyH_ready (rs := [9]) (by kernel_rfl) (by simp) ?_
          refine AllReadyH.cons rfl (fun K hK => ?_) AllReadyH.nil
          · go_simp
            have R13 := Lib.hid (R12.out.alloc (.cells #[.slice none 0 0] 27))
            have V8_13 := Lib.hid (V8_12.out.alloc (.cells #[.slice none 0 0] 27))
            have HN := Lib.hid (Nat.ne_of_lt V8_12.out.lt)
            have V9_13 := Lib.hid (VarAt.new W22 (.slice none 0 0))
            have X1_13 := Lib.hid (X1_12.out.alloc (.cells #[.slice none 0 0] 27))
            have X2_13 := Lib.hid (X2_12.out.alloc (.cells #[.slice none 0 0] 27))
            refine hK.out _ _ ?_ (fun hHeld => ?_)
            · exact R13.out.cell
            clear hK K R12 X1_12 V8_12 X2_12
            generalize W22.alloc (.cells #[.slice none 0 0] 27) = W23 at *
            generalize W22.heap.size = p9 at *
            try simp only [Act.put, List.setIfInBounds_toArray, List.set_cons_zero, List.set_cons_succ]
            refine wpAnyH_ready (rs := [10]) (by kernel_rfl) (by simp) ?_
            refine AllReadyH.cons rfl (fun K hK => ?_) AllReadyH.nil
            · have q0 := V8_13.out.cell
              have q1 := V8_13.out.free
              go_simp
              have R14 := Lib.hid (R13.out.store (p := p8) (by simp) (.slice B1 ms.length b1))
              have V8_14 := Lib.hid (V8_13.out.set (.slice B1 ms.length b1))
              have V9_14 := Lib.hid (V9_13.out.far (q := p8) HN.out (.slice B1 ms.length b1))
              have X1_14 := Lib.hid (X1_13.out.store (p := p8) (by simp) (.slice B1 ms.length b1))
              have X2_14 := Lib.hid (X2_13.out.store (p := p8) (by simp) (.slice B1 ms.length b1))
              refine hK.out _ _ ?_ (fun hHeld => ?_)
              · exact R14.out.cell
              clear hK K q0 q1 R13 X1_13 V8_13 X2_13 V9_13
              generalize W23.setCell ⟨p8, 0, none⟩ (.slice B1 ms.length b1) = W24 at *
              try simp only [Act.put, List.setIfInBounds_toArray, List.set_cons_zero, List.set_cons_succ]
              refine wpAnyH_ready (rs := [11]) (by kernel_rfl) (by simp) ?_
              refine AllReadyH.cons rfl (fun K hK => ?_) AllReadyH.nil
              · have q0 := V9_14.out.cell
                have q1 := V9_14.out.free
                go_simp
                have R15 := Lib.hid (R14.out.store (p := p9) (by simp) (.slice B2 ms.length b2))
                have V9_15 := Lib.hid (V9_14.out.set (.slice B2 ms.length b2))
                have V8_15 := Lib.hid (V8_14.out.far (q := p9) HN.out.symm (.slice B2 ms.length b2))
                have X1_15 := Lib.hid (X1_14.out.store (p := p9) (by simp) (.slice B2 ms.length b2))
                have X2_15 := Lib.hid (X2_14.out.store (p := p9) (by simp) (.slice B2 ms.length b2))
                refine hK.out _ _ ?_ (fun hHeld => ?_)
                · exact R15.out.cell
                clear hK K q0 q1 R14 X1_14 V8_14 X2_14 V9_14
                generalize W24.setCell ⟨p9, 0, none⟩ (.slice B2 ms.length b2) = W25 at *
                try simp only [Act.put, List.setIfInBounds_toArray, List.set_cons_zero, List.set_cons_succ]
                refine wpAnyH_done (by kernel_rfl) ?_ _
                refine NoPanic.normal ?_
                clear hHeld
                go_wp2_with fail
                go_meet
                exact ⟨p8, p9, _, _, xs, ys, rfl, rfl, Lib.hid (X1_15.out.made R15.out (by simp) V8_15.out), Lib.hid (X2_15.out.made R15.out (by simp) V9_15.out), Lib.hid ⟨LX1.out, LX2.out⟩, AX1, AX2⟩
        · go_simp
          have R16 := Lib.hid (R11.out.alloc (.cells #[.slice none 0 0] 27))
          have V8_16 := Lib.hid (V8_11.out.alloc (.cells #[.slice none 0 0] 27))
          have HN := Lib.hid (Nat.ne_of_lt V8_11.out.lt)
          have V9_16 := Lib.hid (VarAt.new W21 (.slice none 0 0))
          have X1_16 := Lib.hid (X1_11.out.alloc (.cells #[.slice none 0 0] 27))
          refine hK.out _ _ ?_ (fun hHeld => ?_)
          · exact R16.out.cell
          clear hK K R11 X1_11 V8_11
          generalize W21.alloc (.cells #[.slice none 0 0] 27) = W26 at *
          generalize W21.heap.size = p9 at *
          try simp only [Act.put, List.setIfInBounds_toArray, List.set_cons_zero, List.set_cons_succ]
          refine wpAnyH_ready (rs := [7]) (by kernel_rfl) (by simp) ?_
          refine AllReadyH.cons rfl (fun K hK => ?_) AllReadyH.nil
          · go_simp
            refine (shown_run (fun b => w.heap.size < b ∧ b < G0) w.heap.size (fun b h => h.1) ms _ s _ hl1 hl10 hs10 R16.out.tape R16.out.mems).mono ?_
            rintro e W27 ⟨v2, ys, rfl, hxl, hxm, hxa, hsT, hgT⟩
            obtain ⟨B2, b2, hv⟩ := hxm.slice
            rw [hxl] at hv
            subst hv
            have R17 := Lib.hid (R16.out.grown hsT hgT)
            have V8_17 := Lib.hid (V8_16.out.grown R16.out (by simp) hgT)
            have V9_17 := Lib.hid (V9_16.out.grown R16.out (by simp) hgT)
            have X1_17 := Lib.hid (X1_16.out.grown hgT)
            have X2_17 := Lib.hid (ConfOff.make R16.out hxm)
            have LX2 := Lib.hid hxl
            have AX2 := Lib.hid hxa
            clear hxl hxm hxa hsT hgT R16 X1_16 V8_16 V9_16
            go_wp2_with fail
            refine hK.out _ _ ?_ (fun hHeld => ?_)
            · exact R17.out.cell
            clear hK K
            try simp only [Act.put, List.setIfInBounds_toArray, List.set_cons_zero, List.set_cons_succ]
            refine wpAnyH_ready (rs := [10]) (by kernel_rfl) (by simp) ?_
            refine AllReadyH.cons rfl (fun K hK => ?_) AllReadyH.nil
            · have q0 := V8_17.out.cell
              have q1 := V8_17.out.free
              go_simp
              have R18 := Lib.hid (R17.out.store (p := p8) (by simp) (.slice B1 ms.length b1))
              have V8_18 := Lib.hid (V8_17.out.set (.slice B1 ms.length b1))
              have V9_18 := Lib.hid (V9_17.out.far (q := p8) HN.out (.slice B1 ms.length b1))
              have X1_18 := Lib.hid (X1_17.out.store (p := p8) (by simp) (.slice B1 ms.length b1))
              have X2_18 := Lib.hid (X2_17.out.store (p := p8) (by simp) (.slice B1 ms.length b1))
              refine hK.out _ _ ?_ (fun hHeld => ?_)
              · exact R18.out.cell
              clear hK K q0 q1 R17 X1_17 V8_17 V9_17 X2_17
              generalize W27.setCell ⟨p8, 0, none⟩ (.slice B1 ms.length b1) = W28 at *
              try simp only [Act.put, List.setIfInBounds_toArray, List.set_cons_zero, List.set_cons_succ]
              refine wpAnyH_ready (rs := [11]) (by kernel_rfl) (by simp) ?_
              refine AllReadyH.cons rfl (fun K hK => ?_) AllReadyH.nil
              · have q0 := V9_18.out.cell
                have q1 := V9_18.out.free
                go_simp
                have R19 := Lib.hid (R18.out.store (p := p9) (by simp) (.slice B2 ms.length b2))
                have V9_19 := Lib.hid (V9_18.out.set (.slice B2 ms.length b2))
                have V8_19 := Lib.hid (V8_18.out.far (q := p9) HN.out.symm (.slice B2 ms.length b2))
                have X1_19 := Lib.hid (X1_18.out.store (p := p9) (by simp) (.slice B2 ms.length b2))
                have X2_19 := Lib.hid (X2_18.out.store (p := p9) (by simp) (.slice B2 ms.length b2))
                refine hK.out _ _ ?_ (fun hHeld => ?_)
                · exact R19.out.cell
                clear hK K q0 q1 R18 X1_18 V8_18 V9_18 X2_18
                generalize W28.setCell ⟨p9, 0, none⟩ (.slice B2 ms.length b2) = W29 at *
                try simp only [Act.put, List.setIfInBounds_toArray, List.set_cons_zero, List.set_cons_succ]
                refine wpAnyH_done (by kernel_rfl) ?_ _
                refine NoPanic.normal ?_
                clear hHeld
                go_wp2_with fail
                go_meet
                exact ⟨p8, p9, _, _, xs, ys, rfl, rfl, Lib.hid (X1_19.out.made R19.out (by simp) V8_19.out), Lib.hid (X2_19.out.made R19.out (by simp) V9_19.out), Lib.hid ⟨LX1.out, LX2.out⟩, AX1, AX2⟩
      · go_simp
        have R20 := Lib.hid (R1.out.alloc (.cells #[.slice none 0 0] 27))
        have V9_20 := Lib.hid (VarAt.new W11 (.slice none 0 0))
        have X1_20 := Lib.hid (X1_1.out.alloc (.cells #[.slice none 0 0] 27))
        refine hK.out _ _ ?_ (fun hHeld => ?_)
        · exact R20.out.cell
        clear hK K R1 X1_1
        generalize W11.alloc (.cells #[.slice none 0 0] 27) = W30 at *
        generalize W11.heap.size = p9 at *
        try simp only [Act.put, List.setIfInBounds_toArray, List.set_cons_zero, List.set_cons_succ]
        refine wpAnyH_ready (rs := [7, 8]) (by kernel_rfl) (by simp) ?_
        refine AllReadyH.cons rfl (fun K hK => ?_) (AllReadyH.cons rfl (fun K hK => ?_) AllReadyH.nil)
        · go_simp
          refine (shown_run (fun b => w.heap.size < b ∧ b < G0) w.heap.size (fun b h => h.1) ms _ s _ hl1 hl10 hs10 R20.out.tape R20.out.mems).mono ?_
          rintro e W31 ⟨v2, ys, rfl, hxl, hxm, hxa, hsT, hgT⟩
          obtain ⟨B2, b2, hv⟩ := hxm.slice
          rw [hxl] at hv
          subst hv
          have R21 := Lib.hid (R20.out.grown hsT hgT)
          have V9_21 := Lib.hid (V9_20.out.grown R20.out (by simp) hgT)
          have X1_21 := Lib.hid (X1_20.out.grown hgT)
          have X2_21 := Lib.hid (ConfOff.make R20.out hxm)
          have LX2 := Lib.hid hxl
          have AX2 := Lib.hid hxa
          clear hxl hxm hxa hsT hgT R20 X1_20 V9_20
          go_wp2_with fail
          refine hK.out _ _ ?_ (fun hHeld => ?_)
          · exact R21.out.cell
          clear hK K
          try simp only [Act.put, List.setIfInBounds_toArray, List.set_cons_zero, List.set_cons_succ]
          refine wpAnyH_ready (rs := [8]) (by kernel_rfl) (by simp) ?_
          refine AllReadyH.cons rfl (fun K hK => ?_) AllReadyH.nil
          · go_simp
            have R22 := Lib.hid (R21.out.alloc (.cells #[.slice none 0 0] 27))
            have V9_22 := Lib.hid (V9_21.out.alloc (.cells #[.slice none 0 0] 27))
            have HN := Lib.hid (Nat.ne_of_lt V9_21.out.lt)
            have V8_22 := Lib.hid (VarAt.new W31 (.slice none 0 0))
            have X1_22 := Lib.hid (X1_21.out.alloc (.cells #[.slice none 0 0] 27))
            have X2_22 := Lib.hid (X2_21.out.alloc (.cells #[.slice none 0 0] 27))
            refine hK.out _ _ ?_ (fun hHeld => ?_)
            · exact R22.out.cell
            clear hK K R21 X1_21 V9_21 X2_21
            generalize W31.alloc (.cells #[.slice none 0 0] 27) = W32 at *
            generalize W31.heap.size = p8 at *
            try simp only [Act.put, List.setIfInBounds_toArray, List.set_cons_zero, List.set_cons_succ]
            refine wpAnyH_ready (rs := [10]) (by kernel_rfl) (by simp) ?_
            refine AllReadyH.cons rfl (fun K hK => ?_) AllReadyH.nil
            · have q0 := V8_22.out.cell
              have q1 := V8_22.out.free
              go_simp
              have R23 := Lib.hid (R22.out.store (p := p8) (by simp) (.slice B1 ms.length b1))
              have V8_23 := Lib.hid (V8_22.out.set (.slice B1 ms.length b1))
              have V9_23 := Lib.hid (V9_22.out.far (q := p8) HN.out.symm (.slice B1 ms.length b1))
              have X1_23 := Lib.hid (X1_22.out.store (p := p8) (by simp) (.slice B1 ms.length b1))
              have X2_23 := Lib.hid (X2_22.out.store (p := p8) (by simp) (.slice B1 ms.length b1))
              refine hK.out _ _ ?_ (fun hHeld => ?_)
              · exact R23.out.cell
              clear hK K q0 q1 R22 X1_22 V9_22 X2_22 V8_22
              generalize W32.setCell ⟨p8, 0, none⟩ (.slice B1 ms.length b1) = W33 at *
              try simp only [Act.put, List.setIfInBounds_toArray, List.set_cons_zero, List.set_cons_succ]
              refine wpAnyH_ready (rs := [11]) (by kernel_rfl) (by simp) ?_
              refine AllReadyH.cons rfl (fun K hK => ?_) AllReadyH.nil
              · have q0 := V9_23.out.cell
                have q1 := V9_23.out.free
                go_simp
                have R24 := Lib.hid (R23.out.store (p := p9) (by simp) (.slice B2 ms.length b2))
                have V9_24 := Lib.hid (V9_23.out.set (.slice B2 ms.length b2))
                have V8_24 := Lib.hid (V8_23.out.far (q := p9) HN.out (.slice B2 ms.length b2))
                have X1_24 := Lib.hid (X1_23.out.store (p := p9) (by simp) (.slice B2 ms.length b2))
                have X2_24 := Lib.hid (X2_23.out.store (p := p9) (by simp) (.slice B2 ms.length b2))
                refine hK.out _ _ ?_ (fun hHeld => ?_)
                · exact R24.out.cell
                clear hK K q0 q1 R23 X1_23 V9_23 X2_23 V8_23
                generalize W33.setCell ⟨p9, 0, none⟩ (.slice B2 ms.length b2) = W34 at *
                try simp only [Act.put, List.setIfInBounds_toArray, List.set_cons_zero, List.set_cons_succ]
                refine wpAnyH_done (by kernel_rfl) ?_ _
                refine NoPanic.normal ?_
                clear hHeld
                go_wp2_with fail
                go_meet
                exact ⟨p8, p9, _, _, xs, ys, rfl, rfl, Lib.hid (X1_24.out.made R24.out (by simp) V8_24.out), Lib.hid (X2_24.out.made R24.out (by simp) V9_24.out), Lib.hid ⟨LX1.out, LX2.out⟩, AX1, AX2⟩
        · go_simp
          have R25 := Lib.hid (R20.out.alloc (.cells #[.slice none 0 0] 27))
          have V9_25 := Lib.hid (V9_20.out.alloc (.cells #[.slice none 0 0] 27))
          have HN := Lib.hid (Nat.ne_of_lt V9_20.out.lt)
          have V8_25 := Lib.hid (VarAt.new W30 (.slice none 0 0))
          have X1_25 := Lib.hid (X1_20.out.alloc (.cells #[.slice none 0 0] 27))
          refine hK.out _ _ ?_ (fun hHeld => ?_)
          · exact R25.out.cell
          clear hK K R20 X1_20 V9_20
          generalize W30.alloc (.cells #[.slice none 0 0] 27) = W35 at *
          generalize W30.heap.size = p8 at *
          try simp only [Act.put, List.setIfInBounds_toArray, List.set_cons_zero, List.set_cons_succ]
          refine wpAnyH_ready (rs := [7]) (by kernel_rfl) (by simp) ?_
          refine AllReadyH.cons rfl (fun K hK => ?_) AllReadyH.nil
          · go_simp
            refine (shown_run (fun b => w.heap.size < b ∧ b < G0) w.heap.size (fun b h => h.1) ms _ s _ hl1 hl10 hs10 R25.out.tape R25.out.mems).mono ?_
            rintro e W36 ⟨v2, ys, rfl, hxl, hxm, hxa, hsT, hgT⟩
            obtain ⟨B2, b2, hv⟩ := hxm.slice
            rw [hxl] at hv
            subst hv
            have R26 := Lib.hid (R25.out.grown hsT hgT)
            have V8_26 := Lib.hid (V8_25.out.grown R25.out (by simp) hgT)
            have V9_26 := Lib.hid (V9_25.out.grown R25.out (by simp) hgT)
            have X1_26 := Lib.hid (X1_25.out.grown hgT)
            have X2_26 := Lib.hid (ConfOff.make R25.out hxm)
            have LX2 := Lib.hid hxl
            have AX2 := Lib.hid hxa
            clear hxl hxm hxa hsT hgT R25 X1_25 V9_25 V8_25
            go_wp2_with fail
            refine hK.out _ _ ?_ (fun hHeld => ?_)
            · exact R26.out.cell
            clear hK K
            try simp only [Act.put, List.setIfInBounds_toArray, List.set_cons_zero, List.set_cons_succ]
            refine wpAnyH_ready (rs := [10]) (by kernel_rfl) (by simp) ?_
            refine AllReadyH.cons rfl (fun K hK => ?_) AllReadyH.nil
            · have q0 := V8_26.out.cell
              have q1 := V8_26.out.free
              go_simp
              have R27 := Lib.hid (R26.out.store (p := p8) (by simp) (.slice B1 ms.length b1))
              have V8_27 := Lib.hid (V8_26.out.set (.slice B1 ms.length b1))
              have V9_27 := Lib.hid (V9_26.out.far (q := p8) HN.out.symm (.slice B1 ms.length b1))
              have X1_27 := Lib.hid (X1_26.out.store (p := p8) (by simp) (.slice B1 ms.length b1))
              have X2_27 := Lib.hid (X2_26.out.store (p := p8) (by simp) (.slice B1 ms.length b1))
              refine hK.out _ _ ?_ (fun hHeld => ?_)
              · exact R27.out.cell
              clear hK K q0 q1 R26 X1_26 V9_26 V8_26 X2_26
              generalize W36.setCell ⟨p8, 0, none⟩ (.slice B1 ms.length b1) = W37 at *
              try simp only [Act.put, List.setIfInBounds_toArray, List.set_cons_zero, List.set_cons_succ]
              refine wpAnyH_ready (rs := [11]) (by kernel_rfl) (by simp) ?_
              refine AllReadyH.cons rfl (fun K hK => ?_) AllReadyH.nil
              · have q0 := V9_27.out.cell
                have q1 := V9_27.out.free
                go_simp
                have R28 := Lib.hid (R27.out.store (p := p9) (by simp) (.slice B2 ms.length b2))
                have V9_28 := Lib.hid (V9_27.out.set (.slice B2 ms.length b2))
                have V8_28 := Lib.hid (V8_27.out.far (q := p9) HN.out (.slice B2 ms.length b2))
                have X1_28 := Lib.hid (X1_27.out.store (p := p9) (by simp) (.slice B2 ms.length b2))
                have X2_28 := Lib.hid (X2_27.out.store (p := p9) (by simp) (.slice B2 ms.length b2))
                refine hK.out _ _ ?_ (fun hHeld => ?_)
                · exact R28.out.cell
                clear hK K q0 q1 R27 X1_27 V9_27 V8_27 X2_27
                generalize W37.setCell ⟨p9, 0, none⟩ (.slice B2 ms.length b2) = W38 at *
                try simp only [Act.put, List.setIfInBounds_toArray, List.set_cons_zero, List.set_cons_succ]
                refine wpAnyH_done (by kernel_rfl) ?_ _
                refine NoPanic.normal ?_
                clear hHeld
                go_wp2_with fail
                go_meet
                exact ⟨p8, p9, _, _, xs, ys, rfl, rfl, Lib.hid (X1_28.out.made R28.out (by simp) V8_28.out), Lib.hid (X2_28.out.made R28.out (by simp) V9_28.out), Lib.hid ⟨LX1.out, LX2.out⟩, AX1, AX2⟩
    · go_simp
      have R29 := Lib.hid (R0.out.alloc (.cells #[.slice none 0 0] 27))
      have V8_29 := Lib.hid (VarAt.new W5 (.slice none 0 0))
      refine hK.out _ _ ?_ (fun hHeld => ?_)
      · exact R29.out.cell
      clear hK K R0
      generalize W5.alloc (.cells #[.slice none 0 0] 27) = W39 at *
      generalize W5.heap.size = p8 at *
      try simp only [Act.put, List.setIfInBounds_toArray, List.set_cons_zero, List.set_cons_succ]
      refine wpAnyH_ready (rs := [3, 9]) (by kernel_rfl) (by simp) ?_
      refine AllReadyH.cons rfl (fun K hK => ?_) (AllReadyH.cons rfl (fun K hK => ?_) AllReadyH.nil)
      · go_simp
        refine (shown_run (fun b => w.heap.size < b ∧ b < G0) w.heap.size (fun b h => h.1) ms _ s _ hl1 hl10 hs10 R29.out.tape R29.out.mems).mono ?_
        rintro e W40 ⟨v1, xs, rfl, hxl, hxm, hxa, hsT, hgT⟩
        obtain ⟨B1, b1, hv⟩ := hxm.slice
        rw [hxl] at hv
        subst hv
        have R30 := Lib.hid (R29.out.grown hsT hgT)
        have V8_30 := Lib.hid (V8_29.out.grown R29.out (by simp) hgT)
        have X1_30 := Lib.hid (ConfOff.make R29.out hxm)
        have LX1 := Lib.hid hxl
        have AX1 := Lib.hid hxa
        clear hxl hxm hxa hsT hgT R29 V8_29
        go_wp2_with fail
        refine hK.out _ _ ?_ (fun hHeld => ?_)
        · exact R30.out.cell
        clear hK K
        try simp only [Act.put, List.setIfInBounds_toArray, List.set_cons_zero, List.set_cons_succ]
        refine wpAnyH_ready (rs := [7, 9]) (by kernel_rfl) (by simp) ?_
        refine AllReadyH.cons rfl (fun K hK => ?_) (AllReadyH.cons rfl (fun K hK => ?_) AllReadyH.nil)
        · go_simp
          refine (shown_run (fun b => w.heap.size < b ∧ b < G0) w.heap.size (fun b h => h.1) ms _ s _ hl1 hl10 hs10 R30.out.tape R30.out.mems).mono ?_
          rintro e W41 ⟨v2, ys, rfl, hxl, hxm, hxa, hsT, hgT⟩
          obtain ⟨B2, b2, hv⟩ := hxm.slice
          rw [hxl] at hv
          subst hv
          have R31 := Lib.hid (R30.out.grown hsT hgT)
          have V8_31 := Lib.hid (V8_30.out.grown R30.out (by simp) hgT)
          have X1_31 := Lib.hid (X1_30.out.grown hgT)
          have X2_31 := Lib.hid (ConfOff.make R30.out hxm)
          have LX2 := Lib.hid hxl
          have AX2 := Lib.hid hxa
          clear hxl hxm hxa hsT hgT R30 V8_30 X1_30
          go_wp2_with fail
          refine hK.out _ _ ?_ (fun hHeld => ?_)
          · exact R31.out.cell
          clear hK K
          try simp only [Act.put, List.setIfInBounds_toArray, List.set_cons_zero, List.set_cons_succ]
          refine wpAnyH_ready (rs := [9]) (by kernel_rfl) (by simp) ?_
          refine AllReadyH.cons rfl (fun K hK => ?_) AllReadyH.nil
          · go_simp
            have R32 := Lib.hid (R31.out.alloc (.cells #[.slice none 0 0] 27))
            have V8_32 := Lib.hid (V8_31.out.alloc (.cells #[.slice none 0 0] 27))
            have HN := Lib.hid (Nat.ne_of_lt V8_31.out.lt)
            have V9_32 := Lib.hid (VarAt.new W41 (.slice none 0 0))
            have X1_32 := Lib.hid (X1_31.out.alloc (.cells #[.slice none 0 0] 27))
            have X2_32 := Lib.hid (X2_31.out.alloc (.cells #[.slice none 0 0] 27))
            refine hK.out _ _ ?_ (fun hHeld => ?_)
            · exact R32.out.cell
            clear hK K R31 V8_31 X1_31 X2_31
            generalize W41.alloc (.cells #[.slice none 0 0] 27) = W42 at *
            generalize W41.heap.size = p9 at *
            try simp only [Act.put, List.setIfInBounds_toArray, List.set_cons_zero, List.set_cons_succ]
            refine wpAnyH_ready (rs := [10]) (by kernel_rfl) (by simp) ?_
            refine AllReadyH.cons rfl (fun K hK => ?_) AllReadyH.nil
            · have q0 := V8_32.out.cell
              have q1 := V8_32.out.free
              go_simp
              have R33 := Lib.hid (R32.out.store (p := p8) (by simp) (.slice B1 ms.length b1))
              have V8_33 := Lib.hid (V8_32.out.set (.slice B1 ms.length b1))
              have V9_33 := Lib.hid (V9_32.out.far (q := p8) HN.out (.slice B1 ms.length b1))
              have X1_33 := Lib.hid (X1_32.out.store (p := p8) (by simp) (.slice B1 ms.length b1))
              have X2_33 := Lib.hid (X2_32.out.store (p := p8) (by simp) (.slice B1 ms.length b1))
              refine hK.out _ _ ?_ (fun hHeld => ?_)
              · exact R33.out.cell
              clear hK K q0 q1 R32 V8_32 X1_32 X2_32 V9_32
              generalize W42.setCell ⟨p8, 0, none⟩ (.slice B1 ms.length b1) = W43 at *
              try simp only [Act.put, List.setIfInBounds_toArray, List.set_cons_zero, List.set_cons_succ]
              refine wpAnyH_ready (rs := [11]) (by kernel_rfl) (by simp) ?_
              refine AllReadyH.cons rfl (fun K hK => ?_) AllReadyH.nil
              · have q0 := V9_33.out.cell
                have q1 := V9_33.out.free
                go_simp
                have R34 := Lib.hid (R33.out.store (p := p9) (by simp) (.slice B2 ms.length b2))
                have V9_34 := Lib.hid (V9_33.out.set (.slice B2 ms.length b2))
                have V8_34 := Lib.hid (V8_33.out.far (q := p9) HN.out.symm (.slice B2 ms.length b2))
                have X1_34 := Lib.hid (X1_33.out.store (p := p9) (by simp) (.slice B2 ms.length b2))
                have X2_34 := Lib.hid (X2_33.out.store (p := p9) (by simp) (.slice B2 ms.length b2))
                refine hK.out _ _ ?_ (fun hHeld => ?_)
                · exact R34.out.cell
                clear hK K q0 q1 R33 V8_33 X1_33 X2_33 V9_33
                generalize W43.setCell ⟨p9, 0, none⟩ (.slice B2 ms.length b2) = W44 at *
                try simp only [Act.put, List.setIfInBounds_toArray, List.set_cons_zero, List.set_cons_succ]
                refine wpAnyH_done (by kernel_rfl) ?_ _
                refine NoPanic.normal ?_
                clear hHeld
                go_wp2_with fail
                go_meet
                exact ⟨p8, p9, _, _, xs, ys, rfl, rfl, Lib.hid (X1_34.out.made R34.out (by simp) V8_34.out), Lib.hid (X2_34.out.made R34.out (by simp) V9_34.out), Lib.hid ⟨LX1.out, LX2.out⟩, AX1, AX2⟩
        · go_simp
          have R35 := Lib.hid (R30.out.alloc (.cells #[.slice none 0 0] 27))
          have V8_35 := Lib.hid (V8_30.out.alloc (.cells #[.slice none 0 0] 27))
          have HN := Lib.hid (Nat.ne_of_lt V8_30.out.lt)
          have V9_35 := Lib.hid (VarAt.new W40 (.slice none 0 0))
          have X1_35 := Lib.hid (X1_30.out.alloc (.cells #[.slice none 0 0] 27))
          refine hK.out _ _ ?_ (fun hHeld => ?_)
          · exact R35.out.cell
          clear hK K R30 V8_30 X1_30
          generalize W40.alloc (.cells #[.slice none 0 0] 27) = W45 at *
          generalize W40.heap.size = p9 at *
          try simp only [Act.put, List.setIfInBounds_toArray, List.set_cons_zero, List.set_cons_succ]
          refine wpAnyH_ready (rs := [7]) (by kernel_rfl) (by simp) ?_
          refine AllReadyH.cons rfl (fun K hK => ?_) AllReadyH.nil
          · go_simp
            refine (shown_run (fun b => w.heap.size < b ∧ b < G0) w.heap.size (fun b h => h.1) ms _ s _ hl1 hl10 hs10 R35.out.tape R35.out.mems).mono ?_
            rintro e W46 ⟨v2, ys, rfl, hxl, hxm, hxa, hsT, hgT⟩
            obtain ⟨B2, b2, hv⟩ := hxm.slice
            rw [hxl] at hv
            subst hv
            have R36 := Lib.hid (R35.out.grown hsT hgT)
            have V8_36 := Lib.hid (V8_35.out.grown R35.out (by simp) hgT)
            have V9_36 := Lib.hid (V9_35.out.grown R35.out (by simp) hgT)
            have X1_36 := Lib.hid (X1_35.out.grown hgT)
            have X2_36 := Lib.hid (ConfOff.make R35.out hxm)
            have LX2 := Lib.hid hxl
            have AX2 := Lib.hid hxa
            clear hxl hxm hxa hsT hgT R35 V8_35 X1_35 V9_35
            go_wp2_with fail
            refine hK.out _ _ ?_ (fun hHeld => ?_)
            · exact R36.out.cell
            clear hK K
            try simp only [Act.put, List.setIfInBounds_toArray, List.set_cons_zero, List.set_cons_succ]
            refine wpAnyH_ready (rs := [10]) (by kernel_rfl) (by simp) ?_
            refine AllReadyH.cons rfl (fun K hK => ?_) AllReadyH.nil
            · have q0 := V8_36.out.cell
              have q1 := V8_36.out.free
              go_simp
              have R37 := Lib.hid (R36.out.store (p := p8) (by simp) (.slice B1 ms.length b1))
              have V8_37 := Lib.hid (V8_36.out.set (.slice B1 ms.length b1))
              have V9_37 := Lib.hid (V9_36.out.far (q := p8) HN.out (.slice B1 ms.length b1))
              have X1_37 := Lib.hid (X1_36.out.store (p := p8) (by simp) (.slice B1 ms.length b1))
              have X2_37 := Lib.hid (X2_36.out.store (p := p8) (by simp) (.slice B1 ms.length b1))
              refine hK.out _ _ ?_ (fun hHeld => ?_)
              · exact R37.out.cell
              clear hK K q0 q1 R36 V8_36 X1_36 V9_36 X2_36
              generalize W46.setCell ⟨p8, 0, none⟩ (.slice B1 ms.length b1) = W47 at *
              try simp only [Act.put, List.setIfInBounds_toArray, List.set_cons_zero, List.set_cons_succ]
              refine wpAnyH_ready (rs := [11]) (by kernel_rfl) (by simp) ?_
              refine AllReadyH.cons rfl (fun K hK => ?_) AllReadyH.nil
              · have q0 := V9_37.out.cell
                have q1 := V9_37.out.free
                go_simp
                have R38 := Lib.hid (R37.out.store (p := p9) (by simp) (.slice B2 ms.length b2))
                have V9_38 := Lib.hid (V9_37.out.set (.slice B2 ms.length b2))
                have V8_38 := Lib.hid (V8_37.out.far (q := p9) HN.out.symm (.slice B2 ms.length b2))
                have X1_38 := Lib.hid (X1_37.out.store (p := p9) (by simp) (.slice B2 ms.length b2))
                have X2_38 := Lib.hid (X2_37.out.store (p := p9) (by simp) (.slice B2 ms.length b2))
                refine hK.out _ _ ?_ (fun hHeld => ?_)
                · exact R38.out.cell
                clear hK K q0 q1 R37 V8_37 X1_37 V9_37 X2_37
                generalize W47.setCell ⟨p9, 0, none⟩ (.slice B2 ms.length b2) = W48 at *
                try simp only [Act.put, List.setIfInBounds_toArray, List.set_cons_zero, List.set_cons_succ]
                refine wpAnyH_done (by kernel_rfl) ?_ _
                refine NoPanic.normal ?_
                clear hHeld
                go_wp2_with fail
                go_meet
                exact ⟨p8, p9, _, _, xs, ys, rfl, rfl, Lib.hid (X1_38.out.made R38.out (by simp) V8_38.out), Lib.hid (X2_38.out.made R38.out (by simp) V9_38.out), Lib.hid ⟨LX1.out, LX2.out⟩, AX1, AX2⟩
      · go_simp
        have R39 := Lib.hid (R29.out.alloc (.cells #[.slice none 0 0] 27))
        have V8_39 := Lib.hid (V8_29.out.alloc (.cells #[.slice none 0 0] 27))
        have HN := Lib.hid (Nat.ne_of_lt V8_29.out.lt)
        have V9_39 := Lib.hid (VarAt.new W39 (.slice none 0 0))
        refine hK.out _ _ ?_ (fun hHeld => ?_)
        · exact R39.out.cell
        clear hK K R29 V8_29
        generalize W39.alloc (.cells #[.slice none 0 0] 27) = W49 at *
        generalize W39.heap.size = p9 at *
        try simp only [Act.put, List.setIfInBounds_toArray, List.set_cons_zero, List.set_cons_succ]
        refine wpAnyH_ready (rs := [3]) (by kernel_rfl) (by simp) ?_
        refine AllReadyH.cons rfl (fun K hK => ?_) AllReadyH.nil
        · go_simp
          refine (shown_run (fun b => w.heap.size < b ∧ b < G0) w.heap.size (fun b h => h.1) ms _ s _ hl1 hl10 hs10 R39.out.tape R39.out.mems).mono ?_
          rintro e W50 ⟨v1, xs, rfl, hxl, hxm, hxa, hsT, hgT⟩
          obtain ⟨B1, b1, hv⟩ := hxm.slice
          rw [hxl] at hv
          subst hv
          have R40 := Lib.hid (R39.out.grown hsT hgT)
          have V8_40 := Lib.hid (V8_39.out.grown R39.out (by simp) hgT)
          have V9_40 := Lib.hid (V9_39.out.grown R39.out (by simp) hgT)
          have X1_40 := Lib.hid (ConfOff.make R39.out hxm)
          have LX1 := Lib.hid hxl
          have AX1 := Lib.hid hxa
          clear hxl hxm hxa hsT hgT R39 V8_39 V9_39
          go_wp2_with fail
          refine hK.out _ _ ?_ (fun hHeld => ?_)
          · exact R40.out.cell
          clear hK K
          try simp only [Act.put, List.setIfInBounds_toArray, List.set_cons_zero, List.set_cons_succ]
          refine wpAnyH_ready (rs := [7]) (by kernel_rfl) (by simp) ?_
          refine AllReadyH.cons rfl (fun K hK => ?_) AllReadyH.nil
          · go_simp
            refine (shown_run (fun b => w.heap.size < b ∧ b < G0) w.heap.size (fun b h => h.1) ms _ s _ hl1 hl10 hs10 R40.out.tape R40.out.mems).mono ?_
            rintro e W51 ⟨v2, ys, rfl, hxl, hxm, hxa, hsT, hgT⟩
            obtain ⟨B2, b2, hv⟩ := hxm.slice
            rw [hxl] at hv
            subst hv
            have R41 := Lib.hid (R40.out.grown hsT hgT)
            have V8_41 := Lib.hid (V8_40.out.grown R40.out (by simp) hgT)
            have V9_41 := Lib.hid (V9_40.out.grown R40.out (by simp) hgT)
            have X1_41 := Lib.hid (X1_40.out.grown hgT)
            have X2_41 := Lib.hid (ConfOff.make R40.out hxm)
            have LX2 := Lib.hid hxl
            have AX2 := Lib.hid hxa
            clear hxl hxm hxa hsT hgT R40 V8_40 V9_40 X1_40
            go_wp2_with fail
            refine hK.out _ _ ?_ (fun hHeld => ?_)
            · exact R41.out.cell
            clear hK K
            try simp only [Act.put, List.setIfInBounds_toArray, List.set_cons_zero, List.set_cons_succ]
            refine wpAnyH_ready (rs := [10]) (by kernel_rfl) (by simp) ?_
            refine AllReadyH.cons rfl (fun K hK => ?_) AllReadyH.nil
            · have q0 := V8_41.out.cell
              have q1 := V8_41.out.free
              go_simp
              have R42 := Lib.hid (R41.out.store (p := p8) (by simp) (.slice B1 ms.length b1))
              have V8_42 := Lib.hid (V8_41.out.set (.slice B1 ms.length b1))
              have V9_42 := Lib.hid (V9_41.out.far (q := p8) HN.out (.slice B1 ms.length b1))
              have X1_42 := Lib.hid (X1_41.out.store (p := p8) (by simp) (.slice B1 ms.length b1))
              have X2_42 := Lib.hid (X2_41.out.store (p := p8) (by simp) (.slice B1 ms.length b1))
              refine hK.out _ _ ?_ (fun hHeld => ?_)
              · exact R42.out.cell
              clear hK K q0 q1 R41 V8_41 V9_41 X1_41 X2_41
              generalize W51.setCell ⟨p8, 0, none⟩ (.slice B1 ms.length b1) = W52 at *
              try simp only [Act.put, List.setIfInBounds_toArray, List.set_cons_zero, List.set_cons_succ]
              refine wpAnyH_ready (rs := [11]) (by kernel_rfl) (by simp) ?_
              refine AllReadyH.cons rfl (fun K hK => ?_) AllReadyH.nil
              · have q0 := V9_42.out.cell
                have q1 := V9_42.out.free
                go_simp
                have R43 := Lib.hid (R42.out.store (p := p9) (by simp) (.slice B2 ms.length b2))
                have V9_43 := Lib.hid (V9_42.out.set (.slice B2 ms.length b2))
                have V8_43 := Lib.hid (V8_42.out.far (q := p9) HN.out.symm (.slice B2 ms.length b2))
                have X1_43 := Lib.hid (X1_42.out.store (p := p9) (by simp) (.slice B2 ms.length b2))
                have X2_43 := Lib.hid (X2_42.out.store (p := p9) (by simp) (.slice B2 ms.length b2))
                refine hK.out _ _ ?_ (fun hHeld => ?_)
                · exact R43.out.cell
                clear hK K q0 q1 R42 V8_42 V9_42 X1_42 X2_42
                generalize W52.setCell ⟨p9, 0, none⟩ (.slice B2 ms.length b2) = W53 at *
                try simp only [Act.put, List.setIfInBounds_toArray, List.set_cons_zero, List.set_cons_succ]
                refine wpAnyH_done (by kernel_rfl) ?_ _
                refine NoPanic.normal ?_
                clear hHeld
                go_wp2_with fail
                go_meet
                exact ⟨p8, p9, _, _, xs, ys, rfl, rfl, Lib.hid (X1_43.out.made R43.out (by simp) V8_43.out), Lib.hid (X2_43.out.made R43.out (by simp) V9_43.out), Lib.hid ⟨LX1.out, LX2.out⟩, AX1, AX2⟩
    · go_simp
      have R44 := Lib.hid (R0.out.alloc (.cells #[.slice none 0 0] 27))
      have V9_44 := Lib.hid (VarAt.new W5 (.slice none 0 0))
      refine hK.out _ _ ?_ (fun hHeld => ?_)
      · exact R44.out.cell
      clear hK K R0
      generalize W5.alloc (.cells #[.slice none 0 0] 27) = W54 at *
      generalize W5.heap.size = p9 at *
      try simp only [Act.put, List.setIfInBounds_toArray, List.set_cons_zero, List.set_cons_succ]
      refine wpAnyH_ready (rs := [3, 8]) (by kernel_rfl) (by simp) ?_
      refine AllReadyH.cons rfl (fun K hK => ?_) (AllReadyH.cons rfl (fun K hK => ?_) AllReadyH.nil)
      · go_simp
        refine (shown_run (fun b => w.heap.size < b ∧ b < G0) w.heap.size (fun b h => h.1) ms _ s _ hl1 hl10 hs10 R44.out.tape R44.out.mems).mono ?_
        rintro e W55 ⟨v1, xs, rfl, hxl, hxm, hxa, hsT, hgT⟩
        obtain ⟨B1, b1, hv⟩ := hxm.slice
        rw [hxl] at hv
        subst hv
        have R45 := Lib.hid (R44.out.grown hsT hgT)
        have V9_45 := Lib.hid (V9_44.out.grown R44.out (by simp) hgT)
        have X1_45 := Lib.hid (ConfOff.make R44.out hxm)
        have LX1 := Lib.hid hxl
        have AX1 := Lib.hid hxa
        clear hxl hxm hxa hsT hgT R44 V9_44
        go_wp2_with fail
        refine hK.out _ _ ?_ (fun hHeld => ?_)
        · exact R45.out.cell
        clear hK K
        try simp only [Act.put, List.setIfInBounds_toArray, List.set_cons_zero, List.set_cons_succ]
        refine wpAnyH_ready (rs := [7, 8]) (by kernel_rfl) (by simp) ?_
        refine AllReadyH.cons rfl (fun K hK => ?_) (AllReadyH.cons rfl (fun K hK => ?_) AllReadyH.nil)
        · go_simp
          refine (shown_run (fun b => w.heap.size < b ∧ b < G0) w.heap.size (fun b h => h.1) ms _ s _ hl1 hl10 hs10 R45.out.tape R45.out.mems).mono ?_
          rintro e W56 ⟨v2, ys, rfl, hxl, hxm, hxa, hsT, hgT⟩
          obtain ⟨B2, b2, hv⟩ := hxm.slice
          rw [hxl] at hv
          subst hv
          have R46 := Lib.hid (R45.out.grown hsT hgT)
          have V9_46 := Lib.hid (V9_45.out.grown R45.out (by simp) hgT)
          have X1_46 := Lib.hid (X1_45.out.grown hgT)
          have X2_46 := Lib.hid (ConfOff.make R45.out hxm)
          have LX2 := Lib.hid hxl
          have AX2 := Lib.hid hxa
          clear hxl hxm hxa hsT hgT R45 V9_45 X1_45
          go_wp2_with fail
          refine hK.out _ _ ?_ (fun hHeld => ?_)
          · exact R46.out.cell
          clear hK K
          try simp only [Act.put, List.setIfInBounds_toArray, List.set_cons_zero, List.set_cons_succ]
          refine wpAnyH_ready (rs := [8]) (by kernel_rfl) (by simp) ?_
          refine AllReadyH.cons rfl (fun K hK => ?_) AllReadyH.nil
          · go_simp
            have R47 := Lib.hid (R46.out.alloc (.cells #[.slice none 0 0] 27))
            have V9_47 := Lib.hid (V9_46.out.alloc (.cells #[.slice none 0 0] 27))
            have HN := Lib.hid (Nat.ne_of_lt V9_46.out.lt)
            have V8_47 := Lib.hid (VarAt.new W56 (.slice none 0 0))
            have X1_47 := Lib.hid (X1_46.out.alloc (.cells #[.slice none 0 0] 27))
            have X2_47 := Lib.hid (X2_46.out.alloc (.cells #[.slice none 0 0] 27))
            refine hK.out _ _ ?_ (fun hHeld => ?_)
            · exact R47.out.cell
            clear hK K R46 V9_46 X1_46 X2_46
            generalize W56.alloc (.cells #[.slice none 0 0] 27) = W57 at *
            generalize W56.heap.size = p8 at *
            try simp only [Act.put, List.setIfInBounds_toArray, List.set_cons_zero, List.set_cons_succ]
            refine wpAnyH_ready (rs := [10]) (by kernel_rfl) (by simp) ?_
            refine AllReadyH.cons rfl (fun K hK => ?_) AllReadyH.nil
            · have q0 := V8_47.out.cell
              have q1 := V8_47.out.free
              go_simp
              have R48 := Lib.hid (R47.out.store (p := p8) (by simp) (.slice B1 ms.length b1))
              have V8_48 := Lib.hid (V8_47.out.set (.slice B1 ms.length b1))
              have V9_48 := Lib.hid (V9_47.out.far (q := p8) HN.out.symm (.slice B1 ms.length b1))
              have X1_48 := Lib.hid (X1_47.out.store (p := p8) (by simp) (.slice B1 ms.length b1))
              have X2_48 := Lib.hid (X2_47.out.store (p := p8) (by simp) (.slice B1 ms.length b1))
              refine hK.out _ _ ?_ (fun hHeld => ?_)
              · exact R48.out.cell
              clear hK K q0 q1 R47 V9_47 X1_47 X2_47 V8_47
              generalize W57.setCell ⟨p8, 0, none⟩ (.slice B1 ms.length b1) = W58 at *
              try simp only [Act.put, List.setIfInBounds_toArray, List.set_cons_zero, List.set_cons_succ]
              refine wpAnyH_ready (rs := [11]) (by kernel_rfl) (by simp) ?_
              refine AllReadyH.cons rfl (fun K hK => ?_) AllReadyH.nil
              · have q0 := V9_48.out.cell
                have q1 := V9_48.out.free
                go_simp
                have R49 := Lib.hid (R48.out.store (p := p9) (by simp) (.slice B2 ms.length b2))
                have V9_49 := Lib.hid (V9_48.out.set (.slice B2 ms.length b2))
                have V8_49 := Lib.hid (V8_48.out.far (q := p9) HN.out (.slice B2 ms.length b2))
                have X1_49 := Lib.hid (X1_48.out.store (p := p9) (by simp) (.slice B2 ms.length b2))
                have X2_49 := Lib.hid (X2_48.out.store (p := p9) (by simp) (.slice B2 ms.length b2))
                refine hK.out _ _ ?_ (fun hHeld => ?_)
                · exact R49.out.cell
                clear hK K q0 q1 R48 V9_48 X1_48 X2_48 V8_48
                generalize W58.setCell ⟨p9, 0, none⟩ (.slice B2 ms.length b2) = W59 at *
                try simp only [Act.put, List.setIfInBounds_toArray, List.set_cons_zero, List.set_cons_succ]
                refine wpAnyH_done (by kernel_rfl) ?_ _
                refine NoPanic.normal ?_
                clear hHeld
                go_wp2_with fail
                go_meet
                exact ⟨p8, p9, _, _, xs, ys, rfl, rfl, Lib.hid (X1_49.out.made R49.out (by simp) V8_49.out), Lib.hid (X2_49.out.made R49.out (by simp) V9_49.out), Lib.hid ⟨LX1.out, LX2.out⟩, AX1, AX2⟩
        · go_simp
          have R50 := Lib.hid (R45.out.alloc (.cells #[.slice none 0 0] 27))
          have V9_50 := Lib.hid (V9_45.out.alloc (.cells #[.slice none 0 0] 27))
          have HN := Lib.hid (Nat.ne_of_lt V9_45.out.lt)
          have V8_50 := Lib.hid (VarAt.new W55 (.slice none 0 0))
          have X1_50 := Lib.hid (X1_45.out.alloc (.cells #[.slice none 0 0] 27))
          refine hK.out _ _ ?_ (fun hHeld => ?_)
          · exact R50.out.cell
          clear hK K R45 V9_45 X1_45
          generalize W55.alloc (.cells #[.slice none 0 0] 27) = W60 at *
          generalize W55.heap.size = p8 at *
          try simp only [Act.put, List.setIfInBounds_toArray, List.set_cons_zero, List.set_cons_succ]
          refine wpAnyH_ready (rs := [7]) (by kernel_rfl) (by simp) ?_
          refine AllReadyH.cons rfl (fun K hK => ?_) AllReadyH.nil
          · go_simp
            refine (shown_run (fun b => w.heap.size < b ∧ b < G0) w.heap.size (fun b h => h.1) ms _ s _ hl1 hl10 hs10 R50.out.tape R50.out.mems).mono ?_
            rintro e W61 ⟨v2, ys, rfl, hxl, hxm, hxa, hsT, hgT⟩
            obtain ⟨B2, b2, hv⟩ := hxm.slice
            rw [hxl] at hv
            subst hv
            have R51 := Lib.hid (R50.out.grown hsT hgT)
            have V8_51 := Lib.hid (V8_50.out.grown R50.out (by simp) hgT)
            have V9_51 := Lib.hid (V9_50.out.grown R50.out (by simp) hgT)
            have X1_51 := Lib.hid (X1_50.out.grown hgT)
            have X2_51 := Lib.hid (ConfOff.make R50.out hxm)
            have LX2 := Lib.hid hxl
            have AX2 := Lib.hid hxa
            clear hxl hxm hxa hsT hgT R50 V9_50 X1_50 V8_50
            go_wp2_with fail
            refine hK.out _ _ ?_ (fun hHeld => ?_)
            · exact R51.out.cell
            clear hK K
            try simp only [Act.put, List.setIfInBounds_toArray, List.set_cons_zero, List.set_cons_succ]
            refine wpAnyH_ready (rs := [10]) (by kernel_rfl) (by simp) ?_
            refine AllReadyH.cons rfl (fun K hK => ?_) AllReadyH.nil
            · have q0 := V8_51.out.cell
              have q1 := V8_51.out.free
              go_simp
              have R52 := Lib.hid (R51.out.store (p := p8) (by simp) (.slice B1 ms.length b1))
              have V8_52 := Lib.hid (V8_51.out.set (.slice B1 ms.length b1))
              have V9_52 := Lib.hid (V9_51.out.far (q := p8) HN.out.symm (.slice B1 ms.length b1))
              have X1_52 := Lib.hid (X1_51.out.store (p := p8) (by simp) (.slice B1 ms.length b1))
              have X2_52 := Lib.hid (X2_51.out.store (p := p8) (by simp) (.slice B1 ms.length b1))
              refine hK.out _ _ ?_ (fun hHeld => ?_)
              · exact R52.out.cell
              clear hK K q0 q1 R51 V9_51 X1_51 V8_51 X2_51
              generalize W61.setCell ⟨p8, 0, none⟩ (.slice B1 ms.length b1) = W62 at *
              try simp only [Act.put, List.setIfInBounds_toArray, List.set_cons_zero, List.set_cons_succ]
              refine wpAnyH_ready (rs := [11]) (by kernel_rfl) (by simp) ?_
              refine AllReadyH.cons rfl (fun K hK => ?_) AllReadyH.nil
              · have q0 := V9_52.out.cell
                have q1 := V9_52.out.free
                go_simp
                have R53 := Lib.hid (R52.out.store (p := p9) (by simp) (.slice B2 ms.length b2))
                have V9_53 := Lib.hid (V9_52.out.set (.slice B2 ms.length b2))
                have V8_53 := Lib.hid (V8_52.out.far (q := p9) HN.out (.slice B2 ms.length b2))
                have X1_53 := Lib.hid (X1_52.out.store (p := p9) (by simp) (.slice B2 ms.length b2))
                have X2_53 := Lib.hid (X2_52.out.store (p := p9) (by simp) (.slice B2 ms.length b2))
                refine hK.out _ _ ?_ (fun hHeld => ?_)
                · exact R53.out.cell
                clear hK K q0 q1 R52 V9_52 X1_52 V8_52 X2_52
                generalize W62.setCell ⟨p9, 0, none⟩ (.slice B2 ms.length b2) = W63 at *
                try simp only [Act.put, List.setIfInBounds_toArray, List.set_cons_zero, List.set_cons_succ]
                refine wpAnyH_done (by kernel_rfl) ?_ _
                refine NoPanic.normal ?_
                clear hHeld
                go_wp2_with fail
                go_meet
                exact ⟨p8, p9, _, _, xs, ys, rfl, rfl, Lib.hid (X1_53.out.made R53.out (by simp) V8_53.out), Lib.hid (X2_53.out.made R53.out (by simp) V9_53.out), Lib.hid ⟨LX1.out, LX2.out⟩, AX1, AX2⟩
      · go_simp
        have R54 := Lib.hid (R44.out.alloc (.cells #[.slice none 0 0] 27))
        have V9_54 := Lib.hid (V9_44.out.alloc (.cells #[.slice none 0 0] 27))
        have HN := Lib.hid (Nat.ne_of_lt V9_44.out.lt)
        have V8_54 := Lib.hid (VarAt.new W54 (.slice none 0 0))
        refine hK.out _ _ ?_ (fun hHeld => ?_)
        · exact R54.out.cell
        clear hK K R44 V9_44
        generalize W54.alloc (.cells #[.slice none 0 0] 27) = W64 at *
        generalize W54.heap.size = p8 at *
        try simp only [Act.put, List.setIfInBounds_toArray, List.set_cons_zero, List.set_cons_succ]
        refine wpAnyH_ready (rs := [3]) (by kernel_rfl) (by simp) ?_
        refine AllReadyH.cons rfl (fun K hK => ?_) AllReadyH.nil
        · go_simp
          refine (shown_run (fun b => w.heap.size < b ∧ b < G0) w.heap.size (fun b h => h.1) ms _ s _ hl1 hl10 hs10 R54.out.tape R54.out.mems).mono ?_
          rintro e W65 ⟨v1, xs, rfl, hxl, hxm, hxa, hsT, hgT⟩
          obtain ⟨B1, b1, hv⟩ := hxm.slice
          rw [hxl] at hv
          subst hv
          have R55 := Lib.hid (R54.out.grown hsT hgT)
          have V8_55 := Lib.hid (V8_54.out.grown R54.out (by simp) hgT)
          have V9_55 := Lib.hid (V9_54.out.grown R54.out (by simp) hgT)
          have X1_55 := Lib.hid (ConfOff.make R54.out hxm)
          have LX1 := Lib.hid hxl
          have AX1 := Lib.hid hxa
          clear hxl hxm hxa hsT hgT R54 V9_54 V8_54
          go_wp2_with fail
          refine hK.out _ _ ?_ (fun hHeld => ?_)
          · exact R55.out.cell
          clear hK K
          try simp only [Act.put, List.setIfInBounds_toArray, List.set_cons_zero, List.set_cons_succ]
          refine wpAnyH_ready (rs := [7]) (by kernel_rfl) (by simp) ?_
          refine AllReadyH.cons rfl (fun K hK => ?_) AllReadyH.nil
          · go_simp
            refine (shown_run (fun b => w.heap.size < b ∧ b < G0) w.heap.size (fun b h => h.1) ms _ s _ hl1 hl10 hs10 R55.out.tape R55.out.mems).mono ?_
            rintro e W66 ⟨v2, ys, rfl, hxl, hxm, hxa, hsT, hgT⟩
            obtain ⟨B2, b2, hv⟩ := hxm.slice
            rw [hxl] at hv
            subst hv
            have R56 := Lib.hid (R55.out.grown hsT hgT)
            have V8_56 := Lib.hid (V8_55.out.grown R55.out (by simp) hgT)
            have V9_56 := Lib.hid (V9_55.out.grown R55.out (by simp) hgT)
            have X1_56 := Lib.hid (X1_55.out.grown hgT)
            have X2_56 := Lib.hid (ConfOff.make R55.out hxm)
            have LX2 := Lib.hid hxl
            have AX2 := Lib.hid hxa
            clear hxl hxm hxa hsT hgT R55 V9_55 V8_55 X1_55
            go_wp2_with fail
            refine hK.out _ _ ?_ (fun hHeld => ?_)
            · exact R56.out.cell
            clear hK K
            try simp only [Act.put, List.setIfInBounds_toArray, List.set_cons_zero, List.set_cons_succ]
            refine wpAnyH_ready (rs := [10]) (by kernel_rfl) (by simp) ?_
            refine AllReadyH.cons rfl (fun K hK => ?_) AllReadyH.nil
            · have q0 := V8_56.out.cell
              have q1 := V8_56.out.free
              go_simp
              have R57 := Lib.hid (R56.out.store (p := p8) (by simp) (.slice B1 ms.length b1))
              have V8_57 := Lib.hid (V8_56.out.set (.slice B1 ms.length b1))
              have V9_57 := Lib.hid (V9_56.out.far (q := p8) HN.out.symm (.slice B1 ms.length b1))
              have X1_57 := Lib.hid (X1_56.out.store (p := p8) (by simp) (.slice B1 ms.length b1))
              have X2_57 := Lib.hid (X2_56.out.store (p := p8) (by simp) (.slice B1 ms.length b1))
              refine hK.out _ _ ?_ (fun hHeld => ?_)
              · exact R57.out.cell
              clear hK K q0 q1 R56 V9_56 V8_56 X1_56 X2_56
              generalize W66.setCell ⟨p8, 0, none⟩ (.slice B1 ms.length b1) = W67 at *
              try simp only [Act.put, List.setIfInBounds_toArray, List.set_cons_zero, List.set_cons_succ]
              refine wpAnyH_ready (rs := [11]) (by kernel_rfl) (by simp) ?_
              refine AllReadyH.cons rfl (fun K hK => ?_) AllReadyH.nil
              · have q0 := V9_57.out.cell
                have q1 := V9_57.out.free
                go_simp
                have R58 := Lib.hid (R57.out.store (p := p9) (by simp) (.slice B2 ms.length b2))
                have V9_58 := Lib.hid (V9_57.out.set (.slice B2 ms.length b2))
                have V8_58 := Lib.hid (V8_57.out.far (q := p9) HN.out (.slice B2 ms.length b2))
                have X1_58 := Lib.hid (X1_57.out.store (p := p9) (by simp) (.slice B2 ms.length b2))
                have X2_58 := Lib.hid (X2_57.out.store (p := p9) (by simp) (.slice B2 ms.length b2))
                refine hK.out _ _ ?_ (fun hHeld => ?_)
                · exact R58.out.cell
                clear hK K q0 q1 R57 V9_57 V8_57 X1_57 X2_57
                generalize W67.setCell ⟨p9, 0, none⟩ (.slice B2 ms.length b2) = W68 at *
                try simp only [Act.put, List.setIfInBounds_toArray, List.set_cons_zero, List.set_cons_succ]
                refine wpAnyH_done (by kernel_rfl) ?_ _
                refine NoPanic.normal ?_
                clear hHeld
                go_wp2_with fail
                go_meet
                exact ⟨p8, p9, _, _, xs, ys, rfl, rfl, Lib.hid (X1_58.out.made R58.out (by simp) V8_58.out), Lib.hid (X2_58.out.made R58.out (by simp) V9_58.out), Lib.hid ⟨LX1.out, LX2.out⟩, AX1, AX2⟩
  case rest =>
    obtain ⟨gx, gy, vx, vy, xs, ys, rfl, rfl, HX, HYY, HLN, HAX, HAY⟩ := hcut
    obtain ⟨Ax, cx, rfl⟩ := HX.out.mems.slice
    obtain ⟨Ay, cy, rfl⟩ := HYY.out.mems.slice
    have HXY := Lib.hid (And.intro HX.out HYY.out)
    clear R0 H4 HX HYY
    generalize hnx : xs.length = nx at *
    generalize hny : ys.length = ny at *
    have HNX := Lib.hid hnx
    have HNY := Lib.hid hny
    clear hnx hny
    go_upto_region 7 with fail
    go_loopw [10] (fun t W => ∃ i : Nat, i ≤ 12 ∧ t = .int .i64 i ∧ Hid (CMade w gx (.slice Ax nx cx) xs W ∧ CMade w gy (.slice Ay ny cy) ys W)) (fun t _ => 12 - (intOf t).toNat)
    case atStart => exact ⟨0, by omega, rfl, HXY⟩
    case round =>
      obtain ⟨i, hi, rfl, hM⟩ := hrel
      by_cases hlt : i < 12
      · have hi12 : (i : Int) < 12 := by omega
        go_wp2_with fail
        refine (TN_run _ _ _ (by omega) (by omega) hM.out.1.tape).mono ?_
        rintro e X0 ⟨r, hr0k, hr1k, rfl, hs, hg⟩
        obtain ⟨k, rfl⟩ := Int.eq_ofNat_of_zero_le hr0k
        have H0 := Lib.hid (And.intro (hM.out.1.grown hs hg) (hM.out.2.grown hs hg))
        clear hs hg hM
        go_wp2_with fail
        refine (TN_run _ _ _ (by omega) (by omega) H0.out.1.tape).mono ?_
        rintro e X1 ⟨r, hr0l, hr1l, rfl, hs, hg⟩
        obtain ⟨l, rfl⟩ := Int.eq_ofNat_of_zero_le hr0l
        have H1 := Lib.hid (And.intro (H0.out.1.grown hs hg) (H0.out.2.grown hs hg))
        clear hs hg H0
        go_wp2_with fail
        refine (TN_run _ _ _ (by omega) (by omega) H1.out.1.tape).mono ?_
        rintro e X2 ⟨r, hr0a, hr1a, rfl, hs, hg⟩
        obtain ⟨a, rfl⟩ := Int.eq_ofNat_of_zero_le hr0a
        have H2 := Lib.hid (And.intro (H1.out.1.grown hs hg) (H1.out.2.grown hs hg))
        clear hs hg H1
        go_wp2_with fail
        refine (TN_run _ _ _ (by omega) (by omega) H2.out.1.tape).mono ?_
        rintro e X3 ⟨r, hr0b, hr1b, rfl, hs, hg⟩
        obtain ⟨b, rfl⟩ := Int.eq_ofNat_of_zero_le hr0b
        have H3 := Lib.hid (And.intro (H2.out.1.grown hs hg) (H2.out.2.grown hs hg))
        clear hs hg H2

        have hbk := hasB_bit hs10 (show k < 10 by omega)
        have hbl := hasB_bit hs10 (show l < 10 by omega)
        go_wp2_with fail
        refine (rhas_run _ _ _).mono ?_
        rintro e w2 ⟨rfl, rfl⟩
        rw [hbk]
        cases hk1 : s.testBit k
        · go_wp2_with fail
          refine (rhas_run _ _ _).mono ?_
          rintro e w2 ⟨rfl, rfl⟩
          rw [hbl]
          cases hk2 : s.testBit l
          · rcases (show yes = false ∨ yes = true by cases yes <;> simp) with rfl | rfl
            · go_wp2_with fail
              go_roundw
              case rel => exact ⟨i + 1, by omega, by go_num, H3⟩
              case measure => simp [intOf]; omega
            · have HNO := Lib.hid (HY.out.1 rfl)
              have c1 := H3.out.1.cell
              go_wp2_with fail
              refine (confirms_run _ 2 xs _ k a _ (by have := HLN.out.1; have := HNX.out; omega) (by omega) (by omega) H3.out.1.mems).mono ?_
              rintro e Y1 ⟨rfl, hb1⟩
              have H5 := Lib.hid (And.intro (H3.out.1.bel hb1) (H3.out.2.bel hb1))
              clear hb1 c1
              cases hC1 : cnfB 2 xs k a
              · have HC1 := Lib.hid hC1
                clear hC1
                go_wp2_with fail
                go_roundw
                case rel => exact ⟨i + 1, by omega, by go_num, H5⟩
                case measure => simp [intOf]; omega
              · have HC1 := Lib.hid hC1
                clear hC1
                have c2 := H5.out.2.cell
                go_wp2_with fail
                refine (confirms_run _ 2 ys _ l b _ (by have := HLN.out.2; have := HNY.out; omega) (by omega) (by omega) H5.out.2.mems).mono ?_
                rintro e Y2 ⟨rfl, hb2⟩
                have H6 := Lib.hid (And.intro (H5.out.1.bel hb2) (H5.out.2.bel hb2))
                clear hb2 c2
                cases hC2 : cnfB 2 ys l b
                · have HC2 := Lib.hid hC2
                  clear hC2
                  go_wp2_with fail
                  go_roundw
                  case rel => exact ⟨i + 1, by omega, by go_num, H6⟩
                  case measure => simp [intOf]; omega
                · have hsafe := fed_safe (s := s) hl10 (HNX.out.trans HLN.out.1) (HNY.out.trans HLN.out.2) hs10 HOK.out HAX.out HAY.out HNO.out hk1 hk2 HC1.out hC2
                  obtain ⟨kk, z1, z2, z3⟩ := hsafe
                  have e1 := i64_and_nat a b (by omega) (by omega)
                  have hab : a &&& b < 1024 := Nat.lt_of_le_of_lt Nat.and_le_left (by omega)
                  have e2 := andNot_nat (a &&& b) s hab hs10
                  have e3 : (((a &&& b) ^^^ ((a &&& b) &&& s) : Nat) : Int) ≠ 0 := fun e => by
                    have e4 : minS (a &&& b) s = 0 := by unfold minS; omega
                    have e5 := minS_bit (a &&& b) s kk
                    rw [e4, Nat.zero_testBit, Nat.testBit_and, z1, z2, z3] at e5
                    cases e5
                  generalize (a &&& b) ^^^ ((a &&& b) &&& s) = mm at *
                  have e6 : ((mm : Int) == 0) = false := by simpa using e3
                  clear e3 z1 z2 z3 hab
                  generalize a &&& b = ab at *
                  go_wp2_with fail
                  go_roundw
                  case rel => exact ⟨i + 1, by omega, by go_num, H6⟩
                  case measure => simp [intOf]; omega
          · go_wp2_with fail
            go_roundw
            case rel => exact ⟨i + 1, by omega, by go_num, H3⟩
            case measure => simp [intOf]; omega
        · go_wp2_with fail
          go_roundw
          case rel => exact ⟨i + 1, by omega, by go_num, H3⟩
          case measure => simp [intOf]; omega
      · obtain rfl : i = 12 := by omega
        go_wp2_with fail
        refine (awake18 _).mono ?_
        rintro e Z ⟨rfl, hbz⟩
        have HZ := Lib.hid (bstep hM.out.1.below hbz)
        clear hbz
        go_wp2_with fail
        go_ret
        exact ⟨rfl, HZ.out⟩
end Go.Proofs.Ytbbdmaakphoofaa
