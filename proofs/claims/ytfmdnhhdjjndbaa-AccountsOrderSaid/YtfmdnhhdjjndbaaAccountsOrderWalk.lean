/- The walk of AccountsOrder: accounts stay ascending, each ID is there once, and the accounts that are not named stay as they are. -/
import Derived.Test.YtfmdnhhdjjndbaaSrcL
import Derived.Test.YtfmdnhhdjjndbaaA36c
import Derived.Test.YtfmdnhhdjjndbaaA36d
namespace Go.Proofs.Ytfmdnhhdjjndbaa
set_option linter.unusedVariables false
set_option linter.unusedSimpArgs false
open Go.RowKit

theorem getA_at' {L : List Acc} {i : Int} {k : Nat} {a : Acc} (h : findA i L = k) (ha : L[k]? = some a) : getA i L = a := by
  unfold getA
  rw [h, ha]
  rfl

theorem getA_no' {L : List Acc} {i : Int} (h : findA i L = L.length) : getA i L = ⟨0, 0, 0⟩ := by
  unfold getA
  rw [h, List.getElem?_eq_none (Nat.le_refl _)]
  rfl

theorem led_acc' (x0 x4 x5 x6 : Int) (A B C : Option Addr) (n c nl cl no co : Nat) (W : World) : Sem.run Try.prog (Instr.field 30 (.agg #[.int .i64 x0, .slice A n c, .slice B nl cl, .slice C no co, .int .i64 x4, .int .i64 x5, .int .u64 x6]) 1) W = .ok (.slice A n c) W := by kernel_rfl

set_option maxRecDepth 100000 in
set_option maxHeartbeats 8000000 in
theorem walkAccountsOrder (a0 : Option Addr) (len0 cap0 : Nat) (z0 : List Int) (a1 : Int) (w : World) (w0 : IsRow .i64 w a0 len0 cap0 z0) (w1 : (Lit.int .u16 a1).wf = true) :
    Calls Try.prog 4 #[.slice a0 len0 cap0, .int .u16 a1] w fun e w' => e = .returned (.bool true) ∧ Below w.heap.size w w' := by
  have HR := Lib.hid w0
  have hu : 0 ≤ a1 ∧ a1 ≤ 65535 := (show IntKind.u16.min ≤ a1 ∧ a1 ≤ IntKind.u16.max by simpa [Lit.wf] using w1)
  clear w0 w1
  have hfd := led_acc'
  go_enter Try.func4, Try.ntmps4
  go_wp2_with fail
  refine (New_run _ _ _ _ _ HR.out).mono ?_
  rintro e v1 ⟨rfl, hs1, hb1⟩
  have HS1 := Lib.hid hs1
  have HB1 := Lib.hid hb1
  clear hs1 hb1
  go_wp2_with fail
  refine (Ledger_run _ _ HS1.out).mono ?_
  rintro e v2 ⟨g, va, vl, vo, rfl, hg⟩
  obtain ⟨A, c, B', cb, C', cc, hva, hvl, hvo, _⟩ := hg.at_.form
  subst hva
  subst hvl
  subst hvo
  have HG := Lib.hid hg
  have HB2 := Lib.hid (show Below w.heap.size w v2 from Below.grown HB1.out hg.gr HB1.out.size (fun j hj => by cases hj; exact Nat.le_refl _))
  obtain ⟨n, hn⟩ : ∃ n, g.accs.length = n := ⟨_, rfl⟩
  have hn1 := hg.n1
  have hn5 := hg.n5
  have HN := Lib.hid hn
  rw [hn] at hn1 hn5 ⊢
  clear hg hn
  unfold valG
  have HA0 := Lib.hid (show AccAt (fun _ => True) v2 (.slice A n c) g.accs from by
    have h1 := HG.out.at_.a
    rw [HN.out] at h1
    exact h1.imp (fun _ _ _ => trivial))
  have HID0 := Lib.hid (show (∀ (k : Nat) (a : Acc), g.accs[k]? = some a → a.id = (k : Int) + 1) ∧ g.accs.length = n ∧ AccsOk g.accs from ⟨HG.out.acc.id, HN.out, HG.out.ok.accs⟩)
  obtain ⟨kk, hf, hf0, hf1⟩ : ∃ f : Int, 1 + a1 % 1000 = f ∧ 1 ≤ f ∧ f ≤ 1000 := ⟨_, rfl, by omega, by omega⟩
  generalize g.accs = L0 at *
  clear HS1 HB1 HG HN
  go_wp2_with fail
  clear hf
  have HFL : Hid (∀ W, AccAt (fun _ => True) W (.slice A n c) L0 → ∀ i : Int, Calls Try.prog 13 #[.slice A n c, .int .i64 i] W fun e w' => e = .returned (.tuple #[valA (getA i L0), .bool (hasA i L0)]) ∧ Below W.heap.size W w') := Lib.hid (fun W hW i => by
    have h1 := afind_run (fun _ => True) L0 i (.slice A n c) W (by rw [HID0.out.2.1]; omega) hW
    exact h1)
  rcases (show kk ≤ (n : Int) ∨ (n : Int) < kk by omega) with hkn | hkn
  · obtain ⟨F, hF, hF0⟩ : ∃ F : Nat, (F : Int) + 1 = kk ∧ F < n := ⟨(kk - 1).toNat, by omega, by omega⟩
    obtain ⟨a, ha⟩ : ∃ a, L0[F]? = some a := ⟨_, List.getElem?_eq_getElem (by rw [HID0.out.2.1]; exact hF0)⟩
    have hfa : findA kk L0 = F := findA_at ha (by rw [HID0.out.1 F a ha]; exact hF) (fun j b hj hb e => by rw [HID0.out.1 j b hb] at e; omega)
    have HCR := Lib.hid (acreate_there (fun _ => True) L0 kk 7 _ v2 HID0.out.2.2 hf0 hf1 (by rw [hfa, HID0.out.2.1]; exact hF0) HA0.out)
    have HFO := Lib.hid (show ∀ W, AccAt (fun _ => True) W (.slice A n c) L0 → Calls Try.prog 13 #[.slice A n c, .int .i64 kk] W fun e w' => e = .returned (.tuple #[.agg #[.int .i64 a.id, .int .i64 a.bal, .int .i64 a.seq], .bool true]) ∧ Below W.heap.size W w' from fun W hW => by
      have h1 := HFL.out W hW kk
      rw [getA_at' hfa ha, show hasA kk L0 = true by unfold hasA; rw [hfa, HID0.out.2.1]; exact decide_eq_true hF0] at h1
      exact h1)
    clear hF hF0 ha hfa hkn
    refine HCR.out.mono ?_
    rintro e W1 ⟨rfl, hb1⟩
    have HA1 := Lib.hid (HA0.out.below hb1)
    have HB1 := Lib.hid (bstep HB2.out hb1)
    clear hb1
    go_wp2_with fail
    refine (HFO.out _ HA1.out).mono ?_
    rintro e W2 ⟨rfl, hb2⟩
    have HB3 := Lib.hid (balloc (bstep HB1.out hb2) (.cells #[.int .i64 a.id, .int .i64 a.bal, .int .i64 a.seq] 34))
    clear hb2
    go_upto_region 6 with fail
    generalize W2.alloc (.cells #[.int .i64 a.id, .int .i64 a.bal, .int .i64 a.seq] 34) = W3 at *
    generalize W2.heap.size = ab at *
    go_wp2_with fail
    refine (sane36 _).mono ?_
    rintro e W6 ⟨rfl, hb6⟩
    have HB6 := Lib.hid (bstep HB3.out hb6)
    clear hb6
    go_wp2_with fail
    go_ret
    exact ⟨rfl, HB6.out⟩
  · have hall : ∀ (k : Nat) (a : Acc), L0[k]? = some a → a.id < kk := fun k a ha => by
      have h1 := HID0.out.1 k a ha
      have h2 := (List.getElem?_eq_some_iff.1 ha).1
      rw [HID0.out.2.1] at h2
      omega
    have hfn : findA kk L0 = L0.length := findA_none (fun k a ha => by have := hall k a ha; omega)
    have HCR := Lib.hid (acreate_run (fun _ => True) L0 kk 7 _ v2 HID0.out.2.2 (by rw [HID0.out.2.1]; omega) (by rw [HID0.out.2.1]; omega) hf0 hf1 (by omega) (by omega) hall HA0.out)
    have HFO0 := Lib.hid (show ∀ W, AccAt (fun _ => True) W (.slice A n c) L0 → Calls Try.prog 13 #[.slice A n c, .int .i64 kk] W fun e w' => e = .returned (.tuple #[.agg #[.int .i64 0, .int .i64 0, .int .i64 0], .bool false]) ∧ Below W.heap.size W w' from fun W hW => by
      have h1 := HFL.out W hW kk
      rw [getA_no' hfn, show hasA kk L0 = false by unfold hasA; rw [hfn]; exact decide_eq_false (by omega)] at h1
      exact h1)
    have HALL := Lib.hid hall
    clear hall hfn
    refine HCR.out.mono ?_
    rintro e W1 ⟨vx, rfl, hch⟩
    obtain ⟨X, hX⟩ : ∃ X, L0 ++ [(⟨kk, 7, 0⟩ : Acc)] = X := ⟨_, rfl⟩
    have HXL := Lib.hid (show X.length = n + 1 by rw [← hX, List.length_append, HID0.out.2.1]; rfl)
    have HXN := Lib.hid (show ∀ a, X[n]? = some a → a = ⟨kk, 7, 0⟩ from fun a ha => by
      rw [← hX, List.getElem?_append_right (by rw [HID0.out.2.1]; exact Nat.le_refl _), HID0.out.2.1, Nat.sub_self] at ha
      exact (Option.some.inj ha).symm)
    have HXI := Lib.hid (show ∀ (k : Nat) (a : Acc), k < n → X[k]? = some a → L0[k]? = some a from fun k a hk ha => by
      rw [← hX, List.getElem?_append_left (by rw [HID0.out.2.1]; exact hk)] at ha
      exact ha)
    have HXO := Lib.hid (show ∀ (k : Nat) (x y : Acc), X[k]? = some x → X[k + 1]? = some y → x.id < y.id from fun k x y hx hy => by
      have hk : k + 1 < X.length := (List.getElem?_eq_some_iff.1 hy).1
      rw [HXL.out] at hk
      have hx' := HXI.out k x (by omega) hx
      rcases (show k + 1 < n ∨ k + 1 = n by omega) with h | h
      · exact HID0.out.2.2.asc k x y hx' (HXI.out (k + 1) y h hy)
      · rw [h] at hy
        rw [HXN.out y hy]
        exact HALL.out k x hx')
    have HXA := Lib.hid (hch.good rfl)
    rw [hX] at HXA
    obtain ⟨D, dc, rfl, hdc, hdm⟩ := HXA.out.slice
    rw [HXL.out] at HXA hdc ⊢
    have HA1 := Lib.hid (HA0.out.below hch.bel)
    have HB1 := Lib.hid (bstep HB2.out hch.bel)
    clear hch hX HALL HCR
    go_wp2_with fail
    refine (HFO0.out _ HA1.out).mono ?_
    rintro e W2 ⟨rfl, hb2⟩
    have hba := balloc hb2 (.cells #[.int .i64 0, .int .i64 0, .int .i64 0] 34)
    have HB3 := Lib.hid (bstep HB1.out hba)
    have HA3 := Lib.hid (HA1.out.below hba)
    have HXA3 := Lib.hid (HXA.out.below hba)
    clear hb2 hba HA0 HA1 HXA HB1 HB2
    go_upto_region 6 with fail
    generalize W2.alloc (.cells #[.int .i64 0, .int .i64 0, .int .i64 0] 34) = V at *
    generalize W2.heap.size = ab at *
    have HA0 := Lib.hid HA3.out
    have HXA := Lib.hid HXA3.out
    clear HA3 HXA3
    go_wp2_with fail
    go_loopw [49] (fun t W => ∃ k : Nat, k ≤ n + 1 ∧ t = .int .i64 (k : Int) ∧ Hid (Below V.heap.size V W)) (fun t _ => n + 1 - (intOf t).toNat)
    case atStart => exact ⟨0, by omega, rfl, Lib.hid (bref _)⟩
    case round =>
      obtain ⟨k, hk, rfl, hB⟩ := hrel
      by_cases hlt : k < n + 1
      · obtain ⟨a, ha⟩ : ∃ a, X[k]? = some a := ⟨_, List.getElem?_eq_getElem (by rw [HXL.out]; exact hlt)⟩
        obtain ⟨b, off, rfl, hP, hbl, d0, d1, d2⟩ := accBox (HXA.out.below hB.out) ha
        have HA := Lib.hid ha
        clear ha
        have q0 : (k : Int) < (n : Int) + 1 := by omega
        have HB1 := Lib.hid (balloc hB.out (.cells #[.int .i64 a.id, .int .i64 a.bal, .int .i64 a.seq] 34))
        have HBX := Lib.hid (box3 wr 34 (.int .i64 a.id) (.int .i64 a.bal) (.int .i64 a.seq))
        go_upto_region 11 with fail
        clear d0 d1 d2
        rcases (show k < n ∨ k = n by omega) with hkl | hkl
        · have ha' := HXI.out k a hkl HA.out
          have hfa : findA a.id L0 = k := findA_at ha' rfl (fun j b hj hb e => by rw [HID0.out.1 j b hb, HID0.out.1 k a ha'] at e; omega)
          have HFO := Lib.hid (show ∀ W, AccAt (fun _ => True) W (.slice A n c) L0 → Calls Try.prog 13 #[.slice A n c, .int .i64 a.id] W fun e w' => e = .returned (.tuple #[.agg #[.int .i64 a.id, .int .i64 a.bal, .int .i64 a.seq], .bool true]) ∧ Below W.heap.size W w' from fun W hW => by
            have h1 := HFL.out W hW a.id
            rw [getA_at' hfa ha', show hasA a.id L0 = true by unfold hasA; rw [hfa, HID0.out.2.1]; exact decide_eq_true hkl] at h1
            exact h1)
          clear ha' hfa
          rcases Nat.eq_zero_or_pos k with hk0 | hpos
          · have q4 : decide (0 < k) = false := decide_eq_false (by omega)
            have HK := Lib.hid hk0
            clear hk0
            have hS := Lib.hid (Cs.drew HBX.out)
            generalize wr.alloc (.cells #[.int .i64 a.id, .int .i64 a.bal, .int .i64 a.seq] 34) = W1 at *
            refine wp_region_held_drew (S := (fun W => Cs [(⟨wr.heap.size, 0, none⟩, .int .i64 a.id), (⟨wr.heap.size, 1, none⟩, .int .i64 a.bal), (⟨wr.heap.size, 2, none⟩, .int .i64 a.seq)] W)) (by kernel_rfl) hS.out (fun hSK => ?_)
            refine take_d (some 54) (i := 0) (v := ?_) rfl rfl (by kernel_rfl) (by kernel_rfl) (by kernel_rfl) (fun _ _ _ h => h) (Or.inl ⟨by rfl, ?_⟩) (by assumption) ?_
            rotate_left
            · intro w hSw; (dsimp only [Cs] at hSw); go_simp; (try with_reducible rfl)
            try simp only [Act.put, List.setIfInBounds_toArray, List.set_cons_zero, List.set_cons_succ]
            refine take_d (some 55) (i := 1) (v := ?_) rfl rfl (by kernel_rfl) (by kernel_rfl) (by kernel_rfl) (fun _ _ _ h => h) (Or.inl ⟨by rfl, ?_⟩) (by assumption) ?_
            rotate_left
            · intro w hSw; (dsimp only [Cs] at hSw); go_simp; (try with_reducible rfl)
            try simp only [Act.put, List.setIfInBounds_toArray, List.set_cons_zero, List.set_cons_succ]
            refine take_d (some 56) (i := 2) (v := ?_) rfl rfl (by kernel_rfl) (by kernel_rfl) (by kernel_rfl) (fun _ _ _ h => h) (Or.inl ⟨by rfl, ?_⟩) (by assumption) ?_
            rotate_left
            · intro w hSw; (dsimp only [Cs] at hSw); go_simp; (try with_reducible rfl)
            try simp only [Act.put, List.setIfInBounds_toArray, List.set_cons_zero, List.set_cons_succ]
            refine take_d (some 57) (i := 3) (v := undef) rfl rfl (by kernel_rfl) (by kernel_rfl) (by kernel_rfl) (fun _ _ _ h => h) (Or.inr ⟨by rfl, rfl⟩) (by assumption) ?_
            try simp only [Act.put, List.setIfInBounds_toArray, List.set_cons_zero, List.set_cons_succ]
            refine take_d (some 58) (i := 4) (v := undef) rfl rfl (by kernel_rfl) (by kernel_rfl) (by kernel_rfl) (fun _ _ _ h => h) (Or.inr ⟨by rfl, rfl⟩) (by assumption) ?_
            try simp only [Act.put, List.setIfInBounds_toArray, List.set_cons_zero, List.set_cons_succ]
            refine take_d (some 59) (i := 5) (v := undef) rfl rfl (by kernel_rfl) (by kernel_rfl) (by kernel_rfl) (fun _ _ _ h => h) (Or.inr ⟨by rfl, rfl⟩) (by assumption) ?_
            try simp only [Act.put, List.setIfInBounds_toArray, List.set_cons_zero, List.set_cons_succ]
            refine take_d (some 60) (i := 6) (v := undef) rfl rfl (by kernel_rfl) (by kernel_rfl) (by kernel_rfl) (fun _ _ _ h => h) (Or.inr ⟨by rfl, rfl⟩) (by assumption) ?_
            try simp only [Act.put, List.setIfInBounds_toArray, List.set_cons_zero, List.set_cons_succ]
            refine take_d (some 61) (i := 7) (v := undef) rfl rfl (by kernel_rfl) (by kernel_rfl) (by kernel_rfl) (fun _ _ _ h => h) (Or.inr ⟨by rfl, rfl⟩) (by assumption) ?_
            try simp only [Act.put, List.setIfInBounds_toArray, List.set_cons_zero, List.set_cons_succ]
            refine take_d (some 62) (i := 8) (v := undef) rfl rfl (by kernel_rfl) (by kernel_rfl) (by kernel_rfl) (fun _ _ _ h => h) (Or.inr ⟨by rfl, rfl⟩) (by assumption) ?_
            try simp only [Act.put, List.setIfInBounds_toArray, List.set_cons_zero, List.set_cons_succ]
            refine take_d (some 63) (i := 9) (v := undef) rfl rfl (by kernel_rfl) (by kernel_rfl) (by kernel_rfl) (fun _ _ _ h => h) (Or.inr ⟨by rfl, rfl⟩) (by assumption) ?_
            try simp only [Act.put, List.setIfInBounds_toArray, List.set_cons_zero, List.set_cons_succ]
            refine take_d (some 64) (i := 10) (v := undef) rfl rfl (by kernel_rfl) (by kernel_rfl) (by kernel_rfl) (fun _ _ _ h => h) (Or.inr ⟨by rfl, rfl⟩) (by assumption) ?_
            try simp only [Act.put, List.setIfInBounds_toArray, List.set_cons_zero, List.set_cons_succ]
            refine take_d (some 65) (i := 11) (v := undef) rfl rfl (by kernel_rfl) (by kernel_rfl) (by kernel_rfl) (fun _ _ _ h => h) (Or.inr ⟨by rfl, rfl⟩) (by assumption) ?_
            try simp only [Act.put, List.setIfInBounds_toArray, List.set_cons_zero, List.set_cons_succ]
            refine take_d (some 66) (i := 12) (v := ?_) rfl rfl (by kernel_rfl) (by kernel_rfl) (by kernel_rfl) (fun _ _ _ h => h) (Or.inl ⟨by rfl, ?_⟩) (by assumption) ?_
            rotate_left
            · intro w hSw; (dsimp only [Cs] at hSw); go_simp; (try with_reducible rfl)
            try simp only [Act.put, List.setIfInBounds_toArray, List.set_cons_zero, List.set_cons_succ]
            refine wpAnyH_done (by kernel_rfl) ?_ _
            have HB2 := Lib.hid (bdrew HB1.out)
            have HX2 := Lib.hid (Cs.drew HBX.out)
            generalize wr.heap.size = tb at *
            generalize W1.drew = W2 at *
            clear HB1 HBX
            clear hSK hS
            obtain ⟨c0, c1, c2, _⟩ := HX2.out
            go_wp2_with fail
            refine (HFO.out _ (HA0.out.below HB2.out)).mono ?_
            rintro e W3 ⟨rfl, hb3⟩
            have HB3 := Lib.hid (balloc (bstep HB2.out hb3) (.cells #[.int .i64 a.id, .int .i64 a.bal, .int .i64 a.seq] 34))
            have HX3 := Lib.hid ((HX2.out.below hb3).alloc (.cells #[.int .i64 a.id, .int .i64 a.bal, .int .i64 a.seq] 34))
            have HY3 := Lib.hid (box3 W3 34 (.int .i64 a.id) (.int .i64 a.bal) (.int .i64 a.seq))
            clear hb3 c0 c1 c2
            go_upto_region 14 with fail
            generalize W3.alloc (.cells #[.int .i64 a.id, .int .i64 a.bal, .int .i64 a.seq] 34) = W4 at *
            generalize W3.heap.size = yb at *
            obtain ⟨c0, c1, c2, _⟩ := HX3.out
            obtain ⟨y0, y1, y2, _⟩ := HY3.out
            go_wp2_with fail
            go_roundw
            case rel => exact ⟨k + 1, by omega, by go_num, HB3⟩
            case measure => simp [intOf]; omega
          · obtain ⟨q, rfl⟩ : ∃ q, k = q + 1 := ⟨k - 1, by omega⟩
            obtain ⟨p, hp⟩ : ∃ p, X[q]? = some p := ⟨_, List.getElem?_eq_getElem (by rw [HXL.out]; omega)⟩
            obtain ⟨b', off', hA', hP', hbl', c0, _⟩ := accBox (HXA.out.below HB1.out) hp
            simp only [Option.some.injEq, Addr.mk.injEq] at hA'
            obtain ⟨rfl, rfl, _⟩ := hA'
            have hasc := HXO.out q p a hp HA.out
            have q4 : decide ((0 : Int) < (q : Int) + 1) = true := decide_eq_true (by omega)
            have q5 : decide (a.id ≤ p.id) = false := decide_eq_false (by omega)
            have q6 : IntKind.i64.wrap (q : Int) = (q : Int) := IntWalk.i64_in _ (by omega)
            have q7 : (0 : Int) ≤ (q : Int) := by omega
            have q8 : (q : Int) < (n : Int) + 1 := by omega
            have hS := Lib.hid (Cs.drew (Cs.app HBX.out (Cs.one c0)))
            clear hpos hp c0 hasc
            generalize wr.alloc (.cells #[.int .i64 a.id, .int .i64 a.bal, .int .i64 a.seq] 34) = W1 at *
            refine wp_region_held_drew (S := (fun W => Cs [(⟨wr.heap.size, 0, none⟩, .int .i64 a.id), (⟨wr.heap.size, 1, none⟩, .int .i64 a.bal), (⟨wr.heap.size, 2, none⟩, .int .i64 a.seq), (⟨b, off + q * 3, none⟩, .int .i64 p.id)] W)) (by kernel_rfl) hS.out (fun hSK => ?_)
            refine take_d (some 54) (i := 0) (v := ?_) rfl rfl (by kernel_rfl) (by kernel_rfl) (by kernel_rfl) (fun _ _ _ h => h) (Or.inl ⟨by rfl, ?_⟩) (by assumption) ?_
            rotate_left
            · intro w hSw; (dsimp only [Cs] at hSw); go_simp; (try with_reducible rfl)
            try simp only [Act.put, List.setIfInBounds_toArray, List.set_cons_zero, List.set_cons_succ]
            refine take_d (some 55) (i := 1) (v := ?_) rfl rfl (by kernel_rfl) (by kernel_rfl) (by kernel_rfl) (fun _ _ _ h => h) (Or.inl ⟨by rfl, ?_⟩) (by assumption) ?_
            rotate_left
            · intro w hSw; (dsimp only [Cs] at hSw); go_simp; (try with_reducible rfl)
            try simp only [Act.put, List.setIfInBounds_toArray, List.set_cons_zero, List.set_cons_succ]
            refine take_d (some 56) (i := 2) (v := ?_) rfl rfl (by kernel_rfl) (by kernel_rfl) (by kernel_rfl) (fun _ _ _ h => h) (Or.inl ⟨by rfl, ?_⟩) (by assumption) ?_
            rotate_left
            · intro w hSw; (dsimp only [Cs] at hSw); go_simp; (try with_reducible rfl)
            try simp only [Act.put, List.setIfInBounds_toArray, List.set_cons_zero, List.set_cons_succ]
            refine take_d (some 57) (i := 3) (v := ?_) rfl rfl (by kernel_rfl) (by kernel_rfl) (by kernel_rfl) (fun _ _ _ h => h) (Or.inl ⟨by rfl, ?_⟩) (by assumption) ?_
            rotate_left
            · intro w hSw; (dsimp only [Cs] at hSw); go_simp; (try with_reducible rfl)
            try simp only [Act.put, List.setIfInBounds_toArray, List.set_cons_zero, List.set_cons_succ]
            refine take_d (some 58) (i := 4) (v := ?_) rfl rfl (by kernel_rfl) (by kernel_rfl) (by kernel_rfl) (fun _ _ _ h => h) (Or.inl ⟨by rfl, ?_⟩) (by assumption) ?_
            rotate_left
            · intro w hSw; (dsimp only [Cs] at hSw); go_simp; (try with_reducible rfl)
            try simp only [Act.put, List.setIfInBounds_toArray, List.set_cons_zero, List.set_cons_succ]
            refine take_d (some 59) (i := 5) (v := ?_) rfl rfl (by kernel_rfl) (by kernel_rfl) (by kernel_rfl) (fun _ _ _ h => h) (Or.inl ⟨by rfl, ?_⟩) (by assumption) ?_
            rotate_left
            · intro w hSw; (dsimp only [Cs] at hSw); go_simp; (try with_reducible rfl)
            try simp only [Act.put, List.setIfInBounds_toArray, List.set_cons_zero, List.set_cons_succ]
            refine take_d (some 60) (i := 6) (v := ?_) rfl rfl (by kernel_rfl) (by kernel_rfl) (by kernel_rfl) (fun _ _ _ h => h) (Or.inl ⟨by rfl, ?_⟩) (by assumption) ?_
            rotate_left
            · intro w hSw; (dsimp only [Cs] at hSw); go_simp; (try with_reducible rfl)
            try simp only [Act.put, List.setIfInBounds_toArray, List.set_cons_zero, List.set_cons_succ]
            refine take_d (some 61) (i := 7) (v := ?_) rfl rfl (by kernel_rfl) (by kernel_rfl) (by kernel_rfl) (fun _ _ _ h => h) (Or.inl ⟨by rfl, ?_⟩) (by assumption) ?_
            rotate_left
            · intro w hSw; (dsimp only [Cs] at hSw); go_simp; (try with_reducible rfl)
            try simp only [Act.put, List.setIfInBounds_toArray, List.set_cons_zero, List.set_cons_succ]
            refine take_d (some 62) (i := 8) (v := ?_) rfl rfl (by kernel_rfl) (by kernel_rfl) (by kernel_rfl) (fun _ _ _ h => h) (Or.inl ⟨by rfl, ?_⟩) (by assumption) ?_
            rotate_left
            · intro w hSw; (dsimp only [Cs] at hSw); go_simp; (try with_reducible rfl)
            try simp only [Act.put, List.setIfInBounds_toArray, List.set_cons_zero, List.set_cons_succ]
            refine take_d (some 63) (i := 9) (v := ?_) rfl rfl (by kernel_rfl) (by kernel_rfl) (by kernel_rfl) (fun _ _ _ h => h) (Or.inl ⟨by rfl, ?_⟩) (by assumption) ?_
            rotate_left
            · intro w hSw; (dsimp only [Cs] at hSw); go_simp; (try with_reducible rfl)
            try simp only [Act.put, List.setIfInBounds_toArray, List.set_cons_zero, List.set_cons_succ]
            refine take_d (some 64) (i := 10) (v := ?_) rfl rfl (by kernel_rfl) (by kernel_rfl) (by kernel_rfl) (fun _ _ _ h => h) (Or.inl ⟨by rfl, ?_⟩) (by assumption) ?_
            rotate_left
            · intro w hSw; (dsimp only [Cs] at hSw); go_simp; (try with_reducible rfl)
            try simp only [Act.put, List.setIfInBounds_toArray, List.set_cons_zero, List.set_cons_succ]
            refine take_d (some 65) (i := 11) (v := ?_) rfl rfl (by kernel_rfl) (by kernel_rfl) (by kernel_rfl) (fun _ _ _ h => h) (Or.inl ⟨by rfl, ?_⟩) (by assumption) ?_
            rotate_left
            · intro w hSw; (dsimp only [Cs] at hSw); go_simp; (try with_reducible rfl)
            try simp only [Act.put, List.setIfInBounds_toArray, List.set_cons_zero, List.set_cons_succ]
            refine take_d (some 66) (i := 12) (v := ?_) rfl rfl (by kernel_rfl) (by kernel_rfl) (by kernel_rfl) (fun _ _ _ h => h) (Or.inl ⟨by rfl, ?_⟩) (by assumption) ?_
            rotate_left
            · intro w hSw; (dsimp only [Cs] at hSw); go_simp; (try with_reducible rfl)
            try simp only [Act.put, List.setIfInBounds_toArray, List.set_cons_zero, List.set_cons_succ]
            refine wpAnyH_done (by kernel_rfl) ?_ _
            have HB2 := Lib.hid (bdrew HB1.out)
            have HX2 := Lib.hid (Cs.drew HBX.out)
            generalize wr.heap.size = tb at *
            generalize W1.drew = W2 at *
            clear HB1 HBX
            clear hSK hS
            obtain ⟨c0, c1, c2, _⟩ := HX2.out
            go_wp2_with fail
            refine (HFO.out _ (HA0.out.below HB2.out)).mono ?_
            rintro e W3 ⟨rfl, hb3⟩
            have HB3 := Lib.hid (balloc (bstep HB2.out hb3) (.cells #[.int .i64 a.id, .int .i64 a.bal, .int .i64 a.seq] 34))
            have HX3 := Lib.hid ((HX2.out.below hb3).alloc (.cells #[.int .i64 a.id, .int .i64 a.bal, .int .i64 a.seq] 34))
            have HY3 := Lib.hid (box3 W3 34 (.int .i64 a.id) (.int .i64 a.bal) (.int .i64 a.seq))
            clear hb3 c0 c1 c2
            go_upto_region 14 with fail
            generalize W3.alloc (.cells #[.int .i64 a.id, .int .i64 a.bal, .int .i64 a.seq] 34) = W4 at *
            generalize W3.heap.size = yb at *
            obtain ⟨c0, c1, c2, _⟩ := HX3.out
            obtain ⟨y0, y1, y2, _⟩ := HY3.out
            go_wp2_with fail
            go_roundw
            case rel => exact ⟨q + 1 + 1, by omega, by go_num, HB3⟩
            case measure => simp [intOf]; omega
        · rw [hkl] at HA
          have hae := HXN.out a HA.out
          have hid : a.id = kk := by rw [hae]
          have hbl7 : a.bal = 7 := by rw [hae]
          have hs0 : a.seq = 0 := by rw [hae]
          rw [← hkl] at HA
          have HIDS := Lib.hid (And.intro hid (And.intro hbl7 hs0))
          have hkp : 0 < k := by omega
          clear hae hkl
          have HFO := Lib.hid (show ∀ W, AccAt (fun _ => True) W (.slice A n c) L0 → Calls Try.prog 13 #[.slice A n c, .int .i64 a.id] W fun e w' => e = .returned (.tuple #[.agg #[.int .i64 0, .int .i64 0, .int .i64 0], .bool false]) ∧ Below W.heap.size W w' from by rw [hid]; exact HFO0.out)
          clear hid hbl7 hs0
          obtain ⟨q, rfl⟩ : ∃ q, k = q + 1 := ⟨k - 1, by omega⟩
          have hpos := hkp
          clear hkp
          obtain ⟨p, hp⟩ : ∃ p, X[q]? = some p := ⟨_, List.getElem?_eq_getElem (by rw [HXL.out]; omega)⟩
          obtain ⟨b', off', hA', hP', hbl', c0, _⟩ := accBox (HXA.out.below HB1.out) hp
          simp only [Option.some.injEq, Addr.mk.injEq] at hA'
          obtain ⟨rfl, rfl, _⟩ := hA'
          have hasc := HXO.out q p a hp HA.out
          have q4 : decide ((0 : Int) < (q : Int) + 1) = true := decide_eq_true (by omega)
          have q5 : decide (a.id ≤ p.id) = false := decide_eq_false (by omega)
          have q6 : IntKind.i64.wrap (q : Int) = (q : Int) := IntWalk.i64_in _ (by omega)
          have q7 : (0 : Int) ≤ (q : Int) := by omega
          have q8 : (q : Int) < (n : Int) + 1 := by omega
          have hS := Lib.hid (Cs.drew (Cs.app HBX.out (Cs.one c0)))
          clear hpos hp c0 hasc
          generalize wr.alloc (.cells #[.int .i64 a.id, .int .i64 a.bal, .int .i64 a.seq] 34) = W1 at *
          refine wp_region_held_drew (S := (fun W => Cs [(⟨wr.heap.size, 0, none⟩, .int .i64 a.id), (⟨wr.heap.size, 1, none⟩, .int .i64 a.bal), (⟨wr.heap.size, 2, none⟩, .int .i64 a.seq), (⟨b, off + q * 3, none⟩, .int .i64 p.id)] W)) (by kernel_rfl) hS.out (fun hSK => ?_)
          refine take_d (some 54) (i := 0) (v := ?_) rfl rfl (by kernel_rfl) (by kernel_rfl) (by kernel_rfl) (fun _ _ _ h => h) (Or.inl ⟨by rfl, ?_⟩) (by assumption) ?_
          rotate_left
          · intro w hSw; (dsimp only [Cs] at hSw); go_simp; (try with_reducible rfl)
          try simp only [Act.put, List.setIfInBounds_toArray, List.set_cons_zero, List.set_cons_succ]
          refine take_d (some 55) (i := 1) (v := ?_) rfl rfl (by kernel_rfl) (by kernel_rfl) (by kernel_rfl) (fun _ _ _ h => h) (Or.inl ⟨by rfl, ?_⟩) (by assumption) ?_
          rotate_left
          · intro w hSw; (dsimp only [Cs] at hSw); go_simp; (try with_reducible rfl)
          try simp only [Act.put, List.setIfInBounds_toArray, List.set_cons_zero, List.set_cons_succ]
          refine take_d (some 56) (i := 2) (v := ?_) rfl rfl (by kernel_rfl) (by kernel_rfl) (by kernel_rfl) (fun _ _ _ h => h) (Or.inl ⟨by rfl, ?_⟩) (by assumption) ?_
          rotate_left
          · intro w hSw; (dsimp only [Cs] at hSw); go_simp; (try with_reducible rfl)
          try simp only [Act.put, List.setIfInBounds_toArray, List.set_cons_zero, List.set_cons_succ]
          refine take_d (some 57) (i := 3) (v := ?_) rfl rfl (by kernel_rfl) (by kernel_rfl) (by kernel_rfl) (fun _ _ _ h => h) (Or.inl ⟨by rfl, ?_⟩) (by assumption) ?_
          rotate_left
          · intro w hSw; (dsimp only [Cs] at hSw); go_simp; (try with_reducible rfl)
          try simp only [Act.put, List.setIfInBounds_toArray, List.set_cons_zero, List.set_cons_succ]
          refine take_d (some 58) (i := 4) (v := ?_) rfl rfl (by kernel_rfl) (by kernel_rfl) (by kernel_rfl) (fun _ _ _ h => h) (Or.inl ⟨by rfl, ?_⟩) (by assumption) ?_
          rotate_left
          · intro w hSw; (dsimp only [Cs] at hSw); go_simp; (try with_reducible rfl)
          try simp only [Act.put, List.setIfInBounds_toArray, List.set_cons_zero, List.set_cons_succ]
          refine take_d (some 59) (i := 5) (v := ?_) rfl rfl (by kernel_rfl) (by kernel_rfl) (by kernel_rfl) (fun _ _ _ h => h) (Or.inl ⟨by rfl, ?_⟩) (by assumption) ?_
          rotate_left
          · intro w hSw; (dsimp only [Cs] at hSw); go_simp; (try with_reducible rfl)
          try simp only [Act.put, List.setIfInBounds_toArray, List.set_cons_zero, List.set_cons_succ]
          refine take_d (some 60) (i := 6) (v := ?_) rfl rfl (by kernel_rfl) (by kernel_rfl) (by kernel_rfl) (fun _ _ _ h => h) (Or.inl ⟨by rfl, ?_⟩) (by assumption) ?_
          rotate_left
          · intro w hSw; (dsimp only [Cs] at hSw); go_simp; (try with_reducible rfl)
          try simp only [Act.put, List.setIfInBounds_toArray, List.set_cons_zero, List.set_cons_succ]
          refine take_d (some 61) (i := 7) (v := ?_) rfl rfl (by kernel_rfl) (by kernel_rfl) (by kernel_rfl) (fun _ _ _ h => h) (Or.inl ⟨by rfl, ?_⟩) (by assumption) ?_
          rotate_left
          · intro w hSw; (dsimp only [Cs] at hSw); go_simp; (try with_reducible rfl)
          try simp only [Act.put, List.setIfInBounds_toArray, List.set_cons_zero, List.set_cons_succ]
          refine take_d (some 62) (i := 8) (v := ?_) rfl rfl (by kernel_rfl) (by kernel_rfl) (by kernel_rfl) (fun _ _ _ h => h) (Or.inl ⟨by rfl, ?_⟩) (by assumption) ?_
          rotate_left
          · intro w hSw; (dsimp only [Cs] at hSw); go_simp; (try with_reducible rfl)
          try simp only [Act.put, List.setIfInBounds_toArray, List.set_cons_zero, List.set_cons_succ]
          refine take_d (some 63) (i := 9) (v := ?_) rfl rfl (by kernel_rfl) (by kernel_rfl) (by kernel_rfl) (fun _ _ _ h => h) (Or.inl ⟨by rfl, ?_⟩) (by assumption) ?_
          rotate_left
          · intro w hSw; (dsimp only [Cs] at hSw); go_simp; (try with_reducible rfl)
          try simp only [Act.put, List.setIfInBounds_toArray, List.set_cons_zero, List.set_cons_succ]
          refine take_d (some 64) (i := 10) (v := ?_) rfl rfl (by kernel_rfl) (by kernel_rfl) (by kernel_rfl) (fun _ _ _ h => h) (Or.inl ⟨by rfl, ?_⟩) (by assumption) ?_
          rotate_left
          · intro w hSw; (dsimp only [Cs] at hSw); go_simp; (try with_reducible rfl)
          try simp only [Act.put, List.setIfInBounds_toArray, List.set_cons_zero, List.set_cons_succ]
          refine take_d (some 65) (i := 11) (v := ?_) rfl rfl (by kernel_rfl) (by kernel_rfl) (by kernel_rfl) (fun _ _ _ h => h) (Or.inl ⟨by rfl, ?_⟩) (by assumption) ?_
          rotate_left
          · intro w hSw; (dsimp only [Cs] at hSw); go_simp; (try with_reducible rfl)
          try simp only [Act.put, List.setIfInBounds_toArray, List.set_cons_zero, List.set_cons_succ]
          refine take_d (some 66) (i := 12) (v := ?_) rfl rfl (by kernel_rfl) (by kernel_rfl) (by kernel_rfl) (fun _ _ _ h => h) (Or.inl ⟨by rfl, ?_⟩) (by assumption) ?_
          rotate_left
          · intro w hSw; (dsimp only [Cs] at hSw); go_simp; (try with_reducible rfl)
          try simp only [Act.put, List.setIfInBounds_toArray, List.set_cons_zero, List.set_cons_succ]
          refine wpAnyH_done (by kernel_rfl) ?_ _
          have HB2 := Lib.hid (bdrew HB1.out)
          have HX2 := Lib.hid (Cs.drew HBX.out)
          generalize wr.heap.size = tb at *
          generalize W1.drew = W2 at *
          clear HB1 HBX
          clear hSK hS
          obtain ⟨c0, c1, c2, _⟩ := HX2.out
          go_wp2_with fail
          refine (HFO.out _ (HA0.out.below HB2.out)).mono ?_
          rintro e W3 ⟨rfl, hb3⟩
          have HB3 := Lib.hid (balloc (bstep HB2.out hb3) (.cells #[.int .i64 0, .int .i64 0, .int .i64 0] 34))
          have HX3 := Lib.hid ((HX2.out.below hb3).alloc (.cells #[.int .i64 0, .int .i64 0, .int .i64 0] 34))
          have HY3 := Lib.hid (box3 W3 34 (.int .i64 0) (.int .i64 0) (.int .i64 0))
          clear hb3 c0 c1 c2
          go_upto_region 14 with fail
          generalize W3.alloc (.cells #[.int .i64 0, .int .i64 0, .int .i64 0] 34) = W4 at *
          generalize W3.heap.size = yb at *
          obtain ⟨c0, c1, c2, _⟩ := HX3.out
          obtain ⟨y0, y1, y2, _⟩ := HY3.out
          obtain ⟨hid, hbl7, hs0⟩ := HIDS.out
          go_wp2_with fail
          go_roundw
          case rel => exact ⟨q + 1 + 1, by omega, by go_num, HB3⟩
          case measure => simp [intOf]; omega
      · obtain rfl : k = n + 1 := by omega
        clear hlt
        go_wp2_with fail
        refine (sane36 _).mono ?_
        rintro e W6 ⟨rfl, hb6⟩
        have HB6 := Lib.hid (bstep (bstep HB3.out hB.out) hb6)
        clear hb6
        go_wp2_with fail
        go_ret
        exact ⟨rfl, HB6.out⟩

end Go.Proofs.Ytfmdnhhdjjndbaa
