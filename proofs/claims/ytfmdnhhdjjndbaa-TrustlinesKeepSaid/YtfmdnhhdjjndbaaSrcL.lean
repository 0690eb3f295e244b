/- The source's ledgers. -/
import Derived.Test.YtfmdnhhdjjndbaaSrcL0
namespace Go.Proofs.Ytfmdnhhdjjndbaa
set_option linter.unusedVariables false
set_option linter.unusedSimpArgs false
open Go.RowKit

/-- A ledger of the source. -/
structure SrcLed (w w' : World) (sb : Nat) (g : Led) (va vl vo : Value) : Prop where
  ok : LedOk g
  at_ : LedAt (fun b => w.heap.size ≤ b) w' va vl vo g
  acc : AccN g.accs
  n1 : 1 ≤ g.accs.length
  n5 : g.accs.length ≤ 5
  src : SrcOk w' sb
  gr : w.grownBy w' (some sb)

set_option maxRecDepth 100000 in
set_option maxHeartbeats 400000000 in
theorem Ledger_run (w : World) (sb : Nat) (hs : SrcOk w sb) :
    Calls Try.prog 11 #[.pointer (some ⟨sb, 0, none⟩)] w fun e w' => ∃ g va vl vo, e = .returned (valG g va vl vo) ∧ SrcLed w w' sb g va vl vo := by
  have hsl := hs.lt
  have HS := Lib.hid hs
  clear hs
  go_enter Try.func11, Try.ntmps11
  have HR0 := Lib.hid (show HasB w.heap.size (LObj (.int .i64 0) (.slice none 0 0) (.slice none 0 0) (.slice none 0 0) (.int .i64 0) (.int .i64 0) (.int .u64 0)) (w.alloc (.cells #[.int .i64 0, .slice none 0 0, .slice none 0 0, .slice none 0 0, .int .i64 0, .int .i64 0, .int .u64 0] 30)) from heap_alloc_new _ _)
  have HS0 := Lib.hid (HS.out.alloc (.cells #[.int .i64 0, .slice none 0 0, .slice none 0 0, .slice none 0 0, .int .i64 0, .int .i64 0, .int .u64 0] 30))
  have HG0 := Lib.hid (show w.grownBy (w.alloc (.cells #[.int .i64 0, .slice none 0 0, .slice none 0 0, .slice none 0 0, .int .i64 0, .int .i64 0, .int .u64 0] 30)) (some sb) from grown_below (balloc (bref _) _))
  have hz0 : w.heap.size < (w.alloc (.cells #[.int .i64 0, .slice none 0 0, .slice none 0 0, .slice none 0 0, .int .i64 0, .int .i64 0, .int .u64 0] 30)).heap.size := by simp
  go_upto_region 1 with fail
  generalize w.alloc (.cells #[.int .i64 0, .slice none 0 0, .slice none 0 0, .slice none 0 0, .int .i64 0, .int .i64 0, .int .u64 0] 30) = W0 at *
  obtain ⟨r0, hr0⟩ : ∃ r, w.heap.size = r := ⟨_, rfl⟩
  rw [hr0] at HR0 hz0 ⊢
  have hr0' := hr0
  have HRR := Lib.hid hr0
  go_wp2_with fail
  refine (N_run _ sb 5 (by omega) (by omega) HS0.out).mono ?_
  rintro e W1 ⟨nu, hnu0, hnu1, rfl, hs1, hg1⟩
  have HS1 := Lib.hid hs1
  have HG1 := Lib.hid (grown_trans HG0.out hg1)
  have HR1 := Lib.hid (show HasB r0 _ W1 from (hg1.block r0 hz0 (by simp; omega)).trans HR0.out)
  clear hs1 hg1
  go_wp2_with fail
  refine (N_run _ sb 50 (by omega) (by omega) HS1.out).mono ?_
  rintro e W2 ⟨fe, hfe0, hfe1, rfl, hs2, hg2⟩
  have HS2 := Lib.hid hs2
  have HG2 := Lib.hid (grown_trans HG1.out hg2)
  have HR2 := Lib.hid (show HasB r0 _ W2 from (hg2.block r0 HR1.out.lt (by simp; omega)).trans HR1.out)
  clear hs2 hg2
  go_wp2_with fail
  refine (N_run _ sb 1000 (by omega) (by omega) HS2.out).mono ?_
  rintro e W3 ⟨lk, hlk0, hlk1, rfl, hs3, hg3⟩
  have HS3 := Lib.hid hs3
  have HG3 := Lib.hid (grown_trans HG2.out hg3)
  have HR3 := Lib.hid (show HasB r0 _ W3 from (hg3.block r0 HR2.out.lt (by simp; omega)).trans HR2.out)
  clear hs3 hg3
  have hlkw : IntKind.u64.wrap lk = lk := by rw [IntKind.wrap_u64]; exact Int.emod_eq_of_lt (by omega) (by omega)
  go_upto_region 2 with fail
  have HW4 := Lib.hid (show LW w sb W3.heap.size r0 (LObj (.int .i64 nu) (.slice none 0 0) (.slice none 0 0) (.slice none 0 0) (.int .i64 1) (.int .i64 fe) (.int .u64 lk)) (W3.alloc (.cells #[.int .i64 nu, .slice none 0 0, .slice none 0 0, .slice none 0 0, .int .i64 1, .int .i64 fe, .int .u64 lk] 30)) from
    ⟨HS3.out.alloc _, grown_trans HG3.out (grown_below (balloc (bref _) _)), heap_alloc_new _ _, HR3.out.alloc _, hsl, by rw [← hr0]; exact Nat.le_refl _, HR3.out.lt⟩)
  generalize W3.alloc (.cells #[.int .i64 nu, .slice none 0 0, .slice none 0 0, .slice none 0 0, .int .i64 1, .int .i64 fe, .int .u64 lk] 30) = W4 at *
  generalize W3.heap.size = gb at *
  clear HS0 HS1 HS2 HS3 HG0 HG1 HG2 HG3 HR0 HR1 HR2 HR3
  go_wp2_with fail
  refine (Range_run _ sb 1 5 (by omega) (by omega) (by omega) HW4.out.src).mono ?_
  rintro e W5 ⟨nn, hn0, hn1, rfl, hs5, hg5⟩
  obtain ⟨n, rfl⟩ : ∃ n : Nat, nn = (n : Int) := ⟨nn.toNat, by omega⟩
  have HW5 := Lib.hid (HW4.out.grown hs5 hg5)
  clear hs5 hg5 HW4
  obtain ⟨ia, hia, hya0, hya1, hya2⟩ := info_parts infoA
  obtain ⟨il, hil, hyl0, hyl1, hyl2⟩ := info_parts infoL
  go_wp2_with fail
  go_loopw [5] (fun t W => ∃ (k : Nat) (L : List Acc) (va : Value), t = .int .i64 ((k : Int) + 1) ∧ k ≤ n ∧ Hid (L.length = k ∧ AccN L ∧ W.ownsRow (gb + 1) 34 3 va L.length (flatS encA L)) ∧ Hid (LW w sb gb r0 (LObj (.int .i64 nu) va (.slice none 0 0) (.slice none 0 0) (.int .i64 1) (.int .i64 fe) (.int .u64 lk)) W)) (fun t _ => n + 1 - (intOf t).toNat)
  case atStart => exact ⟨0, [], .slice none 0 0, rfl, by omega, Lib.hid ⟨rfl, ⟨fun k a h => (by simp at h), fun a h => (by cases h), fun a h => (by cases h)⟩, World.ownsRow_nil _ _ _ _⟩, HW5⟩
  case round =>
    obtain ⟨k, L, va, rfl, hk, hL, hW⟩ := hrel
    by_cases hlt : k < n
    · have q0 : decide ((k : Int) + 1 ≤ (n : Int)) = true := decide_eq_true (by omega)
      go_upto_region 6 with fail
      have HX := Lib.hid (And.intro hW.out.drew hL.out.2.2)
      refine region_f (fun W => Cs [(⟨gb, 1, none⟩, va)] W) [10, 12] (by kernel_rfl) ?_
      have hSK : Cs [(⟨gb, 1, none⟩, va)] wr.drew := ⟨HX.out.1.g.cs7.2.1, trivial⟩
      refine take_y (some 29) (i := 0) (v := ?_) rfl rfl (by kernel_rfl) (by kernel_rfl) (by kernel_rfl) (fun _ _ _ h => h) (Or.inl ⟨by rfl, ?_⟩) ?_
      rotate_left
      · intro w _; go_simp; (try with_reducible rfl)
      try simp only [Act.put, List.setIfInBounds_toArray, List.set_cons_zero, List.set_cons_succ]
      refine take_f (some 30) [10, 11, 12] (i := 1) (v := ?_) rfl rfl (by kernel_rfl) (by kernel_rfl) (by kernel_rfl) (by kernel_rfl) (fun _ _ _ h => h) (Or.inl ⟨by rfl, ?_⟩) (by assumption) ?_
      rotate_left
      · intro w hSw; (dsimp only [Cs] at hSw); go_simp; (try with_reducible rfl)
      try simp only [Act.put, List.setIfInBounds_toArray, List.set_cons_zero, List.set_cons_succ]
      refine take_y (some 31) (i := 2) (v := ?_) rfl rfl (by kernel_rfl) (by kernel_rfl) (by kernel_rfl) (fun _ _ _ h => h) (Or.inl ⟨by rfl, ?_⟩) ?_
      rotate_left
      · intro w _; go_simp; (try with_reducible rfl)
      try simp only [Act.put, List.setIfInBounds_toArray, List.set_cons_zero, List.set_cons_succ]
      refine take_y (some 32) (i := 3) (v := ?_) rfl rfl (by kernel_rfl) (by kernel_rfl) (by kernel_rfl) (fun _ _ _ h => h) (Or.inl ⟨by rfl, ?_⟩) ?_
      rotate_left
      · intro w _; go_simp; (try with_reducible rfl)
      try simp only [Act.put, List.setIfInBounds_toArray, List.set_cons_zero, List.set_cons_succ]
      refine take_y (some 35) (i := 6) (v := ?_) rfl rfl (by kernel_rfl) (by kernel_rfl) (by kernel_rfl) (fun _ _ _ h => h) (Or.inl ⟨by rfl, ?_⟩) ?_
      rotate_left
      · intro w _; go_simp; (try with_reducible rfl)
      try simp only [Act.put, List.setIfInBounds_toArray, List.set_cons_zero, List.set_cons_succ]
      refine one_f (i := 4) (by kernel_rfl) rfl (fun K hK => ?_)
      have HA1 := Lib.hid ((hW.out.alloc (.cells #[.int .i64 0, .int .i64 5, .int .i64 100, .int .i64 1000, .int .i64 1000] 3)).drew)
      have HO1 := Lib.hid (own_below HX.out.2 (bdrew (balloc (bref wr) (.cells #[.int .i64 0, .int .i64 5, .int .i64 100, .int .i64 1000, .int .i64 1000] 3))))
      have HP := Lib.hid (fun j (hj : j < 5) => (show (wr.alloc (.cells #[.int .i64 0, .int .i64 5, .int .i64 100, .int .i64 1000, .int .i64 1000] 3)).drew.cell? ⟨wr.heap.size, j, none⟩ = some (.int .i64 (([0, 5, 100, 1000, 1000] : List Int).getD j 0)) from (row_new wr _ _ j).trans (by match j, hj with | 0, _ | 1, _ | 2, _ | 3, _ | 4, _ => rfl)))
      have hne : wr.heap.size ≠ sb := by have := hW.out.g.lt; have := HX.out.1.s3; have := HX.out.1.s2; omega
      go_simp
      replace hSK := (show Cs [(⟨gb, 1, none⟩, va)] (wr.alloc (.cells #[.int .i64 0, .int .i64 5, .int .i64 100, .int .i64 1000, .int .i64 1000] 3)).drew from ⟨HA1.out.g.cs7.2.1, trivial⟩)
      refine hK.out _ _ (Or.inr (fun _ => hSK)) ?_
      clear hK K
      try simp only [Act.put, List.setIfInBounds_toArray, List.set_cons_zero, List.set_cons_succ]
      refine one_f (i := 5) (by kernel_rfl) rfl (fun K hK => ?_)
      go_simp
      go_at_call 36; refine (Pick_run _ sb _ [0, 5, 100, 1000, 1000] 5 rfl (by omega) (by omega) (by exact HP.out) (by exact hne) (by exact HA1.out.src)).mono ?_; rintro e Wa ⟨j, hj, rfl, hsa, hga⟩; obtain ⟨bal, hbal, hbb⟩ : ∃ b : Int, ([0, 5, 100, 1000, 1000] : List Int).getD j 0 = b ∧ 0 ≤ b ∧ b ≤ 1000 := (by match j, hj with | 0, _ => exact ⟨0, rfl, by omega⟩ | 1, _ => exact ⟨5, rfl, by omega⟩ | 2, _ => exact ⟨100, rfl, by omega⟩ | 3, _ => exact ⟨1000, rfl, by omega⟩ | 4, _ => exact ⟨1000, rfl, by omega⟩); rw [hbal]; have HBB := Lib.hid hbb; have HA2 := Lib.hid (HA1.out.grown hsa hga); have HO2 := Lib.hid (own_grown HO1.out hga (by have := HX.out.1.s3; have := HX.out.1.s2; have := HX.out.1.s1; omega)); clear hsa hga hbb hbal
      go_wp2_with fail
      replace hSK := (show Cs [(⟨gb, 1, none⟩, va)] Wa from ⟨HA2.out.g.cs7.2.1, trivial⟩)
      refine hK.out _ _ (Or.inr (fun _ => hSK)) ?_
      clear hK K
      try simp only [Act.put, List.setIfInBounds_toArray, List.set_cons_zero, List.set_cons_succ]
      refine one_f (i := 7) (by kernel_rfl) rfl (fun K hK => ?_)
      go_simp
      go_at_call 27; refine (N_run _ sb 3 (by omega) (by omega) (by exact HA2.out.src)).mono ?_; rintro e Wb ⟨sq, hsq0, hsq1, rfl, hsb, hgb⟩; have HSQ := Lib.hid (And.intro hsq0 hsq1); have HA3 := Lib.hid (HA2.out.grown hsb hgb); have HO3 := Lib.hid (own_grown HO2.out hgb (by have := HX.out.1.s3; have := HX.out.1.s2; have := HX.out.1.s1; omega)); clear hsb hgb
      go_wp2_with fail
      replace hSK := (show Cs [(⟨gb, 1, none⟩, va)] Wb from ⟨HA3.out.g.cs7.2.1, trivial⟩)
      refine hK.out _ _ (Or.inr (fun _ => hSK)) ?_
      clear hK K
      try simp only [Act.put, List.setIfInBounds_toArray, List.set_cons_zero, List.set_cons_succ]
      refine take_y (some 37) (i := 8) (v := ?_) rfl rfl (by kernel_rfl) (by kernel_rfl) (by kernel_rfl) (fun _ _ _ h => h) (Or.inl ⟨by rfl, ?_⟩) ?_
      rotate_left
      · intro w _; go_simp; (try with_reducible rfl)
      try simp only [Act.put, List.setIfInBounds_toArray, List.set_cons_zero, List.set_cons_succ]
      refine one_f (i := 9) (by kernel_rfl) rfl (fun K hK => ?_)
      have HA4 := Lib.hid (HA3.out.alloc (.cells #[.int .i64 ((k : Int) + 1), .int .i64 bal, .int .i64 sq] 34))
      have HO4 := Lib.hid (own_below HO3.out (balloc (bref _) (.cells #[.int .i64 ((k : Int) + 1), .int .i64 bal, .int .i64 sq] 34)))
      have hbs : gb < Wb.heap.size := HA3.out.g.lt
      have HNW := Lib.hid (show ∀ j u, ([.int .i64 ((k : Int) + 1), .int .i64 bal, .int .i64 sq] : List Value)[j]? = some u → (Wb.alloc (.cells #[.int .i64 ((k : Int) + 1), .int .i64 bal, .int .i64 sq] 34)).cell? ((⟨Wb.heap.size, 0, none⟩ : Addr).add j) = some u from fun j u hu => by rw [Addr.add_lit, Nat.zero_add, row_new Wb _ _ j]; simpa using hu)
      go_simp
      replace hSK := (show Cs [(⟨gb, 1, none⟩, va)] (Wb.alloc (.cells #[.int .i64 ((k : Int) + 1), .int .i64 bal, .int .i64 sq] 34)) from ⟨HA4.out.g.cs7.2.1, trivial⟩)
      refine hK.out _ _ (Or.inr (fun _ => hSK)) ?_
      clear hK K
      try simp only [Act.put, List.setIfInBounds_toArray, List.set_cons_zero, List.set_cons_succ]
      refine one_f (i := 10) (by kernel_rfl) rfl (fun K hK => ?_)
      refine step_own rfl _ _ 25 rfl (gb + 1) 34 ia (.agg #[.int .i64 0, .int .i64 0, .int .i64 0]) 3 24 Try.underlying25 hia hya0 hya1 hya2 rfl (by decide) va L.length (flatS encA L) rfl HO4.out ⟨Wb.heap.size, 0, none⟩ 1 1 [.int .i64 ((k : Int) + 1), .int .i64 bal, .int .i64 sq] rfl rfl HNW.out (fun u hu => encA_one ⟨(k : Int) + 1, bal, sq⟩ u hu) (by have := hL.out.1; unfold maxLen; omega) (by have := hL.out.1; omega) (by rw [alloc_szS]; omega) ?_
      intro v' W' hown' hgr'
      have HLT := Lib.hid (fun j (hj : va.ownBlock = some j) => (HO4.out.lt j hj).1)
      have HA5 := Lib.hid (HA4.out.row hgr' (fun j hj => by have := HLT.out j hj; omega))
      obtain ⟨g4, cap4, rfl, hg4, hg4l⟩ := hown'.form (by omega)
      have HO5 := Lib.hid hown'
      clear hgr' hown'
      refine hK.out _ _ (Or.inl (by kernel_rfl)) ?_
      clear hK K
      try simp only [Act.put, List.setIfInBounds_toArray, List.set_cons_zero, List.set_cons_succ]
      refine take_y (some 40) (i := 11) (v := ?_) rfl rfl (by kernel_rfl) (by kernel_rfl) (by kernel_rfl) (fun _ _ _ h => h) (Or.inl ⟨by rfl, ?_⟩) ?_
      rotate_left
      · intro w _; go_simp; (try with_reducible rfl)
      try simp only [Act.put, List.setIfInBounds_toArray, List.set_cons_zero, List.set_cons_succ]
      refine one_f (i := 12) (by kernel_rfl) rfl (fun K hK => ?_)
      have y0 : W'.cell? ⟨gb, 1, none⟩ = some va := HA5.out.g.cs7.2.1
      have y1 := HA5.out.g.fr 1
      go_simp
      refine hK.out _ _ (Or.inl (by kernel_rfl)) ?_
      clear hK K
      try simp only [Act.put, List.setIfInBounds_toArray, List.set_cons_zero, List.set_cons_succ]
      refine done_f (by kernel_rfl) ?_ _
      have HA6 := Lib.hid (HA5.out.store 1 (.slice (some ⟨g4, 0, none⟩) (L.length + 1) cap4) (o' := LObj (.int .i64 nu) (.slice (some ⟨g4, 0, none⟩) (L.length + 1) cap4) (.slice none 0 0) (.slice none 0 0) (.int .i64 1) (.int .i64 fe) (.int .u64 lk)) (set_obj HA5.out.g (.slice (some ⟨g4, 0, none⟩) (L.length + 1) cap4)))
      have HO6 := Lib.hid (ownsRow_setCell_below HO5.out (a := ⟨gb, 1, none⟩) (Nat.lt_succ_self gb) (.slice (some ⟨g4, 0, none⟩) (L.length + 1) cap4))
      clear y0 y1 hSK
      go_wp2_with fail
      go_roundw
      case rel => exact ⟨k + 1, L ++ [⟨(k : Int) + 1, bal, sq⟩], _, by go_num, by omega, Lib.hid ⟨by rw [List.length_append, hL.out.1]; rfl, hL.out.2.1.snoc (by rw [hL.out.1]) HBB.out ⟨HSQ.out.1, by have := HSQ.out.2; show sq ≤ 2; omega⟩, by rw [List.length_append, flatS_append]; exact HO6.out⟩, HA6⟩
      case measure => simp [intOf]; omega
    · obtain rfl : k = n := by omega
      have q0 : decide ((k : Int) + 1 ≤ (k : Int)) = false := decide_eq_false (by omega)
      have HN := Lib.hid hL.out.1
      have HAN := Lib.hid hL.out.2.1
      have HAO := Lib.hid (hL.out.2.1.ok (by have := hL.out.1; omega))
      obtain ⟨B2, hB2⟩ : ∃ B, wr.heap.size = B := ⟨_, rfl⟩
      have HM0 := Lib.hid (show LM w sb gb r0 B2 (LObj (.int .i64 nu) va (.slice none 0 0) (.slice none 0 0) (.int .i64 1) (.int .i64 fe) (.int .u64 lk)) va (.slice none 0 0) L [] wr from ⟨hW.out, RowAt.of_own encA_len hL.out.2.2 (by have := hL.out.1; unfold maxLen; omega) (fun b hb hv => ⟨by omega, by rw [← hB2]; exact (hL.out.2.2.lt b hv).2⟩), World.ownsRow_nil _ _ _ _, by rw [← hB2]; exact hW.out.g.lt, by rw [hB2]; exact Nat.le_refl _⟩)
      clear hL hW hlt hB2
      go_wp2_with fail
      go_loopw [6] (fun t W => ∃ (i : Nat) (M : List Lin) (vl : Value), t = .int .i64 ((i : Int) + 1) ∧ i ≤ k ∧ Hid (LinN L M (i + 1) 0) ∧ Hid (LM w sb gb r0 B2 (LObj (.int .i64 nu) va vl (.slice none 0 0) (.int .i64 1) (.int .i64 fe) (.int .u64 lk)) va vl L M W)) (fun t _ => k + 1 - (intOf t).toNat)
      case atStart => exact ⟨0, [], .slice none 0 0, rfl, by omega, Lib.hid ⟨LinesOk.nil _, fun l h => (by cases h), by simp⟩, HM0⟩
      case round =>
        obtain ⟨i, M, vl, rfl, hi, hN, hM⟩ := hrel
        by_cases hlt : i < k
        · have q1 : decide ((i : Int) + 1 ≤ (k : Int)) = true := decide_eq_true (by omega)
          go_wp2_with fail
          refine (Eur_run _).mono ?_
          rintro e We ⟨rfl, hbe⟩
          have HMe := Lib.hid (hM.out.below hbe)
          clear hbe
          go_wp2_with fail
          refine (Usd_run _).mono ?_
          rintro e Wu ⟨rfl, hbu⟩
          have HMu := Lib.hid (HMe.out.below hbu)
          clear hbu hM HMe
          have ix0 : ∀ W, (Instr.index 69 (.agg #[.string (codeOf 2), .int .i64 (issOf 2), .string (codeOf 1), .int .i64 (issOf 1)]) (.int .i64 0)).run Try.prog W = .ok (.agg #[.string (codeOf 2), .int .i64 (issOf 2)]) W := fun W => by kernel_rfl
          have ix1 : ∀ W, (Instr.index 69 (.agg #[.string (codeOf 2), .int .i64 (issOf 2), .string (codeOf 1), .int .i64 (issOf 1)]) (.int .i64 1)).run Try.prog W = .ok (.agg #[.string (codeOf 1), .int .i64 (issOf 1)]) W := fun W => by kernel_rfl
          go_wp2_with fail
          go_loopw [49] (fun t W => ∃ (q : Nat) (M : List Lin) (vl : Value), t = .int .i64 (q : Int) ∧ q ≤ 2 ∧ Hid (LinN L M (i + 1) q) ∧ Hid (LM w sb gb r0 B2 (LObj (.int .i64 nu) va vl (.slice none 0 0) (.int .i64 1) (.int .i64 fe) (.int .u64 lk)) va vl L M W)) (fun t _ => 2 - (intOf t).toNat)
          case atStart => exact ⟨0, M, vl, rfl, by omega, hN, HMu⟩
          case round =>
            clear HMu hN
            obtain ⟨q, M, vl, rfl, hq, hN, hM⟩ := hrel
            match q, hq with
            | 0, _ =>
              have HMA := Lib.hid (hM.out.alloc (.cells #[.string (codeOf 2), .int .i64 (issOf 2)] 49))
              have HAB := Lib.hid (box2 wr 49 (.string (codeOf 2)) (.int .i64 (issOf 2)))
              go_upto_region 13 with fail
              generalize wr.alloc (.cells #[.string (codeOf 2), .int .i64 (issOf 2)] 49) = WA at *
              generalize hab : wr.heap.size = ab at *
              have habz : ab < WA.heap.size := cell_lt HAB.out.1
              have hsab : ab ≠ sb := by
                have e0 := hM.out.lw.g.lt; have e1 := hM.out.lw.s1; have e2 := hM.out.lw.s2; have e3 := hM.out.lw.s3
                omega
              obtain ⟨a0, a1, _⟩ := HAB.out
              rcases Decidable.em (issOf 2 = (i : Int) + 1) with hiss | hiss
              · have q2 : (issOf 2 == (i : Int) + 1) = true := by simpa using hiss
                have HNX := Lib.hid (hN.out.next (by omega))
                clear hiss
                go_wp2_with fail
                go_roundw
                case rel => exact ⟨1, M, vl, rfl, by omega, HNX, HMA⟩
                case measure => simp [intOf]
              · have q2 : (issOf 2 == (i : Int) + 1) = false := by simpa using hiss
                have HIS := Lib.hid hiss
                clear hiss
                go_wp2_with fail
                refine (N_run _ sb 4 (by omega) (by omega) HMA.out.lw.src).mono ?_
                rintro e Wn ⟨z, hz0, hz1, rfl, hsn, hgn⟩
                have HMN := Lib.hid (HMA.out.grown hsn hgn)
                have HAN2 := Lib.hid (HAB.out.keep (P := fun b => b ≠ sb) (fun x hx => by
                  have h1 : x.1.block = ab := by simp at hx; rcases hx with rfl | rfl <;> rfl
                  rw [h1]
                  exact hsab) (fun k hk hP => hgn.block k hk (by simpa using hP)))
                clear hsn hgn a0 a1
                obtain ⟨a0, a1, _⟩ := HAN2.out
                rcases Decidable.em (z = 0) with hz | hz
                · have HNX := Lib.hid (hN.out.next (by omega))
                  have q3 : (z == 0) = true := by simpa using hz
                  clear hz
                  go_wp2_with fail
                  go_roundw
                  case rel => exact ⟨1, M, vl, rfl, by omega, HNX, HMN⟩
                  case measure => simp [intOf]
                · have q3 : (z == 0) = false := by simpa using hz
                  clear hz
                  go_wp2_with fail
                  have HMB := Lib.hid (HMN.out.alloc (.cells #[.int .i64 0, .int .i64 50, .int .i64 500, .int .i64 1000000000000] 3))
                  have HP := Lib.hid (fun j (hj : j < 4) => (show (Wn.alloc (.cells #[.int .i64 0, .int .i64 50, .int .i64 500, .int .i64 1000000000000] 3)).cell? ⟨Wn.heap.size, j, none⟩ = some (.int .i64 (([0, 50, 500, 1000000000000] : List Int).getD j 0)) from (row_new Wn _ _ j).trans (by match j, hj with | 0, _ | 1, _ | 2, _ | 3, _ => rfl)))
                  have hne : Wn.heap.size ≠ sb := by have := HMN.out.lw.g.lt; have := HMN.out.lw.s1; have := HMN.out.lw.s2; have := HMN.out.lw.s3; omega
                  refine (Pick_run _ sb _ [0, 50, 500, 1000000000000] 4 rfl (by omega) (by omega) HP.out hne HMB.out.lw.src).mono ?_
                  rintro e Wp ⟨j, hj, rfl, hsp, hgp⟩
                  obtain ⟨lim, hlim, hl0, hl1⟩ : ∃ b : Int, ([0, 50, 500, 1000000000000] : List Int).getD j 0 = b ∧ 0 ≤ b ∧ b ≤ 1000000000000 := (by match j, hj with | 0, _ => exact ⟨0, rfl, by omega⟩ | 1, _ => exact ⟨50, rfl, by omega⟩ | 2, _ => exact ⟨500, rfl, by omega⟩ | 3, _ => exact ⟨1000000000000, rfl, by omega⟩)
                  rw [hlim]
                  have HMP := Lib.hid (HMB.out.grown hsp hgp)
                  have HAP := Lib.hid ((HAN2.out.alloc (.cells #[.int .i64 0, .int .i64 50, .int .i64 500, .int .i64 1000000000000] 3)).keep (P := fun b => b ≠ sb) (fun x hx => by
                    have h1 : x.1.block = ab := by simp at hx; rcases hx with rfl | rfl <;> rfl
                    rw [h1]
                    exact hsab) (fun k hk hP => hgp.block k hk (by simpa using hP)))
                  clear hsp hgp a0 a1 hlim
                  obtain ⟨m, hm, hm0, hm1, hm2⟩ : ∃ m : Int, (if 400 < lim then 400 else lim) = m ∧ 0 ≤ m ∧ m ≤ 400 ∧ m ≤ lim := by
                    by_cases h : 400 < lim
                    · exact ⟨400, if_pos h, by omega⟩
                    · exact ⟨lim, if_neg h, by omega⟩
                  have hm3 : 1 ≤ m + 1 := by omega
                  have hm4 : m + 1 ≤ 1000000000000000 := by omega
                  have hmw : IntKind.i64.wrap (m + 1) = m + 1 := IntWalk.i64_in _ (by omega)
                  go_upto_region 15 with fail
                  refine region_f (fun W => Cs [(⟨gb, 2, none⟩, vl), (⟨ab, 0, none⟩, .string (codeOf 2)), (⟨ab, 1, none⟩, .int .i64 (issOf 2))] W) [12, 14] (by kernel_rfl) ?_
                  have hSK : Cs [(⟨gb, 2, none⟩, vl), (⟨ab, 0, none⟩, .string (codeOf 2)), (⟨ab, 1, none⟩, .int .i64 (issOf 2))] Wp.drew := ⟨HMP.out.lw.g.cs7.2.2.1, HAP.out.1, HAP.out.2.1, trivial⟩
                  refine take_y (some 64) (i := 0) (v := ?_) rfl rfl (by kernel_rfl) (by kernel_rfl) (by kernel_rfl) (fun _ _ _ h => h) (Or.inl ⟨by rfl, ?_⟩) ?_
                  rotate_left
                  · intro w _; go_simp; (try with_reducible rfl)
                  try simp only [Act.put, List.setIfInBounds_toArray, List.set_cons_zero, List.set_cons_succ]
                  refine take_f (some 65) [12, 13, 14] (i := 1) (v := ?_) rfl rfl (by kernel_rfl) (by kernel_rfl) (by kernel_rfl) (by kernel_rfl) (fun _ _ _ h => h) (Or.inl ⟨by rfl, ?_⟩) (by assumption) ?_
                  rotate_left
                  · intro w hSw; (dsimp only [Cs] at hSw); go_simp; (try with_reducible rfl)
                  try simp only [Act.put, List.setIfInBounds_toArray, List.set_cons_zero, List.set_cons_succ]
                  refine take_y (some 66) (i := 2) (v := ?_) rfl rfl (by kernel_rfl) (by kernel_rfl) (by kernel_rfl) (fun _ _ _ h => h) (Or.inl ⟨by rfl, ?_⟩) ?_
                  rotate_left
                  · intro w _; go_simp; (try with_reducible rfl)
                  try simp only [Act.put, List.setIfInBounds_toArray, List.set_cons_zero, List.set_cons_succ]
                  refine take_f (some 67) [10, 11, 12, 13, 14] (i := 3) (v := ?_) rfl rfl (by kernel_rfl) (by kernel_rfl) (by kernel_rfl) (by kernel_rfl) (fun _ _ _ h => h) (Or.inl ⟨by rfl, ?_⟩) (by assumption) ?_
                  rotate_left
                  · intro w hSw; (dsimp only [Cs] at hSw); go_simp; (try with_reducible rfl)
                  try simp only [Act.put, List.setIfInBounds_toArray, List.set_cons_zero, List.set_cons_succ]
                  refine take_y (some 68) (i := 4) (v := ?_) rfl rfl (by kernel_rfl) (by kernel_rfl) (by kernel_rfl) (fun _ _ _ h => h) (Or.inl ⟨by rfl, ?_⟩) ?_
                  rotate_left
                  · intro w _; go_simp; (try with_reducible rfl)
                  try simp only [Act.put, List.setIfInBounds_toArray, List.set_cons_zero, List.set_cons_succ]
                  refine take_y (some 69) (i := 5) (v := ?_) rfl rfl (by kernel_rfl) (by kernel_rfl) (by kernel_rfl) (fun _ _ _ h => h) (Or.inl ⟨by rfl, ?_⟩) ?_
                  rotate_left
                  · intro w _; go_simp; (try with_reducible rfl)
                  try simp only [Act.put, List.setIfInBounds_toArray, List.set_cons_zero, List.set_cons_succ]
                  refine take_y (some 70) (i := 6) (v := ?_) rfl rfl (by kernel_rfl) (by kernel_rfl) (by kernel_rfl) (fun _ _ _ h => h) (Or.inl ⟨by rfl, ?_⟩) ?_
                  rotate_left
                  · intro w _; go_simp; (try with_reducible rfl)
                  try simp only [Act.put, List.setIfInBounds_toArray, List.set_cons_zero, List.set_cons_succ]
                  refine take_y (some 71) (i := 7) (v := ?_) rfl rfl (by kernel_rfl) (by kernel_rfl) (by kernel_rfl) (fun _ _ _ h => h) (Or.inl ⟨by rfl, ?_⟩) ?_
                  rotate_left
                  · intro w _; go_simp; (try with_reducible rfl)
                  try simp only [Act.put, List.setIfInBounds_toArray, List.set_cons_zero, List.set_cons_succ]
                  refine take_y (some 73) (i := 9) (v := ?_) rfl rfl (by kernel_rfl) (by kernel_rfl) (by kernel_rfl) (fun _ _ _ h => h) (Or.inl ⟨by rfl, ?_⟩) ?_
                  rotate_left
                  · intro w _; go_simp; (try with_reducible rfl)
                  try simp only [Act.put, List.setIfInBounds_toArray, List.set_cons_zero, List.set_cons_succ]
                  refine one_f (i := 8) (by kernel_rfl) rfl (fun K hK => ?_)
                  go_simp
                  go_at_call 27; refine (N_run _ sb (m + 1) (by exact hm3) (by exact hm4) (by exact HMP.out.lw.src.drew)).mono ?_; rintro e Wb ⟨bl, hb0, hb1, rfl, hsb, hgb⟩; have HBL := Lib.hid (And.intro hb0 hb1); have HM3 := Lib.hid (HMP.out.drew.grown hsb hgb); have HA3 := Lib.hid (Cs.keep (P := fun b => b ≠ sb) (Cs.drew HAP.out) (fun x hx => by have h1 : x.1.block = ab := (by simp at hx; rcases hx with rfl | rfl <;> rfl); rw [h1]; exact hsab) (fun k hk hP => hgb.block k hk (by simpa using hP))); clear hsb hgb
                  go_wp2_with fail
                  replace hSK := (show Cs [(⟨gb, 2, none⟩, vl), (⟨ab, 0, none⟩, .string (codeOf 2)), (⟨ab, 1, none⟩, .int .i64 (issOf 2))] Wb from ⟨HM3.out.lw.g.cs7.2.2.1, HA3.out.1, HA3.out.2.1, trivial⟩)
                  refine hK.out _ _ (Or.inr (fun _ => hSK)) ?_
                  clear hK K
                  try simp only [Act.put, List.setIfInBounds_toArray, List.set_cons_zero, List.set_cons_succ]
                  refine take_y (some 74) (i := 10) (v := ?_) rfl rfl (by kernel_rfl) (by kernel_rfl) (by kernel_rfl) (fun _ _ _ h => h) (Or.inl ⟨by rfl, ?_⟩) ?_
                  rotate_left
                  · intro w _; go_simp; (try with_reducible rfl)
                  try simp only [Act.put, List.setIfInBounds_toArray, List.set_cons_zero, List.set_cons_succ]
                  refine one_f (i := 11) (by kernel_rfl) rfl (fun K hK => ?_)
                  have HM4 := Lib.hid (HM3.out.alloc (.cells #[.int .i64 ((i : Int) + 1), .string (codeOf 2), .int .i64 (issOf 2), .int .i64 bl, .int .i64 lim] 51))
                  have HA4 := Lib.hid (HA3.out.alloc (.cells #[.int .i64 ((i : Int) + 1), .string (codeOf 2), .int .i64 (issOf 2), .int .i64 bl, .int .i64 lim] 51))
                  have HNW := Lib.hid (show ∀ j u, ([.int .i64 ((i : Int) + 1), .string (codeOf 2), .int .i64 (issOf 2), .int .i64 bl, .int .i64 lim] : List Value)[j]? = some u → (Wb.alloc (.cells #[.int .i64 ((i : Int) + 1), .string (codeOf 2), .int .i64 (issOf 2), .int .i64 bl, .int .i64 lim] 51)).cell? ((⟨Wb.heap.size, 0, none⟩ : Addr).add j) = some u from fun j u hu => by rw [Addr.add_lit, Nat.zero_add, row_new Wb _ _ j]; simpa using hu)
                  have hbs := HM3.out.bz
                  go_simp
                  replace hSK := (show Cs [(⟨gb, 2, none⟩, vl), (⟨ab, 0, none⟩, .string (codeOf 2)), (⟨ab, 1, none⟩, .int .i64 (issOf 2))] (Wb.alloc (.cells #[.int .i64 ((i : Int) + 1), .string (codeOf 2), .int .i64 (issOf 2), .int .i64 bl, .int .i64 lim] 51)) from ⟨HM4.out.lw.g.cs7.2.2.1, HA4.out.1, HA4.out.2.1, trivial⟩)
                  refine hK.out _ _ (Or.inr (fun _ => hSK)) ?_
                  clear hK K
                  try simp only [Act.put, List.setIfInBounds_toArray, List.set_cons_zero, List.set_cons_succ]
                  refine one_f (i := 12) (by kernel_rfl) rfl (fun K hK => ?_)
                  refine step_own rfl _ _ 26 rfl B2 51 il (.agg #[.int .i64 0, .string ⟨#[]⟩, .int .i64 0, .int .i64 0, .int .i64 0]) 5 48 Try.underlying26 hil hyl0 hyl1 hyl2 rfl (by decide) vl M.length (flatS encL M) rfl HM4.out.own ⟨Wb.heap.size, 0, none⟩ 1 1 [.int .i64 ((i : Int) + 1), .string (codeOf 2), .int .i64 (issOf 2), .int .i64 bl, .int .i64 lim] rfl rfl HNW.out (fun u hu => encL_one ⟨(i : Int) + 1, 2, bl, lim⟩ u hu) (by have := hN.out.len; unfold maxLen; omega) (by have := hN.out.len; omega) (by rw [alloc_szS]; omega) ?_
                  intro v' W' hown' hgr'
                  have HLT := Lib.hid (fun j (hj : vl.ownBlock = some j) => (HM4.out.own.lt j hj).1)
                  obtain ⟨g4, cap4, rfl, hg4, hg4l⟩ := hown'.form (by omega)
                  have HM5 := Lib.hid (HM4.out.row (M' := M ++ [⟨(i : Int) + 1, 2, bl, lim⟩]) hgr' (fun j hj => HLT.out j hj) (by rw [List.length_append, flatS_append]; exact hown'))
                  clear hgr' hown'
                  refine hK.out _ _ (Or.inl (by kernel_rfl)) ?_
                  clear hK K
                  try simp only [Act.put, List.setIfInBounds_toArray, List.set_cons_zero, List.set_cons_succ]
                  refine take_y (some 77) (i := 13) (v := ?_) rfl rfl (by kernel_rfl) (by kernel_rfl) (by kernel_rfl) (fun _ _ _ h => h) (Or.inl ⟨by rfl, ?_⟩) ?_
                  rotate_left
                  · intro w _; go_simp; (try with_reducible rfl)
                  try simp only [Act.put, List.setIfInBounds_toArray, List.set_cons_zero, List.set_cons_succ]
                  refine one_f (i := 14) (by kernel_rfl) rfl (fun K hK => ?_)
                  have y0 : W'.cell? ⟨gb, 2, none⟩ = some vl := HM5.out.lw.g.cs7.2.2.1
                  have y1 := HM5.out.lw.g.fr 2
                  go_simp
                  refine hK.out _ _ (Or.inl (by kernel_rfl)) ?_
                  clear hK K
                  try simp only [Act.put, List.setIfInBounds_toArray, List.set_cons_zero, List.set_cons_succ]
                  refine done_f (by kernel_rfl) ?_ _
                  have HM6 := Lib.hid (HM5.out.store 2 (.slice (some ⟨g4, 0, none⟩) (M.length + 1) cap4) (o' := (LObj (.int .i64 nu) va (.slice (some ⟨g4, 0, none⟩) (M.length + 1) cap4) (.slice none 0 0) (.int .i64 1) (.int .i64 fe) (.int .u64 lk))) (set_obj HM5.out.lw.g (.slice (some ⟨g4, 0, none⟩) (M.length + 1) cap4)))
                  have HLG := Lib.hid (show LinG L ⟨(i : Int) + 1, 2, bl, lim⟩ from ⟨HAN.out.has (by show 1 ≤ (i : Int) + 1; omega) (by rw [HN.out]; show (i : Int) + 1 ≤ (k : Int); omega), by show 1 ≤ 2; omega, by show 2 ≤ 2; omega, HIS.out, hl0, hl1, HBL.out.1, by have := HBL.out.2; show bl ≤ lim; omega⟩)
                  clear y0 y1 hSK
                  go_wp2_with fail
                  go_roundw
                  case rel => exact ⟨1, M ++ [⟨(i : Int) + 1, 2, bl, lim⟩], _, rfl, by omega, Lib.hid (hN.out.snoc (by omega) (by omega) HLG.out (by show (i : Int) + 1 = ((i + 1 : Nat) : Int); omega) rfl), HM6⟩
                  case measure => simp [intOf]
            | 1, _ =>
              have HMA := Lib.hid (hM.out.alloc (.cells #[.string (codeOf 1), .int .i64 (issOf 1)] 49))
              have HAB := Lib.hid (box2 wr 49 (.string (codeOf 1)) (.int .i64 (issOf 1)))
              go_upto_region 13 with fail
              generalize wr.alloc (.cells #[.string (codeOf 1), .int .i64 (issOf 1)] 49) = WA at *
              generalize hab : wr.heap.size = ab at *
              have habz : ab < WA.heap.size := cell_lt HAB.out.1
              have hsab : ab ≠ sb := by
                have e0 := hM.out.lw.g.lt; have e1 := hM.out.lw.s1; have e2 := hM.out.lw.s2; have e3 := hM.out.lw.s3
                omega
              obtain ⟨a0, a1, _⟩ := HAB.out
              rcases Decidable.em (issOf 1 = (i : Int) + 1) with hiss | hiss
              · have q2 : (issOf 1 == (i : Int) + 1) = true := by simpa using hiss
                have HNX := Lib.hid (hN.out.next (by omega))
                clear hiss
                go_wp2_with fail
                go_roundw
                case rel => exact ⟨2, M, vl, rfl, by omega, HNX, HMA⟩
                case measure => simp [intOf]
              · have q2 : (issOf 1 == (i : Int) + 1) = false := by simpa using hiss
                have HIS := Lib.hid hiss
                clear hiss
                go_wp2_with fail
                refine (N_run _ sb 4 (by omega) (by omega) HMA.out.lw.src).mono ?_
                rintro e Wn ⟨z, hz0, hz1, rfl, hsn, hgn⟩
                have HMN := Lib.hid (HMA.out.grown hsn hgn)
                have HAN2 := Lib.hid (HAB.out.keep (P := fun b => b ≠ sb) (fun x hx => by
                  have h1 : x.1.block = ab := by simp at hx; rcases hx with rfl | rfl <;> rfl
                  rw [h1]
                  exact hsab) (fun k hk hP => hgn.block k hk (by simpa using hP)))
                clear hsn hgn a0 a1
                obtain ⟨a0, a1, _⟩ := HAN2.out
                rcases Decidable.em (z = 0) with hz | hz
                · have HNX := Lib.hid (hN.out.next (by omega))
                  have q3 : (z == 0) = true := by simpa using hz
                  clear hz
                  go_wp2_with fail
                  go_roundw
                  case rel => exact ⟨2, M, vl, rfl, by omega, HNX, HMN⟩
                  case measure => simp [intOf]
                · have q3 : (z == 0) = false := by simpa using hz
                  clear hz
                  go_wp2_with fail
                  have HMB := Lib.hid (HMN.out.alloc (.cells #[.int .i64 0, .int .i64 50, .int .i64 500, .int .i64 1000000000000] 3))
                  have HP := Lib.hid (fun j (hj : j < 4) => (show (Wn.alloc (.cells #[.int .i64 0, .int .i64 50, .int .i64 500, .int .i64 1000000000000] 3)).cell? ⟨Wn.heap.size, j, none⟩ = some (.int .i64 (([0, 50, 500, 1000000000000] : List Int).getD j 0)) from (row_new Wn _ _ j).trans (by match j, hj with | 0, _ | 1, _ | 2, _ | 3, _ => rfl)))
                  have hne : Wn.heap.size ≠ sb := by have := HMN.out.lw.g.lt; have := HMN.out.lw.s1; have := HMN.out.lw.s2; have := HMN.out.lw.s3; omega
                  refine (Pick_run _ sb _ [0, 50, 500, 1000000000000] 4 rfl (by omega) (by omega) HP.out hne HMB.out.lw.src).mono ?_
                  rintro e Wp ⟨j, hj, rfl, hsp, hgp⟩
                  obtain ⟨lim, hlim, hl0, hl1⟩ : ∃ b : Int, ([0, 50, 500, 1000000000000] : List Int).getD j 0 = b ∧ 0 ≤ b ∧ b ≤ 1000000000000 := (by match j, hj with | 0, _ => exact ⟨0, rfl, by omega⟩ | 1, _ => exact ⟨50, rfl, by omega⟩ | 2, _ => exact ⟨500, rfl, by omega⟩ | 3, _ => exact ⟨1000000000000, rfl, by omega⟩)
                  rw [hlim]
                  have HMP := Lib.hid (HMB.out.grown hsp hgp)
                  have HAP := Lib.hid ((HAN2.out.alloc (.cells #[.int .i64 0, .int .i64 50, .int .i64 500, .int .i64 1000000000000] 3)).keep (P := fun b => b ≠ sb) (fun x hx => by
                    have h1 : x.1.block = ab := by simp at hx; rcases hx with rfl | rfl <;> rfl
                    rw [h1]
                    exact hsab) (fun k hk hP => hgp.block k hk (by simpa using hP)))
                  clear hsp hgp a0 a1 hlim
                  obtain ⟨m, hm, hm0, hm1, hm2⟩ : ∃ m : Int, (if 400 < lim then 400 else lim) = m ∧ 0 ≤ m ∧ m ≤ 400 ∧ m ≤ lim := by
                    by_cases h : 400 < lim
                    · exact ⟨400, if_pos h, by omega⟩
                    · exact ⟨lim, if_neg h, by omega⟩
                  have hm3 : 1 ≤ m + 1 := by omega
                  have hm4 : m + 1 ≤ 1000000000000000 := by omega
                  have hmw : IntKind.i64.wrap (m + 1) = m + 1 := IntWalk.i64_in _ (by omega)
                  go_upto_region 15 with fail
                  refine region_f (fun W => Cs [(⟨gb, 2, none⟩, vl), (⟨ab, 0, none⟩, .string (codeOf 1)), (⟨ab, 1, none⟩, .int .i64 (issOf 1))] W) [12, 14] (by kernel_rfl) ?_
                  have hSK : Cs [(⟨gb, 2, none⟩, vl), (⟨ab, 0, none⟩, .string (codeOf 1)), (⟨ab, 1, none⟩, .int .i64 (issOf 1))] Wp.drew := ⟨HMP.out.lw.g.cs7.2.2.1, HAP.out.1, HAP.out.2.1, trivial⟩
                  refine take_y (some 64) (i := 0) (v := ?_) rfl rfl (by kernel_rfl) (by kernel_rfl) (by kernel_rfl) (fun _ _ _ h => h) (Or.inl ⟨by rfl, ?_⟩) ?_
                  rotate_left
                  · intro w _; go_simp; (try with_reducible rfl)
                  try simp only [Act.put, List.setIfInBounds_toArray, List.set_cons_zero, List.set_cons_succ]
                  refine take_f (some 65) [12, 13, 14] (i := 1) (v := ?_) rfl rfl (by kernel_rfl) (by kernel_rfl) (by kernel_rfl) (by kernel_rfl) (fun _ _ _ h => h) (Or.inl ⟨by rfl, ?_⟩) (by assumption) ?_
                  rotate_left
                  · intro w hSw; (dsimp only [Cs] at hSw); go_simp; (try with_reducible rfl)
                  try simp only [Act.put, List.setIfInBounds_toArray, List.set_cons_zero, List.set_cons_succ]
                  refine take_y (some 66) (i := 2) (v := ?_) rfl rfl (by kernel_rfl) (by kernel_rfl) (by kernel_rfl) (fun _ _ _ h => h) (Or.inl ⟨by rfl, ?_⟩) ?_
                  rotate_left
                  · intro w _; go_simp; (try with_reducible rfl)
                  try simp only [Act.put, List.setIfInBounds_toArray, List.set_cons_zero, List.set_cons_succ]
                  refine take_f (some 67) [10, 11, 12, 13, 14] (i := 3) (v := ?_) rfl rfl (by kernel_rfl) (by kernel_rfl) (by kernel_rfl) (by kernel_rfl) (fun _ _ _ h => h) (Or.inl ⟨by rfl, ?_⟩) (by assumption) ?_
                  rotate_left
                  · intro w hSw; (dsimp only [Cs] at hSw); go_simp; (try with_reducible rfl)
                  try simp only [Act.put, List.setIfInBounds_toArray, List.set_cons_zero, List.set_cons_succ]
                  refine take_y (some 68) (i := 4) (v := ?_) rfl rfl (by kernel_rfl) (by kernel_rfl) (by kernel_rfl) (fun _ _ _ h => h) (Or.inl ⟨by rfl, ?_⟩) ?_
                  rotate_left
                  · intro w _; go_simp; (try with_reducible rfl)
                  try simp only [Act.put, List.setIfInBounds_toArray, List.set_cons_zero, List.set_cons_succ]
                  refine take_y (some 69) (i := 5) (v := ?_) rfl rfl (by kernel_rfl) (by kernel_rfl) (by kernel_rfl) (fun _ _ _ h => h) (Or.inl ⟨by rfl, ?_⟩) ?_
                  rotate_left
                  · intro w _; go_simp; (try with_reducible rfl)
                  try simp only [Act.put, List.setIfInBounds_toArray, List.set_cons_zero, List.set_cons_succ]
                  refine take_y (some 70) (i := 6) (v := ?_) rfl rfl (by kernel_rfl) (by kernel_rfl) (by kernel_rfl) (fun _ _ _ h => h) (Or.inl ⟨by rfl, ?_⟩) ?_
                  rotate_left
                  · intro w _; go_simp; (try with_reducible rfl)
                  try simp only [Act.put, List.setIfInBounds_toArray, List.set_cons_zero, List.set_cons_succ]
                  refine take_y (some 71) (i := 7) (v := ?_) rfl rfl (by kernel_rfl) (by kernel_rfl) (by kernel_rfl) (fun _ _ _ h => h) (Or.inl ⟨by rfl, ?_⟩) ?_
                  rotate_left
                  · intro w _; go_simp; (try with_reducible rfl)
                  try simp only [Act.put, List.setIfInBounds_toArray, List.set_cons_zero, List.set_cons_succ]
                  refine take_y (some 73) (i := 9) (v := ?_) rfl rfl (by kernel_rfl) (by kernel_rfl) (by kernel_rfl) (fun _ _ _ h => h) (Or.inl ⟨by rfl, ?_⟩) ?_
                  rotate_left
                  · intro w _; go_simp; (try with_reducible rfl)
                  try simp only [Act.put, List.setIfInBounds_toArray, List.set_cons_zero, List.set_cons_succ]
                  refine one_f (i := 8) (by kernel_rfl) rfl (fun K hK => ?_)
                  go_simp
                  go_at_call 27; refine (N_run _ sb (m + 1) (by exact hm3) (by exact hm4) (by exact HMP.out.lw.src.drew)).mono ?_; rintro e Wb ⟨bl, hb0, hb1, rfl, hsb, hgb⟩; have HBL := Lib.hid (And.intro hb0 hb1); have HM3 := Lib.hid (HMP.out.drew.grown hsb hgb); have HA3 := Lib.hid (Cs.keep (P := fun b => b ≠ sb) (Cs.drew HAP.out) (fun x hx => by have h1 : x.1.block = ab := (by simp at hx; rcases hx with rfl | rfl <;> rfl); rw [h1]; exact hsab) (fun k hk hP => hgb.block k hk (by simpa using hP))); clear hsb hgb
                  go_wp2_with fail
                  replace hSK := (show Cs [(⟨gb, 2, none⟩, vl), (⟨ab, 0, none⟩, .string (codeOf 1)), (⟨ab, 1, none⟩, .int .i64 (issOf 1))] Wb from ⟨HM3.out.lw.g.cs7.2.2.1, HA3.out.1, HA3.out.2.1, trivial⟩)
                  refine hK.out _ _ (Or.inr (fun _ => hSK)) ?_
                  clear hK K
                  try simp only [Act.put, List.setIfInBounds_toArray, List.set_cons_zero, List.set_cons_succ]
                  refine take_y (some 74) (i := 10) (v := ?_) rfl rfl (by kernel_rfl) (by kernel_rfl) (by kernel_rfl) (fun _ _ _ h => h) (Or.inl ⟨by rfl, ?_⟩) ?_
                  rotate_left
                  · intro w _; go_simp; (try with_reducible rfl)
                  try simp only [Act.put, List.setIfInBounds_toArray, List.set_cons_zero, List.set_cons_succ]
                  refine one_f (i := 11) (by kernel_rfl) rfl (fun K hK => ?_)
                  have HM4 := Lib.hid (HM3.out.alloc (.cells #[.int .i64 ((i : Int) + 1), .string (codeOf 1), .int .i64 (issOf 1), .int .i64 bl, .int .i64 lim] 51))
                  have HA4 := Lib.hid (HA3.out.alloc (.cells #[.int .i64 ((i : Int) + 1), .string (codeOf 1), .int .i64 (issOf 1), .int .i64 bl, .int .i64 lim] 51))
                  have HNW := Lib.hid (show ∀ j u, ([.int .i64 ((i : Int) + 1), .string (codeOf 1), .int .i64 (issOf 1), .int .i64 bl, .int .i64 lim] : List Value)[j]? = some u → (Wb.alloc (.cells #[.int .i64 ((i : Int) + 1), .string (codeOf 1), .int .i64 (issOf 1), .int .i64 bl, .int .i64 lim] 51)).cell? ((⟨Wb.heap.size, 0, none⟩ : Addr).add j) = some u from fun j u hu => by rw [Addr.add_lit, Nat.zero_add, row_new Wb _ _ j]; simpa using hu)
                  have hbs := HM3.out.bz
                  go_simp
                  replace hSK := (show Cs [(⟨gb, 2, none⟩, vl), (⟨ab, 0, none⟩, .string (codeOf 1)), (⟨ab, 1, none⟩, .int .i64 (issOf 1))] (Wb.alloc (.cells #[.int .i64 ((i : Int) + 1), .string (codeOf 1), .int .i64 (issOf 1), .int .i64 bl, .int .i64 lim] 51)) from ⟨HM4.out.lw.g.cs7.2.2.1, HA4.out.1, HA4.out.2.1, trivial⟩)
                  refine hK.out _ _ (Or.inr (fun _ => hSK)) ?_
                  clear hK K
                  try simp only [Act.put, List.setIfInBounds_toArray, List.set_cons_zero, List.set_cons_succ]
                  refine one_f (i := 12) (by kernel_rfl) rfl (fun K hK => ?_)
                  refine step_own rfl _ _ 26 rfl B2 51 il (.agg #[.int .i64 0, .string ⟨#[]⟩, .int .i64 0, .int .i64 0, .int .i64 0]) 5 48 Try.underlying26 hil hyl0 hyl1 hyl2 rfl (by decide) vl M.length (flatS encL M) rfl HM4.out.own ⟨Wb.heap.size, 0, none⟩ 1 1 [.int .i64 ((i : Int) + 1), .string (codeOf 1), .int .i64 (issOf 1), .int .i64 bl, .int .i64 lim] rfl rfl HNW.out (fun u hu => encL_one ⟨(i : Int) + 1, 1, bl, lim⟩ u hu) (by have := hN.out.len; unfold maxLen; omega) (by have := hN.out.len; omega) (by rw [alloc_szS]; omega) ?_
                  intro v' W' hown' hgr'
                  have HLT := Lib.hid (fun j (hj : vl.ownBlock = some j) => (HM4.out.own.lt j hj).1)
                  obtain ⟨g4, cap4, rfl, hg4, hg4l⟩ := hown'.form (by omega)
                  have HM5 := Lib.hid (HM4.out.row (M' := M ++ [⟨(i : Int) + 1, 1, bl, lim⟩]) hgr' (fun j hj => HLT.out j hj) (by rw [List.length_append, flatS_append]; exact hown'))
                  clear hgr' hown'
                  refine hK.out _ _ (Or.inl (by kernel_rfl)) ?_
                  clear hK K
                  try simp only [Act.put, List.setIfInBounds_toArray, List.set_cons_zero, List.set_cons_succ]
                  refine take_y (some 77) (i := 13) (v := ?_) rfl rfl (by kernel_rfl) (by kernel_rfl) (by kernel_rfl) (fun _ _ _ h => h) (Or.inl ⟨by rfl, ?_⟩) ?_
                  rotate_left
                  · intro w _; go_simp; (try with_reducible rfl)
                  try simp only [Act.put, List.setIfInBounds_toArray, List.set_cons_zero, List.set_cons_succ]
                  refine one_f (i := 14) (by kernel_rfl) rfl (fun K hK => ?_)
                  have y0 : W'.cell? ⟨gb, 2, none⟩ = some vl := HM5.out.lw.g.cs7.2.2.1
                  have y1 := HM5.out.lw.g.fr 2
                  go_simp
                  refine hK.out _ _ (Or.inl (by kernel_rfl)) ?_
                  clear hK K
                  try simp only [Act.put, List.setIfInBounds_toArray, List.set_cons_zero, List.set_cons_succ]
                  refine done_f (by kernel_rfl) ?_ _
                  have HM6 := Lib.hid (HM5.out.store 2 (.slice (some ⟨g4, 0, none⟩) (M.length + 1) cap4) (o' := (LObj (.int .i64 nu) va (.slice (some ⟨g4, 0, none⟩) (M.length + 1) cap4) (.slice none 0 0) (.int .i64 1) (.int .i64 fe) (.int .u64 lk))) (set_obj HM5.out.lw.g (.slice (some ⟨g4, 0, none⟩) (M.length + 1) cap4)))
                  have HLG := Lib.hid (show LinG L ⟨(i : Int) + 1, 1, bl, lim⟩ from ⟨HAN.out.has (by show 1 ≤ (i : Int) + 1; omega) (by rw [HN.out]; show (i : Int) + 1 ≤ (k : Int); omega), by show 1 ≤ 1; omega, by show 1 ≤ 2; omega, HIS.out, hl0, hl1, HBL.out.1, by have := HBL.out.2; show bl ≤ lim; omega⟩)
                  clear y0 y1 hSK
                  go_wp2_with fail
                  go_roundw
                  case rel => exact ⟨2, M ++ [⟨(i : Int) + 1, 1, bl, lim⟩], _, rfl, by omega, Lib.hid (hN.out.snoc (by omega) (by omega) HLG.out (by show (i : Int) + 1 = ((i + 1 : Nat) : Int); omega) rfl), HM6⟩
                  case measure => simp [intOf]
            | 2, _ =>
              have HNX := Lib.hid hN.out.over
              go_wp2_with fail
              go_roundw
              case rel => exact ⟨i + 1, M, vl, by go_num, by omega, HNX, hM⟩
              case measure => simp [intOf]; omega
        · obtain rfl : i = k := by omega
          have q1 : decide ((i : Int) + 1 ≤ (i : Int)) = false := decide_eq_false (by omega)
          have HK0 := Lib.hid (show LK w sb gb r0 i wr.heap.size ⟨nu, L, M, [], 1, fe, lk⟩ va vl (.slice none 0 0) wr from ⟨hM.out.lw, ⟨hM.out.acc.imp (fun b hb hp => ⟨hp.1, hb⟩), RowAt.of_own (L := M) encL_len hM.out.own (by have := hN.out.len; unfold maxLen; omega) (fun b hb hv => ⟨by have := hM.out.b2; omega, (hM.out.own.lt b hv).2⟩), RowAt.nil⟩, ⟨HAO.out, hN.out.ok, by simp, fun k o h => (by simp at h), fun k a b h => (by simp at h), by simp, by simp, hfe0, by show fe ≤ 1000000000000; omega, hnu0, by show nu ≤ 1000000; omega, hlk0, by show lk ≤ 18446744073709551615; omega⟩, HAN.out, HN.out, fun _ => rfl, Nat.le_refl _⟩)
          clear hN hM hlt HM0 HW5
          go_wp2_with fail
          refine (N_run _ sb 6 (by omega) (by omega) HK0.out.lw.src).mono ?_
          rintro e W6 ⟨qq, hq0, hq1, rfl, hs6, hg6⟩
          obtain ⟨q6, rfl⟩ : ∃ n : Nat, qq = (n : Int) := ⟨qq.toNat, by omega⟩
          have HK1 := Lib.hid (HK0.out.grown hs6 hg6).now
          generalize hgg : (⟨nu, L, M, [], 1, fe, lk⟩ : Led) = gg at HK1
          have HGG := Lib.hid hgg
          clear hs6 hg6 HK0 hgg
          go_wp2_with fail
          go_loopw [10] (fun t W => ∃ (q Z : Nat) (g : Led) (va vl vo : Value), t = .int .i64 (q : Int) ∧ q ≤ 5 ∧ Hid (LK w sb gb r0 i Z g va vl vo W)) (fun t _ => (intOf t).toNat)
          case atStart => exact ⟨q6, _, gg, va, vl, _, rfl, by omega, HK1⟩
          case round =>
            clear HK1 HGG HAO HAN HN
            obtain ⟨q, Z0, g, va, vl, vo, rfl, hq, hK0⟩ := hrel
            have hK := Lib.hid hK0.out.now
            clear hK0
            obtain ⟨A, c, B, c2, C, c3, rfl, rfl, rfl, hc, hm, hc2, hm2, hc3, hm3⟩ := hK.out.at_.form
            rcases Nat.eq_zero_or_pos q with hqz | hqp
            · subst hqz
              have HKK := Lib.hid hK.out.lw.r
              obtain ⟨x0, x1, x2, x3, x4, x5, x6, _⟩ := hK.out.lw.g.cs7
              obtain ⟨z0, z1, z2, z3, z4, z5, z6, _⟩ := hK.out.lw.r.cs7
              have f0 := hK.out.lw.r.fr 0
              have f1 := hK.out.lw.r.fr 1
              have f2 := hK.out.lw.r.fr 2
              have f3 := hK.out.lw.r.fr 3
              have f4 := hK.out.lw.r.fr 4
              have f5 := hK.out.lw.r.fr 5
              have f6 := hK.out.lw.r.fr 6
              have hr1 : sb < r0 := by have := hK.out.lw.s1; have := hK.out.lw.s2; omega
              have hr2 := hK.out.lw.s2
              have hr3 := hK.out.lw.s3
              have HFIN := Lib.hid (show SrcLed w ((((((((wr).setCell ⟨r0, 0, none⟩ (.int .i64 g.number)).setCell ⟨r0, 1, none⟩ (.slice A g.accs.length c)).setCell ⟨r0, 2, none⟩ (.slice B g.lines.length c2)).setCell ⟨r0, 3, none⟩ (.slice C g.offers.length c3)).setCell ⟨r0, 4, none⟩ (.int .i64 g.next)).setCell ⟨r0, 5, none⟩ (.int .i64 g.fees)).setCell ⟨r0, 6, none⟩ (.int .u64 g.link)) sb g (.slice A g.accs.length c) (.slice B g.lines.length c2) (.slice C g.offers.length c3) from ⟨hK.out.ok, hK.out.at_.both (by simp [World.setCell]) (fun j hj hp => (by have hjr : r0 < j := (by omega); exact (Below.heap_setCell _ ⟨r0, 6, none⟩ (.int .u64 g.link) j (by show j ≠ r0; omega)).trans ((Below.heap_setCell _ ⟨r0, 5, none⟩ (.int .i64 g.fees) j (by show j ≠ r0; omega)).trans ((Below.heap_setCell _ ⟨r0, 4, none⟩ (.int .i64 g.next) j (by show j ≠ r0; omega)).trans ((Below.heap_setCell _ ⟨r0, 3, none⟩ (.slice C g.offers.length c3) j (by show j ≠ r0; omega)).trans ((Below.heap_setCell _ ⟨r0, 2, none⟩ (.slice B g.lines.length c2) j (by show j ≠ r0; omega)).trans ((Below.heap_setCell _ ⟨r0, 1, none⟩ (.slice A g.accs.length c) j (by show j ≠ r0; omega)).trans ((Below.heap_setCell _ ⟨r0, 0, none⟩ (.int .i64 g.number) j (by show j ≠ r0; omega)).trans ((rfl : wr.heap[j]? = wr.heap[j]?)))))))))) (fun j hj hp => by omega), hK.out.acc, by rw [hK.out.len]; omega, by rw [hK.out.len]; omega, (((((((hK.out.lw.src).setCell (p := ⟨r0, 0, none⟩) hr1 (.int .i64 g.number)).setCell (p := ⟨r0, 1, none⟩) hr1 (.slice A g.accs.length c)).setCell (p := ⟨r0, 2, none⟩) hr1 (.slice B g.lines.length c2)).setCell (p := ⟨r0, 3, none⟩) hr1 (.slice C g.offers.length c3)).setCell (p := ⟨r0, 4, none⟩) hr1 (.int .i64 g.next)).setCell (p := ⟨r0, 5, none⟩) hr1 (.int .i64 g.fees)).setCell (p := ⟨r0, 6, none⟩) hr1 (.int .u64 g.link), grown_set (grown_set (grown_set (grown_set (grown_set (grown_set (grown_set (hK.out.lw.gr) (p := ⟨r0, 0, none⟩) hr2 (.int .i64 g.number)) (p := ⟨r0, 1, none⟩) hr2 (.slice A g.accs.length c)) (p := ⟨r0, 2, none⟩) hr2 (.slice B g.lines.length c2)) (p := ⟨r0, 3, none⟩) hr2 (.slice C g.offers.length c3)) (p := ⟨r0, 4, none⟩) hr2 (.int .i64 g.next)) (p := ⟨r0, 5, none⟩) hr2 (.int .i64 g.fees)) (p := ⟨r0, 6, none⟩) hr2 (.int .u64 g.link)⟩)
              clear hK
              go_wp2_with fail
              refine bodyPost_ret (v := .agg #[.int .i64 g.number, .slice A g.accs.length c, .slice B g.lines.length c2, .slice C g.offers.length c3, .int .i64 g.next, .int .i64 g.fees, .int .u64 g.link]) ?_ rfl ⟨g, _, _, _, rfl, HFIN.out⟩
              simp [results, Try.results11, go_sem, z0, z1, z2, z3, z4, z5, z6, (show _ = _ from HKK.out)]
            · obtain ⟨q0, rfl⟩ : ∃ q0, q = q0 + 1 := ⟨q - 1, by omega⟩
              have q2 : decide ((0 : Int) < (q0 : Int) + 1) = true := decide_eq_true (by omega)
              clear hqp
              go_upto_region 20 with fail
              obtain ⟨ZZ, hZZ⟩ : ∃ z, wr.heap.size = z := ⟨_, rfl⟩
              rw [hZZ] at hK
              have hsg : sb < gb := by have := hK.out.lw.s1; have := hK.out.lw.s2; have := hK.out.lw.s3; omega
              refine region_f (fun W => Cs [(⟨gb, 0, none⟩, .int .i64 g.number), (⟨gb, 1, none⟩, .slice A g.accs.length c), (⟨gb, 2, none⟩, .slice B g.lines.length c2), (⟨gb, 3, none⟩, .slice C g.offers.length c3), (⟨gb, 4, none⟩, .int .i64 g.next), (⟨gb, 5, none⟩, .int .i64 g.fees), (⟨gb, 6, none⟩, .int .u64 g.link)] W ∧ LK w sb gb r0 i ZZ g (.slice A g.accs.length c) (.slice B g.lines.length c2) (.slice C g.offers.length c3) W) [17, 23] (by kernel_rfl) ?_
              have hSK : Cs [(⟨gb, 0, none⟩, .int .i64 g.number), (⟨gb, 1, none⟩, .slice A g.accs.length c), (⟨gb, 2, none⟩, .slice B g.lines.length c2), (⟨gb, 3, none⟩, .slice C g.offers.length c3), (⟨gb, 4, none⟩, .int .i64 g.next), (⟨gb, 5, none⟩, .int .i64 g.fees), (⟨gb, 6, none⟩, .int .u64 g.link)] wr.drew ∧ LK w sb gb r0 i ZZ g (.slice A g.accs.length c) (.slice B g.lines.length c2) (.slice C g.offers.length c3) wr.drew := ⟨hK.out.lw.g.cs7, hK.out.below (bdrew (bref _))⟩
              refine take_f (some 86) [17, 18, 19, 20, 21, 23, 24, 25] (i := 0) (v := ?_) rfl rfl (by kernel_rfl) (by kernel_rfl) (by kernel_rfl) (by kernel_rfl) (fun _ _ _ h => h) (Or.inl ⟨by rfl, ?_⟩) (by assumption) ?_
              rotate_left
              · intro w hSw; (dsimp only [Cs] at hSw); go_simp; (try with_reducible rfl)
              try simp only [Act.put, List.setIfInBounds_toArray, List.set_cons_zero, List.set_cons_succ]
              refine take_y (some 87) (i := 1) (v := ?_) rfl rfl (by kernel_rfl) (by kernel_rfl) (by kernel_rfl) (fun _ _ _ h => h) (Or.inl ⟨by rfl, ?_⟩) ?_
              rotate_left
              · intro w _; go_simp; (try with_reducible rfl)
              try simp only [Act.put, List.setIfInBounds_toArray, List.set_cons_zero, List.set_cons_succ]
              refine take_y (some 88) (i := 2) (v := ?_) rfl rfl (by kernel_rfl) (by kernel_rfl) (by kernel_rfl) (fun _ _ _ h => h) (Or.inl ⟨by rfl, ?_⟩) ?_
              rotate_left
              · intro w _; go_simp; (try with_reducible rfl)
              try simp only [Act.put, List.setIfInBounds_toArray, List.set_cons_zero, List.set_cons_succ]
              refine take_y (some 90) (i := 4) (v := ?_) rfl rfl (by kernel_rfl) (by kernel_rfl) (by kernel_rfl) (fun _ _ _ h => h) (Or.inl ⟨by rfl, ?_⟩) ?_
              rotate_left
              · intro w _; go_simp; (try with_reducible rfl)
              try simp only [Act.put, List.setIfInBounds_toArray, List.set_cons_zero, List.set_cons_succ]
              refine take_y (some 92) (i := 6) (v := ?_) rfl rfl (by kernel_rfl) (by kernel_rfl) (by kernel_rfl) (fun _ _ _ h => h) (Or.inl ⟨by rfl, ?_⟩) ?_
              rotate_left
              · intro w _; go_simp; (try with_reducible rfl)
              try simp only [Act.put, List.setIfInBounds_toArray, List.set_cons_zero, List.set_cons_succ]
              refine take_y (some 94) (i := 8) (v := ?_) rfl rfl (by kernel_rfl) (by kernel_rfl) (by kernel_rfl) (fun _ _ _ h => h) (Or.inl ⟨by rfl, ?_⟩) ?_
              rotate_left
              · intro w _; go_simp; (try with_reducible rfl)
              try simp only [Act.put, List.setIfInBounds_toArray, List.set_cons_zero, List.set_cons_succ]
              refine take_y (some 97) (i := 11) (v := ?_) rfl rfl (by kernel_rfl) (by kernel_rfl) (by kernel_rfl) (fun _ _ _ h => h) (Or.inl ⟨by rfl, ?_⟩) ?_
              rotate_left
              · intro w _; go_simp; (try with_reducible rfl)
              try simp only [Act.put, List.setIfInBounds_toArray, List.set_cons_zero, List.set_cons_succ]
              refine take_y (some 100) (i := 14) (v := ?_) rfl rfl (by kernel_rfl) (by kernel_rfl) (by kernel_rfl) (fun _ _ _ h => h) (Or.inl ⟨by rfl, ?_⟩) ?_
              rotate_left
              · intro w _; go_simp; (try with_reducible rfl)
              try simp only [Act.put, List.setIfInBounds_toArray, List.set_cons_zero, List.set_cons_succ]
              have HK20 := Lib.hid hSK.2
              refine phasePX [(3, 89), (5, 91), (7, 93), (9, 95), (10, 96), (12, 98), (13, 99), (15, 101), (16, 102), (22, 11)] 22 17 8 (PhR i gb ZZ) (fun W => LK w sb gb r0 i ZZ g (.slice A g.accs.length c) (.slice B g.lines.length c2) (.slice C g.offers.length c3) W) (fun W W' => W.grownBy W' (some sb)) (by decide) (by decide) (by kernel_rfl) (fun j _ W W' v h hb => h.grown hsg hb) ?hstep (fun W h => ⟨h.lw.g.cs7, h⟩) ?hy ?hend hSK.2
              case hstep =>
                clear hSK HK20
                intro x hx f W hG hd
                simp only [List.mem_cons, List.not_mem_nil, or_false] at hx
                have HG := Lib.hid hG
                have hgs := hG.lw.g.lt
                clear hG
                rcases hx with rfl | rfl | rfl | rfl | rfl | rfl | rfl | rfl | rfl | rfl
                · clear hd
                  simp only [putL, Act.put, List.setIfInBounds_toArray, List.set_cons_zero, List.set_cons_succ]
                  refine wpOp_step rfl (fun K' hK' => ?_)
                  have HKK := Lib.hid hK'
                  clear hK'
                  go_simp
                  go_at_call 12; refine (Range_run _ sb 1 (i : Int) (by omega) (by omega) (by omega) HG.out.lw.src).mono ?_; rintro e Wx ⟨r, hr0_, hr1_, rfl, hsx, hgx⟩
                  go_wp2_with fail
                  exact HKK.out _ _ ⟨_, rfl, HG.out.grown hsx hgx, ⟨r, rfl, hr0_, hr1_⟩, hgx⟩
                · clear hd
                  simp only [putL, Act.put, List.setIfInBounds_toArray, List.set_cons_zero, List.set_cons_succ]
                  refine wpOp_step rfl (fun K' hK' => ?_)
                  have HKK := Lib.hid hK'
                  clear hK'
                  go_simp
                  go_at_call 34; refine (Asset_run _ sb HG.out.lw.src).mono ?_; rintro e Wx ⟨r, hr0_, rfl, hsx, hgx⟩
                  go_wp2_with fail
                  exact HKK.out _ _ ⟨_, rfl, HG.out.grown hsx hgx, ⟨r, rfl, hr0_⟩, hgx⟩
                · clear hd
                  simp only [putL, Act.put, List.setIfInBounds_toArray, List.set_cons_zero, List.set_cons_succ]
                  refine wpOp_step rfl (fun K' hK' => ?_)
                  have HKK := Lib.hid hK'
                  clear hK'
                  go_simp
                  go_at_call 34; refine (Asset_run _ sb HG.out.lw.src).mono ?_; rintro e Wx ⟨r, hr0_, rfl, hsx, hgx⟩
                  go_wp2_with fail
                  exact HKK.out _ _ ⟨_, rfl, HG.out.grown hsx hgx, ⟨r, rfl, hr0_⟩, hgx⟩
                · clear hd
                  simp only [putL, Act.put, List.setIfInBounds_toArray, List.set_cons_zero, List.set_cons_succ]
                  refine wpOp_step rfl (fun K' hK' => ?_)
                  have HKK := Lib.hid hK'
                  clear hK'
                  go_simp
                  exact HKK.out _ _ ⟨.slice (some ⟨W.heap.size, 0, none⟩) 3 3, rfl, HG.out.below (balloc (bref _) _), ⟨W.heap.size, rfl, hgs, by simp, fun j hj => (row_new W #[.int .i64 1, .int .i64 10, .int .i64 90] 3 j).trans (by match j, hj with | 0, _ | 1, _ | 2, _ => rfl)⟩, grown_below (balloc (bref _) _)⟩
                · obtain ⟨q9, hq9, hq9b, hq9z, hq9c⟩ := (show RowC [1, 10, 90] 3 gb W (f 9) from hd 9 (by kernel_rfl) (by decide))
                  have HC := Lib.hid hq9c
                  have HQ := Lib.hid hq9
                  clear hd hq9c hq9
                  simp only [putL, Act.put, List.setIfInBounds_toArray, List.set_cons_zero, List.set_cons_succ]
                  rw [HQ.out]
                  refine wpOp_step rfl (fun K' hK' => ?_)
                  have HKK := Lib.hid hK'
                  clear hK'
                  go_simp
                  go_at_call 36; refine (Pick_run _ sb q9 [1, 10, 90] 3 rfl (by omega) (by omega) HC.out (by omega) HG.out.lw.src).mono ?_; rintro e Wx ⟨jj, hj, rfl, hsx, hgx⟩
                  obtain ⟨bb, hbe, hbb⟩ : ∃ b : Int, ([1, 10, 90] : List Int).getD jj 0 = b ∧ 1 ≤ b ∧ b ≤ 90 := (by match jj, hj with | 0, _ => exact ⟨1, rfl, by omega, by omega⟩ | 1, _ => exact ⟨10, rfl, by omega, by omega⟩ | 2, _ => exact ⟨90, rfl, by omega, by omega⟩)
                  rw [hbe]
                  go_wp2_with fail
                  exact HKK.out _ _ ⟨_, rfl, HG.out.grown hsx hgx, ⟨bb, rfl, hbb⟩, hgx⟩
                · clear hd
                  simp only [putL, Act.put, List.setIfInBounds_toArray, List.set_cons_zero, List.set_cons_succ]
                  refine wpOp_step rfl (fun K' hK' => ?_)
                  have HKK := Lib.hid hK'
                  clear hK'
                  go_simp
                  exact HKK.out _ _ ⟨.slice (some ⟨W.heap.size, 0, none⟩) 4 4, rfl, HG.out.below (balloc (bref _) _), ⟨W.heap.size, rfl, hgs, by simp, fun j hj => (row_new W #[.int .i64 1, .int .i64 2, .int .i64 3, .int .i64 7] 3 j).trans (by match j, hj with | 0, _ | 1, _ | 2, _ | 3, _ => rfl)⟩, grown_below (balloc (bref _) _)⟩
                · obtain ⟨q9, hq9, hq9b, hq9z, hq9c⟩ := (show RowC [1, 2, 3, 7] 4 gb W (f 12) from hd 12 (by kernel_rfl) (by decide))
                  have HC := Lib.hid hq9c
                  have HQ := Lib.hid hq9
                  clear hd hq9c hq9
                  simp only [putL, Act.put, List.setIfInBounds_toArray, List.set_cons_zero, List.set_cons_succ]
                  rw [HQ.out]
                  refine wpOp_step rfl (fun K' hK' => ?_)
                  have HKK := Lib.hid hK'
                  clear hK'
                  go_simp
                  go_at_call 36; refine (Pick_run _ sb q9 [1, 2, 3, 7] 4 rfl (by omega) (by omega) HC.out (by omega) HG.out.lw.src).mono ?_; rintro e Wx ⟨jj, hj, rfl, hsx, hgx⟩
                  obtain ⟨bb, hbe, hbb⟩ : ∃ b : Int, ([1, 2, 3, 7] : List Int).getD jj 0 = b ∧ 1 ≤ b ∧ b ≤ 7 := (by match jj, hj with | 0, _ => exact ⟨1, rfl, by omega, by omega⟩ | 1, _ => exact ⟨2, rfl, by omega, by omega⟩ | 2, _ => exact ⟨3, rfl, by omega, by omega⟩ | 3, _ => exact ⟨7, rfl, by omega, by omega⟩)
                  rw [hbe]
                  go_wp2_with fail
                  exact HKK.out _ _ ⟨_, rfl, HG.out.grown hsx hgx, ⟨bb, rfl, hbb⟩, hgx⟩
                · clear hd
                  simp only [putL, Act.put, List.setIfInBounds_toArray, List.set_cons_zero, List.set_cons_succ]
                  refine wpOp_step rfl (fun K' hK' => ?_)
                  have HKK := Lib.hid hK'
                  clear hK'
                  go_simp
                  exact HKK.out _ _ ⟨.slice (some ⟨W.heap.size, 0, none⟩) 4 4, rfl, HG.out.below (balloc (bref _) _), ⟨W.heap.size, rfl, hgs, by simp, fun j hj => (row_new W #[.int .i64 1, .int .i64 2, .int .i64 3, .int .i64 5] 3 j).trans (by match j, hj with | 0, _ | 1, _ | 2, _ | 3, _ => rfl)⟩, grown_below (balloc (bref _) _)⟩
                · obtain ⟨q9, hq9, hq9b, hq9z, hq9c⟩ := (show RowC [1, 2, 3, 5] 4 gb W (f 15) from hd 15 (by kernel_rfl) (by decide))
                  have HC := Lib.hid hq9c
                  have HQ := Lib.hid hq9
                  clear hd hq9c hq9
                  simp only [putL, Act.put, List.setIfInBounds_toArray, List.set_cons_zero, List.set_cons_succ]
                  rw [HQ.out]
                  refine wpOp_step rfl (fun K' hK' => ?_)
                  have HKK := Lib.hid hK'
                  clear hK'
                  go_simp
                  go_at_call 36; refine (Pick_run _ sb q9 [1, 2, 3, 5] 4 rfl (by omega) (by omega) HC.out (by omega) HG.out.lw.src).mono ?_; rintro e Wx ⟨jj, hj, rfl, hsx, hgx⟩
                  obtain ⟨bb, hbe, hbb⟩ : ∃ b : Int, ([1, 2, 3, 5] : List Int).getD jj 0 = b ∧ 1 ≤ b ∧ b ≤ 5 := (by match jj, hj with | 0, _ => exact ⟨1, rfl, by omega, by omega⟩ | 1, _ => exact ⟨2, rfl, by omega, by omega⟩ | 2, _ => exact ⟨3, rfl, by omega, by omega⟩ | 3, _ => exact ⟨5, rfl, by omega, by omega⟩)
                  rw [hbe]
                  go_wp2_with fail
                  exact HKK.out _ _ ⟨_, rfl, HG.out.grown hsx hgx, ⟨bb, rfl, hbb⟩, hgx⟩
                · simp only [putL, Act.put, List.setIfInBounds_toArray, List.set_cons_zero, List.set_cons_succ]
                  refine wpOp_step rfl (fun K' hK' => ?_)
                  have HKK := Lib.hid hK'
                  clear hK' hd
                  go_simp
                  exact HKK.out _ _ ⟨.pointer (some ⟨W.heap.size, 0, none⟩), rfl, HG.out.below (balloc (bref _) _), ⟨W.heap.size, rfl, hgs, HG.out.z, heap_alloc_new _ _⟩, grown_below (balloc (bref _) _)⟩
              case hy =>
                clear hSK HK20
                intro f W hG hR
                obtain ⟨r3, e3, r30, r31⟩ := (show IntV 1 i (f 3) from hR 3 (by decide) (by decide))
                obtain ⟨s5, e5, s52⟩ := (show AstV (f 5) from hR 5 (by decide) (by decide))
                obtain ⟨b7, e7, b72⟩ := (show AstV (f 7) from hR 7 (by decide) (by decide))
                obtain ⟨x10, e10, x100, x101⟩ := (show IntV 1 90 (f 10) from hR 10 (by decide) (by decide))
                obtain ⟨x13, e13, x130, x131⟩ := (show IntV 1 7 (f 13) from hR 13 (by decide) (by decide))
                obtain ⟨x16, e16, x160, x161⟩ := (show IntV 1 5 (f 16) from hR 16 (by decide) (by decide))
                obtain ⟨n13, rfl⟩ : ∃ n : Nat, x13 = (n : Int) := ⟨x13.toNat, by omega⟩
                obtain ⟨n16, rfl⟩ : ∃ n : Nat, x16 = (n : Int) := ⟨x16.toNat, by omega⟩
                clear hR
                simp only [putL, Act.put, List.setIfInBounds_toArray, List.set_cons_zero, List.set_cons_succ]
                rw [e3, e5, e7, e10, e13, e16]
                generalize f 9 = f9
                generalize f 12 = f12
                generalize f 15 = f15
                generalize f 22 = f22
                clear e3 e5 e7 e10 e13 e16
                have HADD := Lib.hid (radd_run (fun b => gb < b ∧ b < ZZ) g r3 s5 b7 x10 n13 n16 _ _ _ W s52 b72 (by omega) (by omega) (by omega) (by omega) (by omega) (by omega) (hG.acc.has r30 (by rw [hG.len]; exact r31)) hG.ok hG.nil hG.at_)
                unfold valG valS at HADD
                have HGG := Lib.hid hG
                have hgW : gb < W.heap.size := hG.lw.g.lt
                clear hG
                refine wpOp_step rfl (fun K hKw => ?_)
                have HKW := Lib.hid hKw
                clear hKw
                go_simp
                go_at_call 37
                refine HADD.out.mono ?_
                rintro e Wd ⟨hout, hbel⟩
                have HKD := Lib.hid (HGG.out.below hbel)
                clear HADD
                rcases hout with ⟨er, her, rfl⟩ | ⟨vo', o, rfl, hoff, hok'⟩
                · have q3 : (er == 0) = false := beq_eq_false_iff_ne.2 her
                  clear her
                  go_wp2_with fail
                  refine HKW.out _ _ ⟨Or.inl (by kernel_rfl), ?_⟩
                  clear HKW K
                  try simp only [Act.put, List.setIfInBounds_toArray, List.set_cons_zero, List.set_cons_succ]
                  refine take_y (some 85) (i := 18) (v := ?_) rfl rfl (by kernel_rfl) (by kernel_rfl) (by kernel_rfl) (fun _ _ _ h => h) (Or.inl ⟨by rfl, ?_⟩) ?_
                  rotate_left
                  · intro w _; go_simp; (try with_reducible rfl)
                  try simp only [Act.put, List.setIfInBounds_toArray, List.set_cons_zero, List.set_cons_succ]
                  refine take_y (some 104) (i := 19) (v := ?_) rfl rfl (by kernel_rfl) (by kernel_rfl) (by kernel_rfl) (fun _ _ _ h => h) (Or.inl ⟨by rfl, ?_⟩) ?_
                  rotate_left
                  · intro w _; go_simp; (try with_reducible rfl)
                  try simp only [Act.put, List.setIfInBounds_toArray, List.set_cons_zero, List.set_cons_succ]
                  refine take_y (some 105) (i := 20) (v := ?_) rfl rfl (by kernel_rfl) (by kernel_rfl) (by kernel_rfl) (fun _ _ _ h => h) (Or.inl ⟨by rfl, ?_⟩) ?_
                  rotate_left
                  · intro w _; go_simp; (try with_reducible rfl)
                  try simp only [Act.put, List.setIfInBounds_toArray, List.set_cons_zero, List.set_cons_succ]
                  refine take_y (some 106) (i := 21) (v := ?_) rfl rfl (by kernel_rfl) (by kernel_rfl) (by kernel_rfl) (fun _ _ _ h => h) (Or.inl ⟨by rfl, ?_⟩) ?_
                  rotate_left
                  · intro w _; go_simp; (try with_reducible rfl)
                  try simp only [Act.put, List.setIfInBounds_toArray, List.set_cons_zero, List.set_cons_succ]
                  refine one_f (i := 22) (by kernel_rfl) rfl (fun K hK => ?_)
                  have HKD2 := Lib.hid (HKD.out.below (balloc (bref _) (.cells #[.int .i64 0, .slice none 0 0, .slice none 0 0, .slice none 0 0, .int .i64 0, .int .i64 0, .int .u64 0] 30)))
                  have HQ := Lib.hid (show HasB Wd.heap.size ZObj (Wd.alloc (.cells #[.int .i64 0, .slice none 0 0, .slice none 0 0, .slice none 0 0, .int .i64 0, .int .i64 0, .int .u64 0] 30)) from heap_alloc_new _ _)
                  have q22g := HKD.out.lw.g.lt
                  have q22z := HKD.out.z
                  have hSK := True.intro
                  go_simp
                  replace hSK := (show Cs [(⟨gb, 0, none⟩, .int .i64 g.number), (⟨gb, 1, none⟩, .slice A g.accs.length c), (⟨gb, 2, none⟩, .slice B g.lines.length c2), (⟨gb, 3, none⟩, .slice C g.offers.length c3), (⟨gb, 4, none⟩, .int .i64 g.next), (⟨gb, 5, none⟩, .int .i64 g.fees), (⟨gb, 6, none⟩, .int .u64 g.link)] (Wd.alloc (.cells #[.int .i64 0, .slice none 0 0, .slice none 0 0, .slice none 0 0, .int .i64 0, .int .i64 0, .int .u64 0] 30)) ∧ LK w sb gb r0 i ZZ g (.slice A g.accs.length c) (.slice B g.lines.length c2) (.slice C g.offers.length c3) (Wd.alloc (.cells #[.int .i64 0, .slice none 0 0, .slice none 0 0, .slice none 0 0, .int .i64 0, .int .i64 0, .int .u64 0] 30)) from ⟨HKD2.out.lw.g.cs7, HKD2.out⟩)
                  refine hK.out _ _ (Or.inr (fun _ => hSK)) ?_
                  clear hK K
                  try simp only [Act.put, List.setIfInBounds_toArray, List.set_cons_zero, List.set_cons_succ]
                  refine one_f (i := 23) (by kernel_rfl) rfl (fun K hK => ?_)
                  generalize Wd.alloc (.cells #[.int .i64 0, .slice none 0 0, .slice none 0 0, .slice none 0 0, .int .i64 0, .int .i64 0, .int .u64 0] 30) = Wz at *
                  generalize Wd.heap.size = q22 at *
                  clear HKD
                  have HKD := HKD2
                  clear HKD2 hSK
                  obtain ⟨z0, z1, z2, z3, z4, z5, z6, _⟩ := HQ.out.cs7
                  have f0 := HQ.out.fr 0
                  have f1 := HQ.out.fr 1
                  have f2 := HQ.out.fr 2
                  have f3 := HQ.out.fr 3
                  have f4 := HQ.out.fr 4
                  have f5 := HQ.out.fr 5
                  have f6 := HQ.out.fr 6
                  go_simp
                  refine hK.out _ _ (Or.inl (by kernel_rfl)) ?_
                  clear hK K
                  try simp only [Act.put, List.setIfInBounds_toArray, List.set_cons_zero, List.set_cons_succ]
                  refine take_y (some 12) (i := 24) (v := ?_) rfl rfl (by kernel_rfl) (by kernel_rfl) (by kernel_rfl) (fun _ _ _ h => h) (Or.inl ⟨by rfl, ?_⟩) ?_
                  rotate_left
                  · intro w _; go_simp; (try with_reducible rfl)
                  try simp only [Act.put, List.setIfInBounds_toArray, List.set_cons_zero, List.set_cons_succ]
                  refine take_y (some 13) (i := 25) (v := ?_) rfl rfl (by kernel_rfl) (by kernel_rfl) (by kernel_rfl) (fun _ _ _ h => h) (Or.inl ⟨by rfl, ?_⟩) ?_
                  rotate_left
                  · intro w _; go_simp; (try with_reducible rfl)
                  try simp only [Act.put, List.setIfInBounds_toArray, List.set_cons_zero, List.set_cons_succ]
                  refine done_f (by kernel_rfl) ?_ _
                  have HKE := Lib.hid ((((((((HKD.out).high (p := ⟨q22, 0, none⟩) q22g q22z (.int .i64 0)).high (p := ⟨q22, 1, none⟩) q22g q22z (.slice none 0 0)).high (p := ⟨q22, 2, none⟩) q22g q22z (.slice none 0 0)).high (p := ⟨q22, 3, none⟩) q22g q22z (.slice none 0 0)).high (p := ⟨q22, 4, none⟩) q22g q22z (.int .i64 0)).high (p := ⟨q22, 5, none⟩) q22g q22z (.int .i64 0)).high (p := ⟨q22, 6, none⟩) q22g q22z (.int .u64 0))
                  clear z0 z1 z2 z3 z4 z5 z6 f0 f1 f2 f3 f4 f5 f6
                  go_wp2_with fail
                  go_roundw
                  case rel => exact ⟨q0, ZZ, g, _, _, _, by go_num, by omega, HKE⟩
                  case measure => first | (simp [intOf]; omega) | simp [intOf]
                · obtain ⟨D, n4, c4, hv4⟩ : ∃ D n c, vo' = .slice D n c := by
                    obtain ⟨D, c, h1, _⟩ := hoff
                    exact ⟨D, _, c, h1⟩
                  subst hv4
                  have HOFF0 := Lib.hid hoff
                  have HOK2 := Lib.hid hok'
                  clear hoff hok'
                  unfold valG
                  go_wp2_with fail
                  refine HKW.out _ _ ⟨Or.inl (by kernel_rfl), ?_⟩
                  clear HKW K
                  try simp only [Act.put, List.setIfInBounds_toArray, List.set_cons_zero, List.set_cons_succ]
                  refine take_y (some 85) (i := 18) (v := ?_) rfl rfl (by kernel_rfl) (by kernel_rfl) (by kernel_rfl) (fun _ _ _ h => h) (Or.inl ⟨by rfl, ?_⟩) ?_
                  rotate_left
                  · intro w _; go_simp; (try with_reducible rfl)
                  try simp only [Act.put, List.setIfInBounds_toArray, List.set_cons_zero, List.set_cons_succ]
                  refine take_y (some 104) (i := 19) (v := ?_) rfl rfl (by kernel_rfl) (by kernel_rfl) (by kernel_rfl) (fun _ _ _ h => h) (Or.inl ⟨by rfl, ?_⟩) ?_
                  rotate_left
                  · intro w _; go_simp; (try with_reducible rfl)
                  try simp only [Act.put, List.setIfInBounds_toArray, List.set_cons_zero, List.set_cons_succ]
                  refine take_y (some 105) (i := 20) (v := ?_) rfl rfl (by kernel_rfl) (by kernel_rfl) (by kernel_rfl) (fun _ _ _ h => h) (Or.inl ⟨by rfl, ?_⟩) ?_
                  rotate_left
                  · intro w _; go_simp; (try with_reducible rfl)
                  try simp only [Act.put, List.setIfInBounds_toArray, List.set_cons_zero, List.set_cons_succ]
                  refine take_y (some 106) (i := 21) (v := ?_) rfl rfl (by kernel_rfl) (by kernel_rfl) (by kernel_rfl) (fun _ _ _ h => h) (Or.inl ⟨by rfl, ?_⟩) ?_
                  rotate_left
                  · intro w _; go_simp; (try with_reducible rfl)
                  try simp only [Act.put, List.setIfInBounds_toArray, List.set_cons_zero, List.set_cons_succ]
                  refine one_f (i := 22) (by kernel_rfl) rfl (fun K hK => ?_)
                  have HKD2 := Lib.hid (HKD.out.below (balloc (bref _) (.cells #[.int .i64 0, .slice none 0 0, .slice none 0 0, .slice none 0 0, .int .i64 0, .int .i64 0, .int .u64 0] 30)))
                  have HQ := Lib.hid (show HasB Wd.heap.size ZObj (Wd.alloc (.cells #[.int .i64 0, .slice none 0 0, .slice none 0 0, .slice none 0 0, .int .i64 0, .int .i64 0, .int .u64 0] 30)) from heap_alloc_new _ _)
                  have q22g := HKD.out.lw.g.lt
                  have q22z := HKD.out.z
                  have HOFF := Lib.hid (show OffAt (fun b => gb < b ∧ b ≠ Wd.heap.size) (Wd.alloc (.cells #[.int .i64 0, .slice none 0 0, .slice none 0 0, .slice none 0 0, .int .i64 0, .int .i64 0, .int .u64 0] 30)) (.slice D n4 c4) (g.offers ++ [o]) from (RowAt.imp HOFF0.out (fun b hb hp => ⟨by omega, by omega⟩)).below (balloc (bref _) _))
                  have hSK := True.intro
                  go_simp
                  replace hSK := (show Cs [(⟨gb, 0, none⟩, .int .i64 g.number), (⟨gb, 1, none⟩, .slice A g.accs.length c), (⟨gb, 2, none⟩, .slice B g.lines.length c2), (⟨gb, 3, none⟩, .slice C g.offers.length c3), (⟨gb, 4, none⟩, .int .i64 g.next), (⟨gb, 5, none⟩, .int .i64 g.fees), (⟨gb, 6, none⟩, .int .u64 g.link)] (Wd.alloc (.cells #[.int .i64 0, .slice none 0 0, .slice none 0 0, .slice none 0 0, .int .i64 0, .int .i64 0, .int .u64 0] 30)) ∧ LK w sb gb r0 i ZZ g (.slice A g.accs.length c) (.slice B g.lines.length c2) (.slice C g.offers.length c3) (Wd.alloc (.cells #[.int .i64 0, .slice none 0 0, .slice none 0 0, .slice none 0 0, .int .i64 0, .int .i64 0, .int .u64 0] 30)) from ⟨HKD2.out.lw.g.cs7, HKD2.out⟩)
                  refine hK.out _ _ (Or.inr (fun _ => hSK)) ?_
                  clear hK K
                  try simp only [Act.put, List.setIfInBounds_toArray, List.set_cons_zero, List.set_cons_succ]
                  refine one_f (i := 23) (by kernel_rfl) rfl (fun K hK => ?_)
                  generalize Wd.alloc (.cells #[.int .i64 0, .slice none 0 0, .slice none 0 0, .slice none 0 0, .int .i64 0, .int .i64 0, .int .u64 0] 30) = Wz at *
                  generalize Wd.heap.size = q22 at *
                  clear HKD
                  have HKD := HKD2
                  clear HKD2 hSK
                  obtain ⟨z0, z1, z2, z3, z4, z5, z6, _⟩ := HQ.out.cs7
                  have f0 := HQ.out.fr 0
                  have f1 := HQ.out.fr 1
                  have f2 := HQ.out.fr 2
                  have f3 := HQ.out.fr 3
                  have f4 := HQ.out.fr 4
                  have f5 := HQ.out.fr 5
                  have f6 := HQ.out.fr 6
                  go_simp
                  refine hK.out _ _ (Or.inl (by kernel_rfl)) ?_
                  clear hK K
                  try simp only [Act.put, List.setIfInBounds_toArray, List.set_cons_zero, List.set_cons_succ]
                  refine take_y (some 12) (i := 24) (v := ?_) rfl rfl (by kernel_rfl) (by kernel_rfl) (by kernel_rfl) (fun _ _ _ h => h) (Or.inl ⟨by rfl, ?_⟩) ?_
                  rotate_left
                  · intro w _; go_simp; (try with_reducible rfl)
                  try simp only [Act.put, List.setIfInBounds_toArray, List.set_cons_zero, List.set_cons_succ]
                  refine take_y (some 13) (i := 25) (v := ?_) rfl rfl (by kernel_rfl) (by kernel_rfl) (by kernel_rfl) (fun _ _ _ h => h) (Or.inl ⟨by rfl, ?_⟩) ?_
                  rotate_left
                  · intro w _; go_simp; (try with_reducible rfl)
                  try simp only [Act.put, List.setIfInBounds_toArray, List.set_cons_zero, List.set_cons_succ]
                  refine done_f (by kernel_rfl) ?_ _
                  have HKE := Lib.hid ((((((((HKD.out).high (p := ⟨q22, 0, none⟩) q22g q22z (.int .i64 g.number)).high (p := ⟨q22, 1, none⟩) q22g q22z (.slice A g.accs.length c)).high (p := ⟨q22, 2, none⟩) q22g q22z (.slice B g.lines.length c2)).high (p := ⟨q22, 3, none⟩) q22g q22z (.slice D n4 c4)).high (p := ⟨q22, 4, none⟩) q22g q22z (.int .i64 (g.next + 1))).high (p := ⟨q22, 5, none⟩) q22g q22z (.int .i64 g.fees)).high (p := ⟨q22, 6, none⟩) q22g q22z (.int .u64 g.link))
                  have HQ9 := Lib.hid (show HasB q22 (LObj (.int .i64 g.number) (.slice A g.accs.length c) (.slice B g.lines.length c2) (.slice D n4 c4) (.int .i64 (g.next + 1)) (.int .i64 g.fees) (.int .u64 g.link)) _ from set_obj (k := 6) (set_obj (k := 5) (set_obj (k := 4) (set_obj (k := 3) (set_obj (k := 2) (set_obj (k := 1) (set_obj (k := 0) (HQ.out) (.int .i64 g.number)) (.slice A g.accs.length c)) (.slice B g.lines.length c2)) (.slice D n4 c4)) (.int .i64 (g.next + 1))) (.int .i64 g.fees)) (.int .u64 g.link))
                  have HO9 := Lib.hid (show OffAt (fun b => gb < b ∧ b ≠ q22) ((((((((Wz).setCell ⟨q22, 0, none⟩ (.int .i64 g.number)).setCell ⟨q22, 1, none⟩ (.slice A g.accs.length c)).setCell ⟨q22, 2, none⟩ (.slice B g.lines.length c2)).setCell ⟨q22, 3, none⟩ (.slice D n4 c4)).setCell ⟨q22, 4, none⟩ (.int .i64 (g.next + 1))).setCell ⟨q22, 5, none⟩ (.int .i64 g.fees)).setCell ⟨q22, 6, none⟩ (.int .u64 g.link)) (.slice D n4 c4) (g.offers ++ [o]) from RowAt.both HOFF.out (by simp [World.setCell]) (fun j hj hp => (Below.heap_setCell _ ⟨q22, 6, none⟩ (.int .u64 g.link) j hp.2).trans ((Below.heap_setCell _ ⟨q22, 5, none⟩ (.int .i64 g.fees) j hp.2).trans ((Below.heap_setCell _ ⟨q22, 4, none⟩ (.int .i64 (g.next + 1)) j hp.2).trans ((Below.heap_setCell _ ⟨q22, 3, none⟩ (.slice D n4 c4) j hp.2).trans ((Below.heap_setCell _ ⟨q22, 2, none⟩ (.slice B g.lines.length c2) j hp.2).trans ((Below.heap_setCell _ ⟨q22, 1, none⟩ (.slice A g.accs.length c) j hp.2).trans ((Below.heap_setCell _ ⟨q22, 0, none⟩ (.int .i64 g.number) j hp.2).trans ((rfl : Wz.heap[j]? = Wz.heap[j]?))))))))) (fun _ _ h => h))
                  clear z0 z1 z2 z3 z4 z5 z6 f0 f1 f2 f3 f4 f5 f6
                  generalize (((((((Wz).setCell ⟨q22, 0, none⟩ (.int .i64 g.number)).setCell ⟨q22, 1, none⟩ (.slice A g.accs.length c)).setCell ⟨q22, 2, none⟩ (.slice B g.lines.length c2)).setCell ⟨q22, 3, none⟩ (.slice D n4 c4)).setCell ⟨q22, 4, none⟩ (.int .i64 (g.next + 1))).setCell ⟨q22, 5, none⟩ (.int .i64 g.fees)).setCell ⟨q22, 6, none⟩ (.int .u64 g.link) = W9 at *
                  obtain ⟨y0, y1, y2, y3, y4, y5, y6, _⟩ := HQ9.out.cs7
                  obtain ⟨z0, z1, z2, z3, z4, z5, z6, _⟩ := HKE.out.lw.g.cs7
                  have f0 := HKE.out.lw.g.fr 0
                  have f1 := HKE.out.lw.g.fr 1
                  have f2 := HKE.out.lw.g.fr 2
                  have f3 := HKE.out.lw.g.fr 3
                  have f4 := HKE.out.lw.g.fr 4
                  have f5 := HKE.out.lw.g.fr 5
                  have f6 := HKE.out.lw.g.fr 6
                  have HL0 := Lib.hid (HKE.out.lw.store 0 (.int .i64 g.number) (set_obj HKE.out.lw.g (.int .i64 g.number)))
                  have HL1 := Lib.hid (HL0.out.store 1 (.slice A g.accs.length c) (set_obj HL0.out.g (.slice A g.accs.length c)))
                  have HL2 := Lib.hid (HL1.out.store 2 (.slice B g.lines.length c2) (set_obj HL1.out.g (.slice B g.lines.length c2)))
                  have HL3 := Lib.hid (HL2.out.store 3 (.slice D n4 c4) (set_obj HL2.out.g (.slice D n4 c4)))
                  have HL4 := Lib.hid (HL3.out.store 4 (.int .i64 (g.next + 1)) (set_obj HL3.out.g (.int .i64 (g.next + 1))))
                  have HL5 := Lib.hid (HL4.out.store 5 (.int .i64 g.fees) (set_obj HL4.out.g (.int .i64 g.fees)))
                  have HL6 := Lib.hid (HL5.out.store 6 (.int .u64 g.link) (set_obj HL5.out.g (.int .u64 g.link)))
                  have HKF := Lib.hid (show LK w sb gb r0 i W9.heap.size { g with offers := g.offers ++ [o], next := g.next + 1 } (.slice A g.accs.length c) (.slice B g.lines.length c2) (.slice D n4 c4) ((((((((W9).setCell ⟨gb, 0, none⟩ (.int .i64 g.number)).setCell ⟨gb, 1, none⟩ (.slice A g.accs.length c)).setCell ⟨gb, 2, none⟩ (.slice B g.lines.length c2)).setCell ⟨gb, 3, none⟩ (.slice D n4 c4)).setCell ⟨gb, 4, none⟩ (.int .i64 (g.next + 1))).setCell ⟨gb, 5, none⟩ (.int .i64 g.fees)).setCell ⟨gb, 6, none⟩ (.int .u64 g.link)) from ⟨HL6.out, ⟨HKE.out.at_.a.both (by simp [World.setCell]) (fun j hj hp => (Below.heap_setCell _ ⟨gb, 6, none⟩ (.int .u64 g.link) j (by show j ≠ gb; omega)).trans ((Below.heap_setCell _ ⟨gb, 5, none⟩ (.int .i64 g.fees) j (by show j ≠ gb; omega)).trans ((Below.heap_setCell _ ⟨gb, 4, none⟩ (.int .i64 (g.next + 1)) j (by show j ≠ gb; omega)).trans ((Below.heap_setCell _ ⟨gb, 3, none⟩ (.slice D n4 c4) j (by show j ≠ gb; omega)).trans ((Below.heap_setCell _ ⟨gb, 2, none⟩ (.slice B g.lines.length c2) j (by show j ≠ gb; omega)).trans ((Below.heap_setCell _ ⟨gb, 1, none⟩ (.slice A g.accs.length c) j (by show j ≠ gb; omega)).trans ((Below.heap_setCell _ ⟨gb, 0, none⟩ (.int .i64 g.number) j (by show j ≠ gb; omega)).trans ((rfl : W9.heap[j]? = W9.heap[j]?))))))))) (fun j hj hp => ⟨hp.1, hj⟩), HKE.out.at_.l.both (by simp [World.setCell]) (fun j hj hp => (Below.heap_setCell _ ⟨gb, 6, none⟩ (.int .u64 g.link) j (by show j ≠ gb; omega)).trans ((Below.heap_setCell _ ⟨gb, 5, none⟩ (.int .i64 g.fees) j (by show j ≠ gb; omega)).trans ((Below.heap_setCell _ ⟨gb, 4, none⟩ (.int .i64 (g.next + 1)) j (by show j ≠ gb; omega)).trans ((Below.heap_setCell _ ⟨gb, 3, none⟩ (.slice D n4 c4) j (by show j ≠ gb; omega)).trans ((Below.heap_setCell _ ⟨gb, 2, none⟩ (.slice B g.lines.length c2) j (by show j ≠ gb; omega)).trans ((Below.heap_setCell _ ⟨gb, 1, none⟩ (.slice A g.accs.length c) j (by show j ≠ gb; omega)).trans ((Below.heap_setCell _ ⟨gb, 0, none⟩ (.int .i64 g.number) j (by show j ≠ gb; omega)).trans ((rfl : W9.heap[j]? = W9.heap[j]?))))))))) (fun j hj hp => ⟨hp.1, hj⟩), RowAt.both HO9.out (by simp [World.setCell]) (fun j hj hp => (Below.heap_setCell _ ⟨gb, 6, none⟩ (.int .u64 g.link) j (by show j ≠ gb; omega)).trans ((Below.heap_setCell _ ⟨gb, 5, none⟩ (.int .i64 g.fees) j (by show j ≠ gb; omega)).trans ((Below.heap_setCell _ ⟨gb, 4, none⟩ (.int .i64 (g.next + 1)) j (by show j ≠ gb; omega)).trans ((Below.heap_setCell _ ⟨gb, 3, none⟩ (.slice D n4 c4) j (by show j ≠ gb; omega)).trans ((Below.heap_setCell _ ⟨gb, 2, none⟩ (.slice B g.lines.length c2) j (by show j ≠ gb; omega)).trans ((Below.heap_setCell _ ⟨gb, 1, none⟩ (.slice A g.accs.length c) j (by show j ≠ gb; omega)).trans ((Below.heap_setCell _ ⟨gb, 0, none⟩ (.int .i64 g.number) j (by show j ≠ gb; omega)).trans ((rfl : W9.heap[j]? = W9.heap[j]?))))))))) (fun j hj hp => ⟨hp.1, hj⟩)⟩, HOK2.out, HGG.out.acc, HGG.out.len, fun h => (by simp at h), by simp [World.setCell]⟩)
                  clear HL0 HL1 HL2 HL3 HL4 HL5 HL6
                  go_wp2_with fail
                  go_roundw
                  case rel => exact ⟨q0, W9.heap.size, _, _, _, _, by go_num, by omega, HKF⟩
                  case measure => first | (simp [intOf]; omega) | simp [intOf]
              case hend =>
                clear hSK HK20
                intro f W hG hR
                obtain ⟨r3, e3, r30, r31⟩ := (show IntV 1 i (f 3) from hR 3 (by decide))
                obtain ⟨s5, e5, s52⟩ := (show AstV (f 5) from hR 5 (by decide))
                obtain ⟨b7, e7, b72⟩ := (show AstV (f 7) from hR 7 (by decide))
                obtain ⟨x10, e10, x100, x101⟩ := (show IntV 1 90 (f 10) from hR 10 (by decide))
                obtain ⟨x13, e13, x130, x131⟩ := (show IntV 1 7 (f 13) from hR 13 (by decide))
                obtain ⟨x16, e16, x160, x161⟩ := (show IntV 1 5 (f 16) from hR 16 (by decide))
                obtain ⟨n13, rfl⟩ : ∃ n : Nat, x13 = (n : Int) := ⟨x13.toNat, by omega⟩
                obtain ⟨n16, rfl⟩ : ∃ n : Nat, x16 = (n : Int) := ⟨x16.toNat, by omega⟩
                obtain ⟨q22, e22, q22g, q22z, q22b⟩ := (show BoxV gb ZZ W (f 22) from hR 22 (by decide))
                clear hR
                simp only [putL, Act.put, List.setIfInBounds_toArray, List.set_cons_zero, List.set_cons_succ]
                rw [e3, e5, e7, e10, e13, e16, e22]
                generalize f 9 = f9
                generalize f 12 = f12
                generalize f 15 = f15
                have HQB := Lib.hid q22b
                have hqz : q22 < W.heap.size := q22b.lt
                clear q22b
                clear e3 e5 e7 e10 e13 e16 e22
                have HADD := Lib.hid (radd_run (fun b => gb < b ∧ b < ZZ) g r3 s5 b7 x10 n13 n16 _ _ _ W s52 b72 (by omega) (by omega) (by omega) (by omega) (by omega) (by omega) (hG.acc.has r30 (by rw [hG.len]; exact r31)) hG.ok hG.nil hG.at_)
                unfold valG valS at HADD
                have HGG := Lib.hid hG
                have hgW : gb < W.heap.size := hG.lw.g.lt
                clear hG
                refine one_f (i := 17) (by kernel_rfl) rfl (fun K hK => ?_)
                go_simp
                go_at_call 37
                refine HADD.out.mono ?_
                rintro e Wd ⟨hout, hbel⟩
                have HKD := Lib.hid (HGG.out.below hbel)
                have HQ := Lib.hid (HQB.out.below hbel)
                clear HADD
                rcases hout with ⟨er, her, rfl⟩ | ⟨vo', o, rfl, hoff, hok'⟩
                · have q3 : (er == 0) = false := beq_eq_false_iff_ne.2 her
                  clear her
                  go_wp2_with fail
                  refine hK.out _ _ (Or.inl (by kernel_rfl)) ?_
                  clear hK K
                  try simp only [Act.put, List.setIfInBounds_toArray, List.set_cons_zero, List.set_cons_succ]
                  refine take_y (some 85) (i := 18) (v := ?_) rfl rfl (by kernel_rfl) (by kernel_rfl) (by kernel_rfl) (fun _ _ _ h => h) (Or.inl ⟨by rfl, ?_⟩) ?_
                  rotate_left
                  · intro w _; go_simp; (try with_reducible rfl)
                  try simp only [Act.put, List.setIfInBounds_toArray, List.set_cons_zero, List.set_cons_succ]
                  refine take_y (some 104) (i := 19) (v := ?_) rfl rfl (by kernel_rfl) (by kernel_rfl) (by kernel_rfl) (fun _ _ _ h => h) (Or.inl ⟨by rfl, ?_⟩) ?_
                  rotate_left
                  · intro w _; go_simp; (try with_reducible rfl)
                  try simp only [Act.put, List.setIfInBounds_toArray, List.set_cons_zero, List.set_cons_succ]
                  refine take_y (some 105) (i := 20) (v := ?_) rfl rfl (by kernel_rfl) (by kernel_rfl) (by kernel_rfl) (fun _ _ _ h => h) (Or.inl ⟨by rfl, ?_⟩) ?_
                  rotate_left
                  · intro w _; go_simp; (try with_reducible rfl)
                  try simp only [Act.put, List.setIfInBounds_toArray, List.set_cons_zero, List.set_cons_succ]
                  refine take_y (some 106) (i := 21) (v := ?_) rfl rfl (by kernel_rfl) (by kernel_rfl) (by kernel_rfl) (fun _ _ _ h => h) (Or.inl ⟨by rfl, ?_⟩) ?_
                  rotate_left
                  · intro w _; go_simp; (try with_reducible rfl)
                  try simp only [Act.put, List.setIfInBounds_toArray, List.set_cons_zero, List.set_cons_succ]
                  refine one_f (i := 23) (by kernel_rfl) rfl (fun K hK => ?_)
                  obtain ⟨z0, z1, z2, z3, z4, z5, z6, _⟩ := HQ.out.cs7
                  have f0 := HQ.out.fr 0
                  have f1 := HQ.out.fr 1
                  have f2 := HQ.out.fr 2
                  have f3 := HQ.out.fr 3
                  have f4 := HQ.out.fr 4
                  have f5 := HQ.out.fr 5
                  have f6 := HQ.out.fr 6
                  go_simp
                  refine hK.out _ _ (Or.inl (by kernel_rfl)) ?_
                  clear hK K
                  try simp only [Act.put, List.setIfInBounds_toArray, List.set_cons_zero, List.set_cons_succ]
                  refine take_y (some 12) (i := 24) (v := ?_) rfl rfl (by kernel_rfl) (by kernel_rfl) (by kernel_rfl) (fun _ _ _ h => h) (Or.inl ⟨by rfl, ?_⟩) ?_
                  rotate_left
                  · intro w _; go_simp; (try with_reducible rfl)
                  try simp only [Act.put, List.setIfInBounds_toArray, List.set_cons_zero, List.set_cons_succ]
                  refine take_y (some 13) (i := 25) (v := ?_) rfl rfl (by kernel_rfl) (by kernel_rfl) (by kernel_rfl) (fun _ _ _ h => h) (Or.inl ⟨by rfl, ?_⟩) ?_
                  rotate_left
                  · intro w _; go_simp; (try with_reducible rfl)
                  try simp only [Act.put, List.setIfInBounds_toArray, List.set_cons_zero, List.set_cons_succ]
                  refine done_f (by kernel_rfl) ?_ _
                  have HKE := Lib.hid ((((((((HKD.out).high (p := ⟨q22, 0, none⟩) q22g q22z (.int .i64 0)).high (p := ⟨q22, 1, none⟩) q22g q22z (.slice none 0 0)).high (p := ⟨q22, 2, none⟩) q22g q22z (.slice none 0 0)).high (p := ⟨q22, 3, none⟩) q22g q22z (.slice none 0 0)).high (p := ⟨q22, 4, none⟩) q22g q22z (.int .i64 0)).high (p := ⟨q22, 5, none⟩) q22g q22z (.int .i64 0)).high (p := ⟨q22, 6, none⟩) q22g q22z (.int .u64 0))
                  clear z0 z1 z2 z3 z4 z5 z6 f0 f1 f2 f3 f4 f5 f6
                  go_wp2_with fail
                  go_roundw
                  case rel => exact ⟨q0, ZZ, g, _, _, _, by go_num, by omega, HKE⟩
                  case measure => first | (simp [intOf]; omega) | simp [intOf]
                · obtain ⟨D, n4, c4, hv4⟩ : ∃ D n c, vo' = .slice D n c := by
                    obtain ⟨D, c, h1, _⟩ := hoff
                    exact ⟨D, _, c, h1⟩
                  subst hv4
                  have HOFF0 := Lib.hid hoff
                  have HOK2 := Lib.hid hok'
                  clear hoff hok'
                  unfold valG
                  have HOFF := Lib.hid (show OffAt (fun b => gb < b ∧ b ≠ q22) Wd (.slice D n4 c4) (g.offers ++ [o]) from RowAt.imp HOFF0.out (fun b hb hp => ⟨by omega, by omega⟩))
                  go_wp2_with fail
                  refine hK.out _ _ (Or.inl (by kernel_rfl)) ?_
                  clear hK K
                  try simp only [Act.put, List.setIfInBounds_toArray, List.set_cons_zero, List.set_cons_succ]
                  refine take_y (some 85) (i := 18) (v := ?_) rfl rfl (by kernel_rfl) (by kernel_rfl) (by kernel_rfl) (fun _ _ _ h => h) (Or.inl ⟨by rfl, ?_⟩) ?_
                  rotate_left
                  · intro w _; go_simp; (try with_reducible rfl)
                  try simp only [Act.put, List.setIfInBounds_toArray, List.set_cons_zero, List.set_cons_succ]
                  refine take_y (some 104) (i := 19) (v := ?_) rfl rfl (by kernel_rfl) (by kernel_rfl) (by kernel_rfl) (fun _ _ _ h => h) (Or.inl ⟨by rfl, ?_⟩) ?_
                  rotate_left
                  · intro w _; go_simp; (try with_reducible rfl)
                  try simp only [Act.put, List.setIfInBounds_toArray, List.set_cons_zero, List.set_cons_succ]
                  refine take_y (some 105) (i := 20) (v := ?_) rfl rfl (by kernel_rfl) (by kernel_rfl) (by kernel_rfl) (fun _ _ _ h => h) (Or.inl ⟨by rfl, ?_⟩) ?_
                  rotate_left
                  · intro w _; go_simp; (try with_reducible rfl)
                  try simp only [Act.put, List.setIfInBounds_toArray, List.set_cons_zero, List.set_cons_succ]
                  refine take_y (some 106) (i := 21) (v := ?_) rfl rfl (by kernel_rfl) (by kernel_rfl) (by kernel_rfl) (fun _ _ _ h => h) (Or.inl ⟨by rfl, ?_⟩) ?_
                  rotate_left
                  · intro w _; go_simp; (try with_reducible rfl)
                  try simp only [Act.put, List.setIfInBounds_toArray, List.set_cons_zero, List.set_cons_succ]
                  refine one_f (i := 23) (by kernel_rfl) rfl (fun K hK => ?_)
                  obtain ⟨z0, z1, z2, z3, z4, z5, z6, _⟩ := HQ.out.cs7
                  have f0 := HQ.out.fr 0
                  have f1 := HQ.out.fr 1
                  have f2 := HQ.out.fr 2
                  have f3 := HQ.out.fr 3
                  have f4 := HQ.out.fr 4
                  have f5 := HQ.out.fr 5
                  have f6 := HQ.out.fr 6
                  go_simp
                  refine hK.out _ _ (Or.inl (by kernel_rfl)) ?_
                  clear hK K
                  try simp only [Act.put, List.setIfInBounds_toArray, List.set_cons_zero, List.set_cons_succ]
                  refine take_y (some 12) (i := 24) (v := ?_) rfl rfl (by kernel_rfl) (by kernel_rfl) (by kernel_rfl) (fun _ _ _ h => h) (Or.inl ⟨by rfl, ?_⟩) ?_
                  rotate_left
                  · intro w _; go_simp; (try with_reducible rfl)
                  try simp only [Act.put, List.setIfInBounds_toArray, List.set_cons_zero, List.set_cons_succ]
                  refine take_y (some 13) (i := 25) (v := ?_) rfl rfl (by kernel_rfl) (by kernel_rfl) (by kernel_rfl) (fun _ _ _ h => h) (Or.inl ⟨by rfl, ?_⟩) ?_
                  rotate_left
                  · intro w _; go_simp; (try with_reducible rfl)
                  try simp only [Act.put, List.setIfInBounds_toArray, List.set_cons_zero, List.set_cons_succ]
                  refine done_f (by kernel_rfl) ?_ _
                  have HKE := Lib.hid ((((((((HKD.out).high (p := ⟨q22, 0, none⟩) q22g q22z (.int .i64 g.number)).high (p := ⟨q22, 1, none⟩) q22g q22z (.slice A g.accs.length c)).high (p := ⟨q22, 2, none⟩) q22g q22z (.slice B g.lines.length c2)).high (p := ⟨q22, 3, none⟩) q22g q22z (.slice D n4 c4)).high (p := ⟨q22, 4, none⟩) q22g q22z (.int .i64 (g.next + 1))).high (p := ⟨q22, 5, none⟩) q22g q22z (.int .i64 g.fees)).high (p := ⟨q22, 6, none⟩) q22g q22z (.int .u64 g.link))
                  have HQ9 := Lib.hid (show HasB q22 (LObj (.int .i64 g.number) (.slice A g.accs.length c) (.slice B g.lines.length c2) (.slice D n4 c4) (.int .i64 (g.next + 1)) (.int .i64 g.fees) (.int .u64 g.link)) _ from set_obj (k := 6) (set_obj (k := 5) (set_obj (k := 4) (set_obj (k := 3) (set_obj (k := 2) (set_obj (k := 1) (set_obj (k := 0) (HQ.out) (.int .i64 g.number)) (.slice A g.accs.length c)) (.slice B g.lines.length c2)) (.slice D n4 c4)) (.int .i64 (g.next + 1))) (.int .i64 g.fees)) (.int .u64 g.link))
                  have HO9 := Lib.hid (show OffAt (fun b => gb < b ∧ b ≠ q22) ((((((((Wd).setCell ⟨q22, 0, none⟩ (.int .i64 g.number)).setCell ⟨q22, 1, none⟩ (.slice A g.accs.length c)).setCell ⟨q22, 2, none⟩ (.slice B g.lines.length c2)).setCell ⟨q22, 3, none⟩ (.slice D n4 c4)).setCell ⟨q22, 4, none⟩ (.int .i64 (g.next + 1))).setCell ⟨q22, 5, none⟩ (.int .i64 g.fees)).setCell ⟨q22, 6, none⟩ (.int .u64 g.link)) (.slice D n4 c4) (g.offers ++ [o]) from RowAt.both HOFF.out (by simp [World.setCell]) (fun j hj hp => (Below.heap_setCell _ ⟨q22, 6, none⟩ (.int .u64 g.link) j hp.2).trans ((Below.heap_setCell _ ⟨q22, 5, none⟩ (.int .i64 g.fees) j hp.2).trans ((Below.heap_setCell _ ⟨q22, 4, none⟩ (.int .i64 (g.next + 1)) j hp.2).trans ((Below.heap_setCell _ ⟨q22, 3, none⟩ (.slice D n4 c4) j hp.2).trans ((Below.heap_setCell _ ⟨q22, 2, none⟩ (.slice B g.lines.length c2) j hp.2).trans ((Below.heap_setCell _ ⟨q22, 1, none⟩ (.slice A g.accs.length c) j hp.2).trans ((Below.heap_setCell _ ⟨q22, 0, none⟩ (.int .i64 g.number) j hp.2).trans ((rfl : Wd.heap[j]? = Wd.heap[j]?))))))))) (fun _ _ h => h))
                  clear z0 z1 z2 z3 z4 z5 z6 f0 f1 f2 f3 f4 f5 f6
                  generalize (((((((Wd).setCell ⟨q22, 0, none⟩ (.int .i64 g.number)).setCell ⟨q22, 1, none⟩ (.slice A g.accs.length c)).setCell ⟨q22, 2, none⟩ (.slice B g.lines.length c2)).setCell ⟨q22, 3, none⟩ (.slice D n4 c4)).setCell ⟨q22, 4, none⟩ (.int .i64 (g.next + 1))).setCell ⟨q22, 5, none⟩ (.int .i64 g.fees)).setCell ⟨q22, 6, none⟩ (.int .u64 g.link) = W9 at *
                  obtain ⟨y0, y1, y2, y3, y4, y5, y6, _⟩ := HQ9.out.cs7
                  obtain ⟨z0, z1, z2, z3, z4, z5, z6, _⟩ := HKE.out.lw.g.cs7
                  have f0 := HKE.out.lw.g.fr 0
                  have f1 := HKE.out.lw.g.fr 1
                  have f2 := HKE.out.lw.g.fr 2
                  have f3 := HKE.out.lw.g.fr 3
                  have f4 := HKE.out.lw.g.fr 4
                  have f5 := HKE.out.lw.g.fr 5
                  have f6 := HKE.out.lw.g.fr 6
                  have HL0 := Lib.hid (HKE.out.lw.store 0 (.int .i64 g.number) (set_obj HKE.out.lw.g (.int .i64 g.number)))
                  have HL1 := Lib.hid (HL0.out.store 1 (.slice A g.accs.length c) (set_obj HL0.out.g (.slice A g.accs.length c)))
                  have HL2 := Lib.hid (HL1.out.store 2 (.slice B g.lines.length c2) (set_obj HL1.out.g (.slice B g.lines.length c2)))
                  have HL3 := Lib.hid (HL2.out.store 3 (.slice D n4 c4) (set_obj HL2.out.g (.slice D n4 c4)))
                  have HL4 := Lib.hid (HL3.out.store 4 (.int .i64 (g.next + 1)) (set_obj HL3.out.g (.int .i64 (g.next + 1))))
                  have HL5 := Lib.hid (HL4.out.store 5 (.int .i64 g.fees) (set_obj HL4.out.g (.int .i64 g.fees)))
                  have HL6 := Lib.hid (HL5.out.store 6 (.int .u64 g.link) (set_obj HL5.out.g (.int .u64 g.link)))
                  have HKF := Lib.hid (show LK w sb gb r0 i W9.heap.size { g with offers := g.offers ++ [o], next := g.next + 1 } (.slice A g.accs.length c) (.slice B g.lines.length c2) (.slice D n4 c4) ((((((((W9).setCell ⟨gb, 0, none⟩ (.int .i64 g.number)).setCell ⟨gb, 1, none⟩ (.slice A g.accs.length c)).setCell ⟨gb, 2, none⟩ (.slice B g.lines.length c2)).setCell ⟨gb, 3, none⟩ (.slice D n4 c4)).setCell ⟨gb, 4, none⟩ (.int .i64 (g.next + 1))).setCell ⟨gb, 5, none⟩ (.int .i64 g.fees)).setCell ⟨gb, 6, none⟩ (.int .u64 g.link)) from ⟨HL6.out, ⟨HKE.out.at_.a.both (by simp [World.setCell]) (fun j hj hp => (Below.heap_setCell _ ⟨gb, 6, none⟩ (.int .u64 g.link) j (by show j ≠ gb; omega)).trans ((Below.heap_setCell _ ⟨gb, 5, none⟩ (.int .i64 g.fees) j (by show j ≠ gb; omega)).trans ((Below.heap_setCell _ ⟨gb, 4, none⟩ (.int .i64 (g.next + 1)) j (by show j ≠ gb; omega)).trans ((Below.heap_setCell _ ⟨gb, 3, none⟩ (.slice D n4 c4) j (by show j ≠ gb; omega)).trans ((Below.heap_setCell _ ⟨gb, 2, none⟩ (.slice B g.lines.length c2) j (by show j ≠ gb; omega)).trans ((Below.heap_setCell _ ⟨gb, 1, none⟩ (.slice A g.accs.length c) j (by show j ≠ gb; omega)).trans ((Below.heap_setCell _ ⟨gb, 0, none⟩ (.int .i64 g.number) j (by show j ≠ gb; omega)).trans ((rfl : W9.heap[j]? = W9.heap[j]?))))))))) (fun j hj hp => ⟨hp.1, hj⟩), HKE.out.at_.l.both (by simp [World.setCell]) (fun j hj hp => (Below.heap_setCell _ ⟨gb, 6, none⟩ (.int .u64 g.link) j (by show j ≠ gb; omega)).trans ((Below.heap_setCell _ ⟨gb, 5, none⟩ (.int .i64 g.fees) j (by show j ≠ gb; omega)).trans ((Below.heap_setCell _ ⟨gb, 4, none⟩ (.int .i64 (g.next + 1)) j (by show j ≠ gb; omega)).trans ((Below.heap_setCell _ ⟨gb, 3, none⟩ (.slice D n4 c4) j (by show j ≠ gb; omega)).trans ((Below.heap_setCell _ ⟨gb, 2, none⟩ (.slice B g.lines.length c2) j (by show j ≠ gb; omega)).trans ((Below.heap_setCell _ ⟨gb, 1, none⟩ (.slice A g.accs.length c) j (by show j ≠ gb; omega)).trans ((Below.heap_setCell _ ⟨gb, 0, none⟩ (.int .i64 g.number) j (by show j ≠ gb; omega)).trans ((rfl : W9.heap[j]? = W9.heap[j]?))))))))) (fun j hj hp => ⟨hp.1, hj⟩), RowAt.both HO9.out (by simp [World.setCell]) (fun j hj hp => (Below.heap_setCell _ ⟨gb, 6, none⟩ (.int .u64 g.link) j (by show j ≠ gb; omega)).trans ((Below.heap_setCell _ ⟨gb, 5, none⟩ (.int .i64 g.fees) j (by show j ≠ gb; omega)).trans ((Below.heap_setCell _ ⟨gb, 4, none⟩ (.int .i64 (g.next + 1)) j (by show j ≠ gb; omega)).trans ((Below.heap_setCell _ ⟨gb, 3, none⟩ (.slice D n4 c4) j (by show j ≠ gb; omega)).trans ((Below.heap_setCell _ ⟨gb, 2, none⟩ (.slice B g.lines.length c2) j (by show j ≠ gb; omega)).trans ((Below.heap_setCell _ ⟨gb, 1, none⟩ (.slice A g.accs.length c) j (by show j ≠ gb; omega)).trans ((Below.heap_setCell _ ⟨gb, 0, none⟩ (.int .i64 g.number) j (by show j ≠ gb; omega)).trans ((rfl : W9.heap[j]? = W9.heap[j]?))))))))) (fun j hj hp => ⟨hp.1, hj⟩)⟩, HOK2.out, HGG.out.acc, HGG.out.len, fun h => (by simp at h), by simp [World.setCell]⟩)
                  clear HL0 HL1 HL2 HL3 HL4 HL5 HL6
                  go_wp2_with fail
                  go_roundw
                  case rel => exact ⟨q0, W9.heap.size, _, _, _, _, by go_num, by omega, HKF⟩
                  case measure => first | (simp [intOf]; omega) | simp [intOf]

end Go.Proofs.Ytfmdnhhdjjndbaa
