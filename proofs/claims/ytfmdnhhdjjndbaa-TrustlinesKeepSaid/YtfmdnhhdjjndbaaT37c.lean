/- Package trustlines: Find, Check. -/
import Derived.Test.YtfmdnhhdjjndbaaT37b
import Derived.Test.YtfmdnhhdjjndbaaL37
namespace Go.Proofs.Ytfmdnhhdjjndbaa
set_option linter.unusedVariables false
set_option linter.unusedSimpArgs false
open Go.RowKit

set_option maxRecDepth 100000 in
set_option maxHeartbeats 4000000 in
theorem tfind_run (P : Nat → Prop) (L : List Lin) (i : Int) (s : Nat) (v : Value) (w : World) (hs : s ≤ 2) (hL : ∀ (k : Nat) (a : Lin), L[k]? = some a → a.ast ≤ 2) (hlen : L.length ≤ 1000) (h : LinAt P w v L) :
    Calls Try.prog 33 #[v, .int .i64 i, valS s] w fun e w' => e = .returned (.tuple #[valL (getL i s L), .bool (hasL i s L)]) ∧ Below w.heap.size w w' := by
  obtain ⟨A, c, rfl, hc, hm⟩ := h.slice
  have hba := balloc (bref w) (.cells #[.string (codeOf s), .int .i64 (issOf s)] 49)
  have hbb := balloc hba (.cells #[.int .i64 0, .string ⟨#[]⟩, .int .i64 0, .int .i64 0, .int .i64 0] 51)
  have k0 : ((w.alloc (.cells #[.string (codeOf s), .int .i64 (issOf s)] 49)).alloc (.cells #[.int .i64 0, .string ⟨#[]⟩, .int .i64 0, .int .i64 0, .int .i64 0] 51)).heap[w.heap.size + 1]? = some (.cells #[.int .i64 0, .string ⟨#[]⟩, .int .i64 0, .int .i64 0, .int .i64 0] 51 (0, 0)) := by
    have := heap_alloc_new (w.alloc (.cells #[.string (codeOf s), .int .i64 (issOf s)] 49)) (.cells #[.int .i64 0, .string ⟨#[]⟩, .int .i64 0, .int .i64 0, .int .i64 0] 51)
    simpa using this
  have g0 := (World.cell?_alloc_lt (w.alloc (.cells #[.string (codeOf s), .int .i64 (issOf s)] 49)) (.cells #[.int .i64 0, .string ⟨#[]⟩, .int .i64 0, .int .i64 0, .int .i64 0] 51) ⟨w.heap.size, 0, none⟩ (by simp)).trans (row_new w #[.string (codeOf s), .int .i64 (issOf s)] 49 0)
  have g1 := (World.cell?_alloc_lt (w.alloc (.cells #[.string (codeOf s), .int .i64 (issOf s)] 49)) (.cells #[.int .i64 0, .string ⟨#[]⟩, .int .i64 0, .int .i64 0, .int .i64 0] 51) ⟨w.heap.size, 1, none⟩ (by simp)).trans (row_new w #[.string (codeOf s), .int .i64 (issOf s)] 49 1)
  have H1 := Lib.hid (h.below hbb)
  have K0 := Lib.hid k0
  have HB0 := Lib.hid hbb
  have hz1 : w.heap.size + 1 < ((w.alloc (.cells #[.string (codeOf s), .int .i64 (issOf s)] 49)).alloc (.cells #[.int .i64 0, .string ⟨#[]⟩, .int .i64 0, .int .i64 0, .int .i64 0] 51)).heap.size := by simp
  clear k0 hba hbb
  obtain ⟨F, hF⟩ : ∃ F, findL i s L = F := ⟨_, rfl⟩
  have HC := Lib.hid (fun P v W hv => indexL_run P L i s v W hs hL hlen hv)
  unfold valS valK at *
  rcases Nat.lt_or_ge F L.length with hlt | hge
  · obtain ⟨a, ha⟩ : ∃ a, L[F]? = some a := ⟨_, List.getElem?_eq_getElem hlt⟩
    have HR := Lib.hid (show Value.tuple #[valL (getL i s L), .bool (hasL i s L)] = .tuple #[.agg #[.int .i64 a.acc, .string (codeOf a.ast), .int .i64 (issOf a.ast), .int .i64 a.bal, .int .i64 a.lim], .bool true] by
      unfold getL hasL valL
      rw [hF, ha, decide_eq_true hlt]
      rfl)
    have HI := Lib.hid (show atL i s L L.length = (F : Int) by rw [atL_yes (by rw [hF]; exact hlt), hF])
    have HA := Lib.hid ha
    have hf0 : (0 : Int) ≤ (F : Int) := by omega
    clear h hF ha hL
    go_enter Try.func33, Try.ntmps33
    go_wp2_with fail
    refine (HC.out P _ _ H1.out).mono ?_
    rintro e w2 ⟨rfl, hb2⟩
    rw [HI.out]
    obtain ⟨b, off, rfl, hP, hbl, c0, c1, c2, c3, c4⟩ := linBox (H1.out.below hb2) HA.out
    have k2 := (hb2.block (w.heap.size + 1) hz1).trans K0.out
    have f0 : ∀ o, w2.frozen? ⟨w.heap.size + 1, o, none⟩ = false := fun o => by simp [World.frozen?, k2]
    have f1 := f0 0
    have f2 := f0 1
    have f3 := f0 2
    have f4 := f0 3
    have f5 := f0 4
    have e0 : w2.cell? ⟨w.heap.size + 1, 0, none⟩ = some (.int .i64 0) := cell_of_row _ _ 0 _ _ (0, 0) k2
    have e1 : w2.cell? ⟨w.heap.size + 1, 1, none⟩ = some (.string ⟨#[]⟩) := cell_of_row _ _ 1 _ _ (0, 0) k2
    have e2 : w2.cell? ⟨w.heap.size + 1, 2, none⟩ = some (.int .i64 0) := cell_of_row _ _ 2 _ _ (0, 0) k2
    have e3 : w2.cell? ⟨w.heap.size + 1, 3, none⟩ = some (.int .i64 0) := cell_of_row _ _ 3 _ _ (0, 0) k2
    have e4 : w2.cell? ⟨w.heap.size + 1, 4, none⟩ = some (.int .i64 0) := cell_of_row _ _ 4 _ _ (0, 0) k2
    have HK2 := Lib.hid k2
    have HB2 := Lib.hid (bset (bset (bset (bset (bset (bstep HB0.out hb2) (p := ⟨w.heap.size + 1, 0, none⟩) (by simp) (.int .i64 a.acc)) (p := ⟨w.heap.size + 1, 1, none⟩) (by simp) (.string (codeOf a.ast))) (p := ⟨w.heap.size + 1, 2, none⟩) (by simp) (.int .i64 (issOf a.ast))) (p := ⟨w.heap.size + 1, 3, none⟩) (by simp) (.int .i64 a.bal)) (p := ⟨w.heap.size + 1, 4, none⟩) (by simp) (.int .i64 a.lim))
    clear f0 hb2 k2
    go_wp2_with fail
    refine bodyPost_ret (v := .tuple #[.agg #[.int .i64 a.acc, .string (codeOf a.ast), .int .i64 (issOf a.ast), .int .i64 a.bal, .int .i64 a.lim], .bool true]) ?_ rfl ⟨by rw [HR.out], HB2.out⟩
    simp [results, Try.results33, go_sem, e0, e1, e2, e3, e4, HK2.out]
  · have HR := Lib.hid (show Value.tuple #[valL (getL i s L), .bool (hasL i s L)] = .tuple #[.agg #[.int .i64 0, .string ⟨#[]⟩, .int .i64 0, .int .i64 0, .int .i64 0], .bool false] by
      unfold getL hasL valL
      rw [hF, List.getElem?_eq_none hge, decide_eq_false (by omega)]
      rfl)
    have HI := Lib.hid (show atL i s L L.length = (-1 : Int) by rw [atL_no (by rw [hF]; omega)])
    clear h hF hL
    go_enter Try.func33, Try.ntmps33
    go_wp2_with fail
    refine (HC.out P _ _ H1.out).mono ?_
    rintro e w2 ⟨rfl, hb2⟩
    rw [HI.out]
    have k2 := (hb2.block (w.heap.size + 1) hz1).trans K0.out
    have f0 : ∀ o, w2.frozen? ⟨w.heap.size + 1, o, none⟩ = false := fun o => by simp [World.frozen?, k2]
    have f1 := f0 0
    have f2 := f0 1
    have f3 := f0 2
    have f4 := f0 3
    have f5 := f0 4
    have e0 : w2.cell? ⟨w.heap.size + 1, 0, none⟩ = some (.int .i64 0) := cell_of_row _ _ 0 _ _ (0, 0) k2
    have e1 : w2.cell? ⟨w.heap.size + 1, 1, none⟩ = some (.string ⟨#[]⟩) := cell_of_row _ _ 1 _ _ (0, 0) k2
    have e2 : w2.cell? ⟨w.heap.size + 1, 2, none⟩ = some (.int .i64 0) := cell_of_row _ _ 2 _ _ (0, 0) k2
    have e3 : w2.cell? ⟨w.heap.size + 1, 3, none⟩ = some (.int .i64 0) := cell_of_row _ _ 3 _ _ (0, 0) k2
    have e4 : w2.cell? ⟨w.heap.size + 1, 4, none⟩ = some (.int .i64 0) := cell_of_row _ _ 4 _ _ (0, 0) k2
    have HK2 := Lib.hid k2
    have HB2 := Lib.hid (bset (bset (bset (bset (bset (bstep HB0.out hb2) (p := ⟨w.heap.size + 1, 0, none⟩) (by simp) (.int .i64 0)) (p := ⟨w.heap.size + 1, 1, none⟩) (by simp) (.string ⟨#[]⟩)) (p := ⟨w.heap.size + 1, 2, none⟩) (by simp) (.int .i64 0)) (p := ⟨w.heap.size + 1, 3, none⟩) (by simp) (.int .i64 0)) (p := ⟨w.heap.size + 1, 4, none⟩) (by simp) (.int .i64 0))
    clear f0 hb2 k2
    go_wp2_with fail
    refine bodyPost_ret (v := .tuple #[.agg #[.int .i64 0, .string ⟨#[]⟩, .int .i64 0, .int .i64 0, .int .i64 0], .bool false]) ?_ rfl ⟨by rw [HR.out], HB2.out⟩
    simp [results, Try.results33, go_sem, e0, e1, e2, e3, e4, HK2.out]

theorem less_eqA {x y : Nat} (hx : x ≤ 2) (hy : y ≤ 2) : lessA x y = lessR x y := by
  match x, y, hx, hy with
  | 0, 0, _, _ | 0, 1, _, _ | 0, 2, _, _ | 1, 0, _, _ | 1, 1, _, _ | 1, 2, _, _ | 2, 0, _, _ | 2, 1, _, _ | 2, 2, _, _ => decide +kernel

set_option maxRecDepth 100000 in
set_option maxHeartbeats 4000000 in
theorem tright_run (P : Nat → Prop) (accs : List Acc) (l : Lin) (v : Value) (w : World) (hacc : AccsOk accs) (hl : LinG accs l) (hA : AccAt P w v accs) :
    Calls Try.prog 55 #[.agg #[.int .i64 l.acc, .string (codeOf l.ast), .int .i64 (issOf l.ast), .int .i64 l.bal, .int .i64 l.lim], v] w fun e w' => e = .returned (.bool true) ∧ Below w.heap.size w w' := by
  obtain ⟨A, c, rfl, hc, hm⟩ := hA.slice
  have hba := balloc (bref w) (.cells #[.int .i64 l.acc, .string (codeOf l.ast), .int .i64 (issOf l.ast), .int .i64 l.bal, .int .i64 l.lim] 51)
  have HX0 := Lib.hid (box5 w 51 (.int .i64 l.acc) (.string (codeOf l.ast)) (.int .i64 (issOf l.ast)) (.int .i64 l.bal) (.int .i64 l.lim))
  have HB0 := Lib.hid hba
  have HA0 := Lib.hid (hA.below hba)
  have hal := hacc.len
  have HF := Lib.hid (fun W hW => afind_run P accs l.acc (.slice A accs.length c) W (by omega) hW)
  rw [hl.has] at HF
  unfold valA at HF
  have HFO := Lib.hid (fun W => foreign_run l.acc l.ast W hl.a2)
  rw [show (l.ast != 0 && issOf l.ast != l.acc) = true by
    have h1 := hl.a1
    have h2 := hl.iss
    simp [h2]
    omega] at HFO
  unfold valS at HFO
  generalize getA l.acc accs = fa at HF
  have hv := okI_yes hl.m0 hl.m1
  have q1 : decide (0 ≤ l.bal) = true := decide_eq_true hl.b0
  have q2 : decide (l.bal ≤ l.lim) = true := decide_eq_true hl.b1
  clear hA hba hacc hl hm hal
  go_enter Try.func55, Try.ntmps55
  go_wp2_with fail
  refine (HF.out _ HA0.out).mono ?_
  rintro e w2 ⟨rfl, hb2⟩
  have HX2 := Lib.hid ((HX0.out.below hb2).alloc (.cells #[.int .i64 fa.id, .int .i64 fa.bal, .int .i64 fa.seq] 34))
  have HB2 := Lib.hid (balloc (bstep HB0.out hb2) (.cells #[.int .i64 fa.id, .int .i64 fa.bal, .int .i64 fa.seq] 34))
  clear hb2
  go_upto_region 2 with fail
  generalize w2.alloc (.cells #[.int .i64 fa.id, .int .i64 fa.bal, .int .i64 fa.seq] 34) = W3 at *
  obtain ⟨x0, x1, x2, x3, x4, _⟩ := HX2.out
  go_wp2_with fail
  refine (HFO.out _).mono ?_
  rintro e w4 ⟨rfl, hb4⟩
  have HX4 := Lib.hid (HX2.out.below hb4)
  have HB4 := Lib.hid (bstep HB2.out hb4)
  clear hb4 x0 x1 x2 x3 x4
  obtain ⟨x0, x1, x2, x3, x4, _⟩ := HX4.out
  go_wp2_with (go_at_call 42; refine (valid_any _ _).mono ?_; rintro e w2 ⟨rfl, rfl⟩)
  go_ret
  exact ⟨rfl, HB4.out⟩

set_option maxRecDepth 100000 in
set_option maxHeartbeats 8000000 in
theorem tcheck_run (P Q : Nat → Prop) (accs : List Acc) (L : List Lin) (v va : Value) (w : World) (hacc : AccsOk accs) (hok : LinesOk accs L) (h : LinAt P w v L) (hA : AccAt Q w va accs) :
    Calls Try.prog 31 #[v, va] w fun e w' => e = .returned (.int .i64 0) ∧ Below w.heap.size w w' := by
  obtain ⟨A, c, rfl, hc, hm⟩ := h.slice
  obtain ⟨A2, c2, rfl, hc2, hm2⟩ := hA.slice
  have hlen := hok.len
  have H := Lib.hid h
  have HCK := Lib.hid (acheck_run Q accs _ w hacc hA)
  have HRT := Lib.hid (fun (l : Lin) (hl : LinG accs l) W (hW : Below w.heap.size w W) => tright_run Q accs l _ W hacc hl (hA.below hW))
  have HOK := Lib.hid hok
  obtain ⟨n, hn⟩ : ∃ n, L.length = n := ⟨_, rfl⟩
  rw [hn] at hlen H hc ⊢
  have HN := Lib.hid hn
  clear h hA hacc hok hn
  go_enter Try.func31, Try.ntmps31
  go_wp2_with fail
  refine HCK.out.mono ?_
  rintro e w1 ⟨rfl, hb1⟩
  have HB0 := Lib.hid hb1
  clear hb1
  go_wp2_with fail
  go_loopw [18] (fun t W => ∃ k : Nat, k ≤ n ∧ t = .int .i64 k ∧ Hid (Below w.heap.size w W)) (fun t _ => n - (intOf t).toNat)
  case atStart => exact ⟨0, by omega, rfl, HB0⟩
  case round =>
    obtain ⟨k, hk, rfl, hB⟩ := hrel
    by_cases hlt : k < n
    · obtain ⟨a, ha⟩ : ∃ a, L[k]? = some a := ⟨_, List.getElem?_eq_getElem (by rw [HN.out]; exact hlt)⟩
      obtain ⟨b, off, rfl, hP, hbl, d0, d1, d2, d3, d4⟩ := linBox (H.out.below hB.out) ha
      have HRI := Lib.hid (fun W hW => HRT.out a (HOK.out.each k a ha) W hW)
      have HA := Lib.hid ha
      have ha2 := (HOK.out.each k a ha).a2
      clear ha
      have HB1 := Lib.hid (balloc hB.out (.cells #[.int .i64 a.acc, .string (codeOf a.ast), .int .i64 (issOf a.ast), .int .i64 a.bal, .int .i64 a.lim] 51))
      have HBX := Lib.hid (box5 wr 51 (.int .i64 a.acc) (.string (codeOf a.ast)) (.int .i64 (issOf a.ast)) (.int .i64 a.bal) (.int .i64 a.lim))
      go_upto_region 9 with fail
      clear d0 d1 d2 d3 d4
      generalize wr.alloc (.cells #[.int .i64 a.acc, .string (codeOf a.ast), .int .i64 (issOf a.ast), .int .i64 a.bal, .int .i64 a.lim] 51) = W1 at *
      generalize wr.heap.size = tb at *
      rcases Nat.eq_zero_or_pos k with hk0 | hpos
      · have q4 : decide (0 < k) = false := decide_eq_false (by omega)
        have HK := Lib.hid hk0
        clear hk0
        refine wp_region_held_drew (S := (fun W => Cs [(⟨tb, 0, none⟩, .int .i64 a.acc), (⟨tb, 1, none⟩, .string (codeOf a.ast)), (⟨tb, 2, none⟩, .int .i64 (issOf a.ast)), (⟨tb, 3, none⟩, .int .i64 a.bal), (⟨tb, 4, none⟩, .int .i64 a.lim)] W ∧ Below w.heap.size w W)) (by kernel_rfl) (⟨Cs.drew HBX.out, bdrew HB1.out⟩) (fun hSK => ?_)
        refine take_d (some 23) (i := 0) (v := ?_) rfl rfl (by kernel_rfl) (by kernel_rfl) (by kernel_rfl) (fun _ _ _ h => h) (Or.inl ⟨by rfl, ?_⟩) (by assumption) ?_
        rotate_left
        · intro w hSw; (dsimp only [Cs] at hSw); go_simp; (try with_reducible rfl)
        try simp only [Act.put, List.setIfInBounds_toArray, List.set_cons_zero, List.set_cons_succ]
        refine take_d (some 24) (i := 1) (v := ?_) rfl rfl (by kernel_rfl) (by kernel_rfl) (by kernel_rfl) (fun _ _ _ h => h) (Or.inl ⟨by rfl, ?_⟩) (by assumption) ?_
        rotate_left
        · intro w hSw; (dsimp only [Cs] at hSw); go_simp; (try with_reducible rfl)
        try simp only [Act.put, List.setIfInBounds_toArray, List.set_cons_zero, List.set_cons_succ]
        refine wpAnyH_ready (rs := [2]) (by kernel_rfl) (by simp) ?_
        refine AllReadyH.cons rfl (fun K hK => ?_) AllReadyH.nil
        go_simp
        refine (HRI.out _ hSK.2).mono ?_
        rintro e wK ⟨rfl, hbK⟩
        go_wp2_with fail
        refine hK.out _ _ ?_ (fun hHeld => ?_)
        · exact ⟨Cs.below hSK.1 hbK, bstep hSK.2 hbK⟩
        clear hSK
        have hSK := hHeld
        clear hHeld
        clear hK K
        try simp only [Act.put, List.setIfInBounds_toArray, List.set_cons_zero, List.set_cons_succ]
        refine take_d (some 26) (i := 3) (v := ?_) rfl rfl (by kernel_rfl) (by kernel_rfl) (by kernel_rfl) (fun _ _ _ h => h) (Or.inl ⟨by rfl, ?_⟩) (by assumption) ?_
        rotate_left
        · intro w hSw; (dsimp only [Cs] at hSw); go_simp; (try with_reducible rfl)
        try simp only [Act.put, List.setIfInBounds_toArray, List.set_cons_zero, List.set_cons_succ]
        refine take_d (some 27) (i := 4) (v := ?_) rfl rfl (by kernel_rfl) (by kernel_rfl) (by kernel_rfl) (fun _ _ _ h => h) (Or.inl ⟨by rfl, ?_⟩) (by assumption) ?_
        rotate_left
        · intro w hSw; (dsimp only [Cs] at hSw); go_simp; (try with_reducible rfl)
        try simp only [Act.put, List.setIfInBounds_toArray, List.set_cons_zero, List.set_cons_succ]
        refine take_d (some 28) (i := 5) (v := ?_) rfl rfl (by kernel_rfl) (by kernel_rfl) (by kernel_rfl) (fun _ _ _ h => h) (Or.inl ⟨by rfl, ?_⟩) (by assumption) ?_
        rotate_left
        · intro w hSw; (dsimp only [Cs] at hSw); go_simp; (try with_reducible rfl)
        try simp only [Act.put, List.setIfInBounds_toArray, List.set_cons_zero, List.set_cons_succ]
        refine take_d (some 29) (i := 6) (v := ?_) rfl rfl (by kernel_rfl) (by kernel_rfl) (by kernel_rfl) (fun _ _ _ h => h) (Or.inl ⟨by rfl, ?_⟩) (by assumption) ?_
        rotate_left
        · intro w hSw; (dsimp only [Cs] at hSw); go_simp; (try with_reducible rfl)
        try simp only [Act.put, List.setIfInBounds_toArray, List.set_cons_zero, List.set_cons_succ]
        refine take_d (some 30) (i := 7) (v := ?_) rfl rfl (by kernel_rfl) (by kernel_rfl) (by kernel_rfl) (fun _ _ _ h => h) (Or.inl ⟨by rfl, ?_⟩) (by assumption) ?_
        rotate_left
        · intro w hSw; (dsimp only [Cs] at hSw); go_simp; (try with_reducible rfl)
        try simp only [Act.put, List.setIfInBounds_toArray, List.set_cons_zero, List.set_cons_succ]
        refine take_d (some 31) (i := 8) (v := undef) rfl rfl (by kernel_rfl) (by kernel_rfl) (by kernel_rfl) (fun _ _ _ h => h) (Or.inr ⟨by rfl, rfl⟩) (by assumption) ?_
        try simp only [Act.put, List.setIfInBounds_toArray, List.set_cons_zero, List.set_cons_succ]
        refine take_d (some 32) (i := 9) (v := undef) rfl rfl (by kernel_rfl) (by kernel_rfl) (by kernel_rfl) (fun _ _ _ h => h) (Or.inr ⟨by rfl, rfl⟩) (by assumption) ?_
        try simp only [Act.put, List.setIfInBounds_toArray, List.set_cons_zero, List.set_cons_succ]
        refine take_d (some 33) (i := 10) (v := undef) rfl rfl (by kernel_rfl) (by kernel_rfl) (by kernel_rfl) (fun _ _ _ h => h) (Or.inr ⟨by rfl, rfl⟩) (by assumption) ?_
        try simp only [Act.put, List.setIfInBounds_toArray, List.set_cons_zero, List.set_cons_succ]
        refine take_d (some 34) (i := 11) (v := undef) rfl rfl (by kernel_rfl) (by kernel_rfl) (by kernel_rfl) (fun _ _ _ h => h) (Or.inr ⟨by rfl, rfl⟩) (by assumption) ?_
        try simp only [Act.put, List.setIfInBounds_toArray, List.set_cons_zero, List.set_cons_succ]
        refine take_d (some 35) (i := 12) (v := undef) rfl rfl (by kernel_rfl) (by kernel_rfl) (by kernel_rfl) (fun _ _ _ h => h) (Or.inr ⟨by rfl, rfl⟩) (by assumption) ?_
        try simp only [Act.put, List.setIfInBounds_toArray, List.set_cons_zero, List.set_cons_succ]
        refine take_d (some 36) (i := 13) (v := undef) rfl rfl (by kernel_rfl) (by kernel_rfl) (by kernel_rfl) (fun _ _ _ h => h) (Or.inr ⟨by rfl, rfl⟩) (by assumption) ?_
        try simp only [Act.put, List.setIfInBounds_toArray, List.set_cons_zero, List.set_cons_succ]
        refine take_d (some 37) (i := 14) (v := undef) rfl rfl (by kernel_rfl) (by kernel_rfl) (by kernel_rfl) (fun _ _ _ h => h) (Or.inr ⟨by rfl, rfl⟩) (by assumption) ?_
        try simp only [Act.put, List.setIfInBounds_toArray, List.set_cons_zero, List.set_cons_succ]
        refine take_d (some 38) (i := 15) (v := undef) rfl rfl (by kernel_rfl) (by kernel_rfl) (by kernel_rfl) (fun _ _ _ h => h) (Or.inr ⟨by rfl, rfl⟩) (by assumption) ?_
        try simp only [Act.put, List.setIfInBounds_toArray, List.set_cons_zero, List.set_cons_succ]
        refine take_d (some 39) (i := 16) (v := undef) rfl rfl (by kernel_rfl) (by kernel_rfl) (by kernel_rfl) (fun _ _ _ h => h) (Or.inr ⟨by rfl, rfl⟩) (by assumption) ?_
        try simp only [Act.put, List.setIfInBounds_toArray, List.set_cons_zero, List.set_cons_succ]
        refine take_d (some 40) (i := 17) (v := undef) rfl rfl (by kernel_rfl) (by kernel_rfl) (by kernel_rfl) (fun _ _ _ h => h) (Or.inr ⟨by rfl, rfl⟩) (by assumption) ?_
        try simp only [Act.put, List.setIfInBounds_toArray, List.set_cons_zero, List.set_cons_succ]
        refine take_d (some 41) (i := 18) (v := ?_) rfl rfl (by kernel_rfl) (by kernel_rfl) (by kernel_rfl) (fun _ _ _ h => h) (Or.inl ⟨by rfl, ?_⟩) (by assumption) ?_
        rotate_left
        · intro w hSw; (dsimp only [Cs] at hSw); go_simp; (try with_reducible rfl)
        try simp only [Act.put, List.setIfInBounds_toArray, List.set_cons_zero, List.set_cons_succ]
        refine take_d (some 42) (i := 19) (v := ?_) rfl rfl (by kernel_rfl) (by kernel_rfl) (by kernel_rfl) (fun _ _ _ h => h) (Or.inl ⟨by rfl, ?_⟩) (by assumption) ?_
        rotate_left
        · intro w hSw; (dsimp only [Cs] at hSw); go_simp; (try with_reducible rfl)
        try simp only [Act.put, List.setIfInBounds_toArray, List.set_cons_zero, List.set_cons_succ]
        refine wpAnyH_done (by kernel_rfl) ?_ _
        have HB2 := Lib.hid hSK.2
        clear hSK
        go_wp2_with fail
        go_roundw
        case rel => exact ⟨k + 1, by omega, by go_num, HB2⟩
        case measure => simp [intOf]; omega
      · obtain ⟨q, rfl⟩ : ∃ q, k = q + 1 := ⟨k - 1, by omega⟩
        obtain ⟨p, hp⟩ : ∃ p, L[q]? = some p := ⟨_, List.getElem?_eq_getElem (by rw [HN.out]; omega)⟩
        obtain ⟨b', off', hA', hP', hbl', c0, c1, c2', c3, c4⟩ := linBox (H.out.below HB1.out) hp
        simp only [Option.some.injEq, Addr.mk.injEq] at hA'
        obtain ⟨rfl, rfl, _⟩ := hA'
        have hasc := HOK.out.asc q p a hp HA.out
        have hp2 := (HOK.out.each q p hp).a2
        have HKP := Lib.hid (fun W => keyOf_run p W)
        have HKA := Lib.hid (fun W => keyOf_run a W)
        have HKB := Lib.hid (fun W => kbefore_run p.acc a.acc p.ast a.ast W hp2 ha2)
        rw [less_eqA hp2 ha2, show (decide (p.acc < a.acc) || (p.acc == a.acc && lessR p.ast a.ast)) = true from hasc] at HKB
        unfold valL valK at HKP HKA
        unfold valK at HKB
        have q4 : decide ((0 : Int) < (q : Int) + 1) = true := decide_eq_true (by omega)
        have q6 : IntKind.i64.wrap (q : Int) = (q : Int) := IntWalk.i64_in _ (by omega)
        have q7 : (0 : Int) ≤ (q : Int) := by omega
        have q8 : (q : Int) < (n : Int) := by omega
        have hS := Lib.hid (Cs.drew (Cs.app HBX.out (show Cs [(⟨b, off + q * 5, none⟩, .int .i64 p.acc), (⟨b, off + q * 5 + 1, none⟩, .string (codeOf p.ast)), (⟨b, off + q * 5 + 2, none⟩, .int .i64 (issOf p.ast)), (⟨b, off + q * 5 + 3, none⟩, .int .i64 p.bal), (⟨b, off + q * 5 + 4, none⟩, .int .i64 p.lim)] W1 from ⟨c0, c1, c2', c3, c4, trivial⟩)))
        clear hpos hp c0 c1 c2' c3 c4 hasc
        refine wp_region_held_drew (S := (fun W => Cs [(⟨tb, 0, none⟩, .int .i64 a.acc), (⟨tb, 1, none⟩, .string (codeOf a.ast)), (⟨tb, 2, none⟩, .int .i64 (issOf a.ast)), (⟨tb, 3, none⟩, .int .i64 a.bal), (⟨tb, 4, none⟩, .int .i64 a.lim), (⟨b, off + q * 5, none⟩, .int .i64 p.acc), (⟨b, off + q * 5 + 1, none⟩, .string (codeOf p.ast)), (⟨b, off + q * 5 + 2, none⟩, .int .i64 (issOf p.ast)), (⟨b, off + q * 5 + 3, none⟩, .int .i64 p.bal), (⟨b, off + q * 5 + 4, none⟩, .int .i64 p.lim)] W ∧ Below w.heap.size w W)) (by kernel_rfl) (⟨hS.out, bdrew HB1.out⟩) (fun hSK => ?_)
        refine take_d (some 23) (i := 0) (v := ?_) rfl rfl (by kernel_rfl) (by kernel_rfl) (by kernel_rfl) (fun _ _ _ h => h) (Or.inl ⟨by rfl, ?_⟩) (by assumption) ?_
        rotate_left
        · intro w hSw; (dsimp only [Cs] at hSw); go_simp; (try with_reducible rfl)
        try simp only [Act.put, List.setIfInBounds_toArray, List.set_cons_zero, List.set_cons_succ]
        refine take_d (some 24) (i := 1) (v := ?_) rfl rfl (by kernel_rfl) (by kernel_rfl) (by kernel_rfl) (fun _ _ _ h => h) (Or.inl ⟨by rfl, ?_⟩) (by assumption) ?_
        rotate_left
        · intro w hSw; (dsimp only [Cs] at hSw); go_simp; (try with_reducible rfl)
        try simp only [Act.put, List.setIfInBounds_toArray, List.set_cons_zero, List.set_cons_succ]
        refine wpAnyH_ready (rs := [2]) (by kernel_rfl) (by simp) ?_
        refine AllReadyH.cons rfl (fun K hK => ?_) AllReadyH.nil
        go_simp
        refine (HRI.out _ hSK.2).mono ?_
        rintro e wK ⟨rfl, hbK⟩
        go_wp2_with fail
        refine hK.out _ _ ?_ (fun hHeld => ?_)
        · exact ⟨Cs.below hSK.1 hbK, bstep hSK.2 hbK⟩
        clear hSK
        have hSK := hHeld
        clear hHeld
        clear hK K
        try simp only [Act.put, List.setIfInBounds_toArray, List.set_cons_zero, List.set_cons_succ]
        refine take_d (some 26) (i := 3) (v := ?_) rfl rfl (by kernel_rfl) (by kernel_rfl) (by kernel_rfl) (fun _ _ _ h => h) (Or.inl ⟨by rfl, ?_⟩) (by assumption) ?_
        rotate_left
        · intro w hSw; (dsimp only [Cs] at hSw); go_simp; (try with_reducible rfl)
        try simp only [Act.put, List.setIfInBounds_toArray, List.set_cons_zero, List.set_cons_succ]
        refine take_d (some 27) (i := 4) (v := ?_) rfl rfl (by kernel_rfl) (by kernel_rfl) (by kernel_rfl) (fun _ _ _ h => h) (Or.inl ⟨by rfl, ?_⟩) (by assumption) ?_
        rotate_left
        · intro w hSw; (dsimp only [Cs] at hSw); go_simp; (try with_reducible rfl)
        try simp only [Act.put, List.setIfInBounds_toArray, List.set_cons_zero, List.set_cons_succ]
        refine take_d (some 28) (i := 5) (v := ?_) rfl rfl (by kernel_rfl) (by kernel_rfl) (by kernel_rfl) (fun _ _ _ h => h) (Or.inl ⟨by rfl, ?_⟩) (by assumption) ?_
        rotate_left
        · intro w hSw; (dsimp only [Cs] at hSw); go_simp; (try with_reducible rfl)
        try simp only [Act.put, List.setIfInBounds_toArray, List.set_cons_zero, List.set_cons_succ]
        refine take_d (some 29) (i := 6) (v := ?_) rfl rfl (by kernel_rfl) (by kernel_rfl) (by kernel_rfl) (fun _ _ _ h => h) (Or.inl ⟨by rfl, ?_⟩) (by assumption) ?_
        rotate_left
        · intro w hSw; (dsimp only [Cs] at hSw); go_simp; (try with_reducible rfl)
        try simp only [Act.put, List.setIfInBounds_toArray, List.set_cons_zero, List.set_cons_succ]
        refine take_d (some 30) (i := 7) (v := ?_) rfl rfl (by kernel_rfl) (by kernel_rfl) (by kernel_rfl) (fun _ _ _ h => h) (Or.inl ⟨by rfl, ?_⟩) (by assumption) ?_
        rotate_left
        · intro w hSw; (dsimp only [Cs] at hSw); go_simp; (try with_reducible rfl)
        try simp only [Act.put, List.setIfInBounds_toArray, List.set_cons_zero, List.set_cons_succ]
        refine take_d (some 31) (i := 8) (v := ?_) rfl rfl (by kernel_rfl) (by kernel_rfl) (by kernel_rfl) (fun _ _ _ h => h) (Or.inl ⟨by rfl, ?_⟩) (by assumption) ?_
        rotate_left
        · intro w hSw; (dsimp only [Cs] at hSw); go_simp; (try with_reducible rfl)
        try simp only [Act.put, List.setIfInBounds_toArray, List.set_cons_zero, List.set_cons_succ]
        refine take_d (some 32) (i := 9) (v := ?_) rfl rfl (by kernel_rfl) (by kernel_rfl) (by kernel_rfl) (fun _ _ _ h => h) (Or.inl ⟨by rfl, ?_⟩) (by assumption) ?_
        rotate_left
        · intro w hSw; (dsimp only [Cs] at hSw); go_simp; (try with_reducible rfl)
        try simp only [Act.put, List.setIfInBounds_toArray, List.set_cons_zero, List.set_cons_succ]
        refine take_d (some 33) (i := 10) (v := ?_) rfl rfl (by kernel_rfl) (by kernel_rfl) (by kernel_rfl) (fun _ _ _ h => h) (Or.inl ⟨by rfl, ?_⟩) (by assumption) ?_
        rotate_left
        · intro w hSw; (dsimp only [Cs] at hSw); go_simp; (try with_reducible rfl)
        try simp only [Act.put, List.setIfInBounds_toArray, List.set_cons_zero, List.set_cons_succ]
        refine take_d (some 34) (i := 11) (v := ?_) rfl rfl (by kernel_rfl) (by kernel_rfl) (by kernel_rfl) (fun _ _ _ h => h) (Or.inl ⟨by rfl, ?_⟩) (by assumption) ?_
        rotate_left
        · intro w hSw; (dsimp only [Cs] at hSw); go_simp; (try with_reducible rfl)
        try simp only [Act.put, List.setIfInBounds_toArray, List.set_cons_zero, List.set_cons_succ]
        refine take_d (some 35) (i := 12) (v := ?_) rfl rfl (by kernel_rfl) (by kernel_rfl) (by kernel_rfl) (fun _ _ _ h => h) (Or.inl ⟨by rfl, ?_⟩) (by assumption) ?_
        rotate_left
        · intro w hSw; (dsimp only [Cs] at hSw); go_simp; (try with_reducible rfl)
        try simp only [Act.put, List.setIfInBounds_toArray, List.set_cons_zero, List.set_cons_succ]
        refine take_d (some 37) (i := 14) (v := ?_) rfl rfl (by kernel_rfl) (by kernel_rfl) (by kernel_rfl) (fun _ _ _ h => h) (Or.inl ⟨by rfl, ?_⟩) (by assumption) ?_
        rotate_left
        · intro w hSw; (dsimp only [Cs] at hSw); go_simp; (try with_reducible rfl)
        try simp only [Act.put, List.setIfInBounds_toArray, List.set_cons_zero, List.set_cons_succ]
        refine wpAnyH_ready (rs := [13]) (by kernel_rfl) (by simp) ?_
        refine AllReadyH.cons rfl (fun K hK => ?_) AllReadyH.nil
        go_simp
        refine (HKP.out _).mono ?_
        rintro e wK ⟨rfl, hbK⟩
        go_wp2_with fail
        refine hK.out _ _ ?_ (fun hHeld => ?_)
        · exact ⟨Cs.below hSK.1 hbK, bstep hSK.2 hbK⟩
        clear hSK
        have hSK := hHeld
        clear hHeld
        clear hK K
        try simp only [Act.put, List.setIfInBounds_toArray, List.set_cons_zero, List.set_cons_succ]
        refine wpAnyH_ready (rs := [15]) (by kernel_rfl) (by simp) ?_
        refine AllReadyH.cons rfl (fun K hK => ?_) AllReadyH.nil
        go_simp
        refine (HKA.out _).mono ?_
        rintro e wK ⟨rfl, hbK⟩
        go_wp2_with fail
        refine hK.out _ _ ?_ (fun hHeld => ?_)
        · exact ⟨Cs.below hSK.1 hbK, bstep hSK.2 hbK⟩
        clear hSK
        have hSK := hHeld
        clear hHeld
        clear hK K
        try simp only [Act.put, List.setIfInBounds_toArray, List.set_cons_zero, List.set_cons_succ]
        refine wpAnyH_ready (rs := [16]) (by kernel_rfl) (by simp) ?_
        refine AllReadyH.cons rfl (fun K hK => ?_) AllReadyH.nil
        go_simp
        refine (HKB.out _).mono ?_
        rintro e wK ⟨rfl, hbK⟩
        go_wp2_with fail
        refine hK.out _ _ ?_ (fun hHeld => ?_)
        · exact ⟨Cs.below hSK.1 hbK, bstep hSK.2 hbK⟩
        clear hSK
        have hSK := hHeld
        clear hHeld
        clear hK K
        try simp only [Act.put, List.setIfInBounds_toArray, List.set_cons_zero, List.set_cons_succ]
        refine take_d (some 40) (i := 17) (v := ?_) rfl rfl (by kernel_rfl) (by kernel_rfl) (by kernel_rfl) (fun _ _ _ h => h) (Or.inl ⟨by rfl, ?_⟩) (by assumption) ?_
        rotate_left
        · intro w hSw; (dsimp only [Cs] at hSw); go_simp; (try with_reducible rfl)
        try simp only [Act.put, List.setIfInBounds_toArray, List.set_cons_zero, List.set_cons_succ]
        refine take_d (some 41) (i := 18) (v := ?_) rfl rfl (by kernel_rfl) (by kernel_rfl) (by kernel_rfl) (fun _ _ _ h => h) (Or.inl ⟨by rfl, ?_⟩) (by assumption) ?_
        rotate_left
        · intro w hSw; (dsimp only [Cs] at hSw); go_simp; (try with_reducible rfl)
        try simp only [Act.put, List.setIfInBounds_toArray, List.set_cons_zero, List.set_cons_succ]
        refine take_d (some 42) (i := 19) (v := ?_) rfl rfl (by kernel_rfl) (by kernel_rfl) (by kernel_rfl) (fun _ _ _ h => h) (Or.inl ⟨by rfl, ?_⟩) (by assumption) ?_
        rotate_left
        · intro w hSw; (dsimp only [Cs] at hSw); go_simp; (try with_reducible rfl)
        try simp only [Act.put, List.setIfInBounds_toArray, List.set_cons_zero, List.set_cons_succ]
        refine wpAnyH_done (by kernel_rfl) ?_ _
        have HB2 := Lib.hid hSK.2
        clear hSK hS
        go_wp2_with fail
        go_roundw
        case rel => exact ⟨q + 1 + 1, by omega, by go_num, HB2⟩
        case measure => simp [intOf]; omega
    · obtain rfl : k = n := by omega
      go_wp2_with fail
      go_ret
      exact ⟨rfl, hB.out⟩

end Go.Proofs.Ytfmdnhhdjjndbaa
