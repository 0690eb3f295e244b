/- Package trustlines: where the line with a key stands. -/
import Derived.Test.YtfmdnhhdjjndbaaT37a
namespace Go.Proofs.Ytfmdnhhdjjndbaa
set_option linter.unusedVariables false
set_option linter.unusedSimpArgs false
open Go.RowKit

set_option maxRecDepth 100000 in
set_option maxHeartbeats 4000000 in
theorem index1L_run (i : Int) (s tb : Nat) (a : Lin) (w : World) (ha : a.ast ≤ 2) (hs : s ≤ 2) (h : Cs [(⟨tb, 0, none⟩, .int .i64 i), (⟨tb, 1, none⟩, .string (codeOf s)), (⟨tb, 2, none⟩, .int .i64 (issOf s))] w) :
    Calls Try.prog 82 #[.agg #[.int .i64 a.acc, .string (codeOf a.ast), .int .i64 (issOf a.ast), .int .i64 a.bal, .int .i64 a.lim], .pointer (some ⟨tb, 0, none⟩)] w fun e w' => e = .returned (.bool (decide (a.acc = i ∧ a.ast = s))) ∧ Below w.heap.size w w' := by
  have hba := balloc (bref w) (.cells #[.int .i64 a.acc, .string (codeOf a.ast), .int .i64 (issOf a.ast), .int .i64 a.bal, .int .i64 a.lim] 51)
  have HS := Lib.hid (show (fun W => Cs [(⟨w.heap.size, 0, none⟩, .int .i64 a.acc), (⟨w.heap.size, 1, none⟩, .string (codeOf a.ast)), (⟨w.heap.size, 2, none⟩, .int .i64 (issOf a.ast)), (⟨w.heap.size, 3, none⟩, .int .i64 a.bal), (⟨w.heap.size, 4, none⟩, .int .i64 a.lim), (⟨tb, 0, none⟩, .int .i64 i), (⟨tb, 1, none⟩, .string (codeOf s)), (⟨tb, 2, none⟩, .int .i64 (issOf s))] W ∧ Below w.heap.size w W) (w.alloc (.cells #[.int .i64 a.acc, .string (codeOf a.ast), .int .i64 (issOf a.ast), .int .i64 a.bal, .int .i64 a.lim] 51)).drew from ⟨Cs.drew (Cs.app (box5 w 51 (.int .i64 a.acc) (.string (codeOf a.ast)) (.int .i64 (issOf a.ast)) (.int .i64 a.bal) (.int .i64 a.lim)) (Cs.below h hba)), bdrew hba⟩)
  have HKO := Lib.hid (fun W => keyOf_run a W)
  unfold valL valK at HKO
  have hce := code_eq ha hs
  have hie := iss_eq ha hs
  clear hba h
  by_cases he : a.acc = i
  · have q0 : (a.acc == i) = true := by simpa using he
    by_cases hes : a.ast = s
    · have HR := Lib.hid (show decide (a.acc = i ∧ a.ast = s) = true from decide_eq_true ⟨he, hes⟩)
      rw [show (a.ast == s) = true by simpa using hes] at hce hie
      clear he hes
      go_enter Try.func82, Try.ntmps82
      go_upto_region 1 with fail
      refine wp_region_held_drew (S := (fun W => Cs [(⟨w.heap.size, 0, none⟩, .int .i64 a.acc), (⟨w.heap.size, 1, none⟩, .string (codeOf a.ast)), (⟨w.heap.size, 2, none⟩, .int .i64 (issOf a.ast)), (⟨w.heap.size, 3, none⟩, .int .i64 a.bal), (⟨w.heap.size, 4, none⟩, .int .i64 a.lim), (⟨tb, 0, none⟩, .int .i64 i), (⟨tb, 1, none⟩, .string (codeOf s)), (⟨tb, 2, none⟩, .int .i64 (issOf s))] W ∧ Below w.heap.size w W)) (by kernel_rfl) HS.out (fun hSK => ?_)
      refine take_d (some 4) (i := 0) (v := ?_) rfl rfl (by kernel_rfl) (by kernel_rfl) (by kernel_rfl) (fun _ _ _ h => h) (Or.inl ⟨by rfl, ?_⟩) (by assumption) ?_
      rotate_left
      · intro w hSw; (dsimp only [Cs] at hSw); go_simp; (try with_reducible rfl)
      try simp only [Act.put, List.setIfInBounds_toArray, List.set_cons_zero, List.set_cons_succ]
      refine take_d (some 6) (i := 2) (v := ?_) rfl rfl (by kernel_rfl) (by kernel_rfl) (by kernel_rfl) (fun _ _ _ h => h) (Or.inl ⟨by rfl, ?_⟩) (by assumption) ?_
      rotate_left
      · intro w hSw; (dsimp only [Cs] at hSw); go_simp; (try with_reducible rfl)
      try simp only [Act.put, List.setIfInBounds_toArray, List.set_cons_zero, List.set_cons_succ]
      refine wpAnyH_ready (rs := [1]) (by kernel_rfl) (by simp) ?_
      refine AllReadyH.cons rfl (fun K hK => ?_) AllReadyH.nil
      go_simp
      refine (HKO.out _).mono ?_
      rintro e wK ⟨rfl, hbK⟩
      go_wp2_with fail
      refine hK.out _ _ ?_ (fun hHeld => ?_)
      · exact ⟨Cs.below hSK.1 hbK, bstep hSK.2 hbK⟩
      clear hSK
      have hSK := hHeld
      clear hHeld
      clear hK K
      try simp only [Act.put, List.setIfInBounds_toArray, List.set_cons_zero, List.set_cons_succ]
      refine take_d (some 7) (i := 3) (v := ?_) rfl rfl (by kernel_rfl) (by kernel_rfl) (by kernel_rfl) (fun _ _ _ h => h) (Or.inl ⟨by rfl, ?_⟩) (by assumption) ?_
      rotate_left
      · intro w hSw; (dsimp only [Cs] at hSw); go_simp; (try with_reducible rfl)
      try simp only [Act.put, List.setIfInBounds_toArray, List.set_cons_zero, List.set_cons_succ]
      refine take_d (some 3) (i := 4) (v := ?_) rfl rfl (by kernel_rfl) (by kernel_rfl) (by kernel_rfl) (fun _ _ _ h => h) (Or.inl ⟨by rfl, ?_⟩) (by assumption) ?_
      rotate_left
      · intro w hSw; (dsimp only [Cs] at hSw); go_simp; (try with_reducible rfl)
      try simp only [Act.put, List.setIfInBounds_toArray, List.set_cons_zero, List.set_cons_succ]
      refine wpAnyH_done (by kernel_rfl) ?_ _
      have HB9 := Lib.hid hSK.2
      clear hSK
      go_wp2_with fail
      go_ret
      exact ⟨by rw [HR.out]; rfl, HB9.out⟩
    · have HR := Lib.hid (show decide (a.acc = i ∧ a.ast = s) = false from decide_eq_false (fun h => hes h.2))
      rw [show (a.ast == s) = false by simpa using hes] at hce hie
      clear he hes
      go_enter Try.func82, Try.ntmps82
      go_upto_region 1 with fail
      refine wp_region_held_drew (S := (fun W => Cs [(⟨w.heap.size, 0, none⟩, .int .i64 a.acc), (⟨w.heap.size, 1, none⟩, .string (codeOf a.ast)), (⟨w.heap.size, 2, none⟩, .int .i64 (issOf a.ast)), (⟨w.heap.size, 3, none⟩, .int .i64 a.bal), (⟨w.heap.size, 4, none⟩, .int .i64 a.lim), (⟨tb, 0, none⟩, .int .i64 i), (⟨tb, 1, none⟩, .string (codeOf s)), (⟨tb, 2, none⟩, .int .i64 (issOf s))] W ∧ Below w.heap.size w W)) (by kernel_rfl) HS.out (fun hSK => ?_)
      refine take_d (some 4) (i := 0) (v := ?_) rfl rfl (by kernel_rfl) (by kernel_rfl) (by kernel_rfl) (fun _ _ _ h => h) (Or.inl ⟨by rfl, ?_⟩) (by assumption) ?_
      rotate_left
      · intro w hSw; (dsimp only [Cs] at hSw); go_simp; (try with_reducible rfl)
      try simp only [Act.put, List.setIfInBounds_toArray, List.set_cons_zero, List.set_cons_succ]
      refine take_d (some 6) (i := 2) (v := ?_) rfl rfl (by kernel_rfl) (by kernel_rfl) (by kernel_rfl) (fun _ _ _ h => h) (Or.inl ⟨by rfl, ?_⟩) (by assumption) ?_
      rotate_left
      · intro w hSw; (dsimp only [Cs] at hSw); go_simp; (try with_reducible rfl)
      try simp only [Act.put, List.setIfInBounds_toArray, List.set_cons_zero, List.set_cons_succ]
      refine wpAnyH_ready (rs := [1]) (by kernel_rfl) (by simp) ?_
      refine AllReadyH.cons rfl (fun K hK => ?_) AllReadyH.nil
      go_simp
      refine (HKO.out _).mono ?_
      rintro e wK ⟨rfl, hbK⟩
      go_wp2_with fail
      refine hK.out _ _ ?_ (fun hHeld => ?_)
      · exact ⟨Cs.below hSK.1 hbK, bstep hSK.2 hbK⟩
      clear hSK
      have hSK := hHeld
      clear hHeld
      clear hK K
      try simp only [Act.put, List.setIfInBounds_toArray, List.set_cons_zero, List.set_cons_succ]
      refine take_d (some 7) (i := 3) (v := ?_) rfl rfl (by kernel_rfl) (by kernel_rfl) (by kernel_rfl) (fun _ _ _ h => h) (Or.inl ⟨by rfl, ?_⟩) (by assumption) ?_
      rotate_left
      · intro w hSw; (dsimp only [Cs] at hSw); go_simp; (try with_reducible rfl)
      try simp only [Act.put, List.setIfInBounds_toArray, List.set_cons_zero, List.set_cons_succ]
      refine take_d (some 3) (i := 4) (v := ?_) rfl rfl (by kernel_rfl) (by kernel_rfl) (by kernel_rfl) (fun _ _ _ h => h) (Or.inl ⟨by rfl, ?_⟩) (by assumption) ?_
      rotate_left
      · intro w hSw; (dsimp only [Cs] at hSw); go_simp; (try with_reducible rfl)
      try simp only [Act.put, List.setIfInBounds_toArray, List.set_cons_zero, List.set_cons_succ]
      refine wpAnyH_done (by kernel_rfl) ?_ _
      have HB9 := Lib.hid hSK.2
      clear hSK
      go_wp2_with fail
      go_ret
      exact ⟨by rw [HR.out]; rfl, HB9.out⟩
  · have HR := Lib.hid (show decide (a.acc = i ∧ a.ast = s) = false from decide_eq_false (fun h => he h.1))
    have q0 : (a.acc == i) = false := by simpa using he
    clear he hce hie
    go_enter Try.func82, Try.ntmps82
    go_upto_region 1 with fail
    refine wp_region_held_drew (S := (fun W => Cs [(⟨w.heap.size, 0, none⟩, .int .i64 a.acc), (⟨w.heap.size, 1, none⟩, .string (codeOf a.ast)), (⟨w.heap.size, 2, none⟩, .int .i64 (issOf a.ast)), (⟨w.heap.size, 3, none⟩, .int .i64 a.bal), (⟨w.heap.size, 4, none⟩, .int .i64 a.lim), (⟨tb, 0, none⟩, .int .i64 i), (⟨tb, 1, none⟩, .string (codeOf s)), (⟨tb, 2, none⟩, .int .i64 (issOf s))] W ∧ Below w.heap.size w W)) (by kernel_rfl) HS.out (fun hSK => ?_)
    refine take_d (some 4) (i := 0) (v := ?_) rfl rfl (by kernel_rfl) (by kernel_rfl) (by kernel_rfl) (fun _ _ _ h => h) (Or.inl ⟨by rfl, ?_⟩) (by assumption) ?_
    rotate_left
    · intro w hSw; (dsimp only [Cs] at hSw); go_simp; (try with_reducible rfl)
    try simp only [Act.put, List.setIfInBounds_toArray, List.set_cons_zero, List.set_cons_succ]
    refine take_d (some 6) (i := 2) (v := ?_) rfl rfl (by kernel_rfl) (by kernel_rfl) (by kernel_rfl) (fun _ _ _ h => h) (Or.inl ⟨by rfl, ?_⟩) (by assumption) ?_
    rotate_left
    · intro w hSw; (dsimp only [Cs] at hSw); go_simp; (try with_reducible rfl)
    try simp only [Act.put, List.setIfInBounds_toArray, List.set_cons_zero, List.set_cons_succ]
    refine wpAnyH_ready (rs := [1]) (by kernel_rfl) (by simp) ?_
    refine AllReadyH.cons rfl (fun K hK => ?_) AllReadyH.nil
    go_simp
    refine (HKO.out _).mono ?_
    rintro e wK ⟨rfl, hbK⟩
    go_wp2_with fail
    refine hK.out _ _ ?_ (fun hHeld => ?_)
    · exact ⟨Cs.below hSK.1 hbK, bstep hSK.2 hbK⟩
    clear hSK
    have hSK := hHeld
    clear hHeld
    clear hK K
    try simp only [Act.put, List.setIfInBounds_toArray, List.set_cons_zero, List.set_cons_succ]
    refine take_d (some 7) (i := 3) (v := ?_) rfl rfl (by kernel_rfl) (by kernel_rfl) (by kernel_rfl) (fun _ _ _ h => h) (Or.inl ⟨by rfl, ?_⟩) (by assumption) ?_
    rotate_left
    · intro w hSw; (dsimp only [Cs] at hSw); go_simp; (try with_reducible rfl)
    try simp only [Act.put, List.setIfInBounds_toArray, List.set_cons_zero, List.set_cons_succ]
    refine take_d (some 3) (i := 4) (v := ?_) rfl rfl (by kernel_rfl) (by kernel_rfl) (by kernel_rfl) (fun _ _ _ h => h) (Or.inl ⟨by rfl, ?_⟩) (by assumption) ?_
    rotate_left
    · intro w hSw; (dsimp only [Cs] at hSw); go_simp; (try with_reducible rfl)
    try simp only [Act.put, List.setIfInBounds_toArray, List.set_cons_zero, List.set_cons_succ]
    refine wpAnyH_done (by kernel_rfl) ?_ _
    have HB9 := Lib.hid hSK.2
    clear hSK
    go_wp2_with fail
    go_ret
    exact ⟨by rw [HR.out]; rfl, HB9.out⟩

theorem ixL_at (i : Int) (s : Nat) (L : List Lin) : ixG (fun a : Lin => decide (a.acc = i ∧ a.ast = s)) L = atL i s L L.length := rfl

set_option maxRecDepth 100000 in
set_option maxHeartbeats 4000000 in
theorem indexL_run (P : Nat → Prop) (L : List Lin) (i : Int) (s : Nat) (v : Value) (w : World) (hs : s ≤ 2) (hL : ∀ (k : Nat) (a : Lin), L[k]? = some a → a.ast ≤ 2) (hlen : L.length ≤ 1000) (h : LinAt P w v L) :
    Calls Try.prog 60 #[v, valK i s] w fun e w' => e = .returned (.int .i64 (atL i s L L.length)) ∧ Below w.heap.size w w' := by
  obtain ⟨A, c, rfl, hc, hm⟩ := h.slice
  have hba := balloc (bref w) (.cells #[.int .i64 i, .string (codeOf s), .int .i64 (issOf s)] 90)
  have hz : w.heap.size < (w.alloc (.cells #[.int .i64 i, .string (codeOf s), .int .i64 (issOf s)] 90)).heap.size := by simp
  have k0 := box3 w 90 (.int .i64 i) (.string (codeOf s)) (.int .i64 (issOf s))
  have HC := Lib.hid (ixL_run P 82 #[.pointer (some ⟨w.heap.size, 0, none⟩)] (fun a => decide (a.acc = i ∧ a.ast = s)) L _ (w.alloc (.cells #[.int .i64 i, .string (codeOf s), .int .i64 (issOf s)] 90)) hlen (h.below hba) (fun _ _ => rfl) (fun a W hmem hW => index1L_run i s w.heap.size a W (by obtain ⟨k, hk, rfl⟩ := List.getElem_of_mem hmem; exact hL k _ (List.getElem?_eq_getElem hk)) hs (Cs.below k0 hW)))
  have HB := Lib.hid hba
  have HI := Lib.hid (ixL_at i s L)
  unfold valK
  clear h hba k0 hz hL
  go_enter Try.func60, Try.ntmps60
  go_wp2_with fail
  refine HC.out.mono ?_
  rintro e w2 ⟨r, rfl, hr, hb2⟩
  have HB2 := Lib.hid (bstep HB.out hb2)
  clear hb2
  go_wp2_with fail
  go_ret
  exact ⟨by rw [hr.out, HI.out]; rfl, HB2.out⟩

end Go.Proofs.Ytfmdnhhdjjndbaa
