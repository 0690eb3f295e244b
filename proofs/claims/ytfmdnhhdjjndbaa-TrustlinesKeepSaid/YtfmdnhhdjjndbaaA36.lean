/- Package accounts: Check, index, Find. -/
import Derived.Test.YtfmdnhhdjjndbaaL36
import Derived.Test.YtfmdnhhdjjndbaaFlatS
namespace Go.Proofs.Ytfmdnhhdjjndbaa
set_option linter.unusedVariables false
set_option linter.unusedSimpArgs false
open Go.RowKit

set_option maxHeartbeats 400000 in
theorem isID_yes (i : Int) (w : World) (h0 : 1 ≤ i) (h1 : i ≤ 1000) :
    Calls Try.prog 41 #[.int .i64 i] w fun e w' => e = .returned (.bool true) ∧ w = w' := by
  go_enter Try.func41, Try.ntmps41
  go_wp2
  go_ret
  exact ⟨rfl, rfl⟩

set_option maxRecDepth 100000 in
set_option maxHeartbeats 4000000 in
theorem acheck_run (P : Nat → Prop) (L : List Acc) (v : Value) (w : World) (hok : AccsOk L) (h : AccAt P w v L) :
    Calls Try.prog 21 #[v] w fun e w' => e = .returned (.int .i64 0) ∧ Below w.heap.size w w' := by
  obtain ⟨A, c, rfl, hc, hm⟩ := h.slice
  have hlen := hok.len
  have H := Lib.hid h
  have HOK := Lib.hid hok
  obtain ⟨n, hn⟩ : ∃ n, L.length = n := ⟨_, rfl⟩
  rw [hn] at hlen H hc ⊢
  have HN := Lib.hid hn
  clear h hok hn
  go_enter Try.func21, Try.ntmps21
  go_wp2_with fail
  go_loopw [10] (fun t W => ∃ k : Nat, k ≤ n ∧ t = .int .i64 k ∧ Hid (Below w.heap.size w W)) (fun t _ => n - (intOf t).toNat)
  case atStart => exact ⟨0, by omega, rfl, Lib.hid (bref _)⟩
  case round =>
    obtain ⟨k, hk, rfl, hB⟩ := hrel
    by_cases hlt : k < n
    · obtain ⟨a, ha⟩ : ∃ a, L[k]? = some a := ⟨_, List.getElem?_eq_getElem (by rw [HN.out]; exact hlt)⟩
      obtain ⟨b, off, rfl, hP, hbl, d0, d1, d2⟩ := accBox (H.out.below hB.out) ha
      obtain ⟨i0, i1, b0, b1, s0, s1⟩ := HOK.out.each k a ha
      have hv := okI_yes b0 b1
      have q2 : decide (a.seq < 0) = false := decide_eq_false (by omega)
      have q3 : decide (1000000 < a.seq) = false := decide_eq_false (by omega)
      have HB1 := Lib.hid (balloc hB.out (.cells #[.int .i64 a.id, .int .i64 a.bal, .int .i64 a.seq] 34))
      have HBX := Lib.hid (box3 wr 34 (.int .i64 a.id) (.int .i64 a.bal) (.int .i64 a.seq))
      go_wp2_with (first | (go_at_call 41; refine (isID_yes _ _ i0 i1).mono ?_; rintro e w2 ⟨rfl, rfl⟩) | (go_at_call 42; refine (valid_any _ _).mono ?_; rintro e w2 ⟨rfl, rfl⟩))
      clear d0 d1 d2
      rcases Nat.eq_zero_or_pos k with hk0 | hpos
      · have q4 : decide (0 < k) = false := decide_eq_false (by omega)
        have HK := Lib.hid hk0
        clear hk0
        have hS := Lib.hid (Cs.drew HBX.out)
        generalize wr.alloc (.cells #[.int .i64 a.id, .int .i64 a.bal, .int .i64 a.seq] 34) = W1 at *
        refine wp_region_held_drew (S := (fun W => Cs [(⟨wr.heap.size, 0, none⟩, .int .i64 a.id), (⟨wr.heap.size, 1, none⟩, .int .i64 a.bal), (⟨wr.heap.size, 2, none⟩, .int .i64 a.seq)] W)) (by kernel_rfl) hS.out (fun hSK => ?_)
        refine take_d (some 35) (i := 0) (v := ?_) rfl rfl (by kernel_rfl) (by kernel_rfl) (by kernel_rfl) (fun _ _ _ h => h) (Or.inl ⟨by rfl, ?_⟩) (by assumption) ?_
        rotate_left
        · intro w hSw; (dsimp only [Cs] at hSw); go_simp; (try with_reducible rfl)
        try simp only [Act.put, List.setIfInBounds_toArray, List.set_cons_zero, List.set_cons_succ]
        refine take_d (some 36) (i := 1) (v := ?_) rfl rfl (by kernel_rfl) (by kernel_rfl) (by kernel_rfl) (fun _ _ _ h => h) (Or.inl ⟨by rfl, ?_⟩) (by assumption) ?_
        rotate_left
        · intro w hSw; (dsimp only [Cs] at hSw); go_simp; (try with_reducible rfl)
        try simp only [Act.put, List.setIfInBounds_toArray, List.set_cons_zero, List.set_cons_succ]
        refine take_d (some 37) (i := 2) (v := ?_) rfl rfl (by kernel_rfl) (by kernel_rfl) (by kernel_rfl) (fun _ _ _ h => h) (Or.inl ⟨by rfl, ?_⟩) (by assumption) ?_
        rotate_left
        · intro w hSw; (dsimp only [Cs] at hSw); go_simp; (try with_reducible rfl)
        try simp only [Act.put, List.setIfInBounds_toArray, List.set_cons_zero, List.set_cons_succ]
        refine take_d (some 38) (i := 3) (v := undef) rfl rfl (by kernel_rfl) (by kernel_rfl) (by kernel_rfl) (fun _ _ _ h => h) (Or.inr ⟨by rfl, rfl⟩) (by assumption) ?_
        try simp only [Act.put, List.setIfInBounds_toArray, List.set_cons_zero, List.set_cons_succ]
        refine take_d (some 39) (i := 4) (v := undef) rfl rfl (by kernel_rfl) (by kernel_rfl) (by kernel_rfl) (fun _ _ _ h => h) (Or.inr ⟨by rfl, rfl⟩) (by assumption) ?_
        try simp only [Act.put, List.setIfInBounds_toArray, List.set_cons_zero, List.set_cons_succ]
        refine take_d (some 40) (i := 5) (v := undef) rfl rfl (by kernel_rfl) (by kernel_rfl) (by kernel_rfl) (fun _ _ _ h => h) (Or.inr ⟨by rfl, rfl⟩) (by assumption) ?_
        try simp only [Act.put, List.setIfInBounds_toArray, List.set_cons_zero, List.set_cons_succ]
        refine take_d (some 41) (i := 6) (v := undef) rfl rfl (by kernel_rfl) (by kernel_rfl) (by kernel_rfl) (fun _ _ _ h => h) (Or.inr ⟨by rfl, rfl⟩) (by assumption) ?_
        try simp only [Act.put, List.setIfInBounds_toArray, List.set_cons_zero, List.set_cons_succ]
        refine take_d (some 42) (i := 7) (v := undef) rfl rfl (by kernel_rfl) (by kernel_rfl) (by kernel_rfl) (fun _ _ _ h => h) (Or.inr ⟨by rfl, rfl⟩) (by assumption) ?_
        try simp only [Act.put, List.setIfInBounds_toArray, List.set_cons_zero, List.set_cons_succ]
        refine take_d (some 43) (i := 8) (v := undef) rfl rfl (by kernel_rfl) (by kernel_rfl) (by kernel_rfl) (fun _ _ _ h => h) (Or.inr ⟨by rfl, rfl⟩) (by assumption) ?_
        try simp only [Act.put, List.setIfInBounds_toArray, List.set_cons_zero, List.set_cons_succ]
        refine take_d (some 44) (i := 9) (v := undef) rfl rfl (by kernel_rfl) (by kernel_rfl) (by kernel_rfl) (fun _ _ _ h => h) (Or.inr ⟨by rfl, rfl⟩) (by assumption) ?_
        try simp only [Act.put, List.setIfInBounds_toArray, List.set_cons_zero, List.set_cons_succ]
        refine take_d (some 45) (i := 10) (v := undef) rfl rfl (by kernel_rfl) (by kernel_rfl) (by kernel_rfl) (fun _ _ _ h => h) (Or.inr ⟨by rfl, rfl⟩) (by assumption) ?_
        try simp only [Act.put, List.setIfInBounds_toArray, List.set_cons_zero, List.set_cons_succ]
        refine take_d (some 46) (i := 11) (v := undef) rfl rfl (by kernel_rfl) (by kernel_rfl) (by kernel_rfl) (fun _ _ _ h => h) (Or.inr ⟨by rfl, rfl⟩) (by assumption) ?_
        try simp only [Act.put, List.setIfInBounds_toArray, List.set_cons_zero, List.set_cons_succ]
        refine take_d (some 47) (i := 12) (v := ?_) rfl rfl (by kernel_rfl) (by kernel_rfl) (by kernel_rfl) (fun _ _ _ h => h) (Or.inl ⟨by rfl, ?_⟩) (by assumption) ?_
        rotate_left
        · intro w hSw; (dsimp only [Cs] at hSw); go_simp; (try with_reducible rfl)
        try simp only [Act.put, List.setIfInBounds_toArray, List.set_cons_zero, List.set_cons_succ]
        refine wpAnyH_done (by kernel_rfl) ?_ _
        have HB2 := Lib.hid (bdrew HB1.out)
        clear hSK hS
        go_wp2_with fail
        go_roundw
        case rel => exact ⟨k + 1, by omega, by go_num, HB2⟩
        case measure => simp [intOf]; omega
      · obtain ⟨q, rfl⟩ : ∃ q, k = q + 1 := ⟨k - 1, by omega⟩
        obtain ⟨p, hp⟩ : ∃ p, L[q]? = some p := ⟨_, List.getElem?_eq_getElem (by rw [HN.out]; omega)⟩
        obtain ⟨b', off', hA', hP', hbl', c0, _⟩ := accBox (H.out.below HB1.out) hp
        simp only [Option.some.injEq, Addr.mk.injEq] at hA'
        obtain ⟨rfl, rfl, _⟩ := hA'
        have hasc := HOK.out.asc q p a hp ha
        have q4 : decide ((0 : Int) < (q : Int) + 1) = true := decide_eq_true (by omega)
        have q5 : decide (a.id ≤ p.id) = false := decide_eq_false (by omega)
        have q6 : IntKind.i64.wrap (q : Int) = (q : Int) := IntWalk.i64_in _ (by omega)
        have q7 : (0 : Int) ≤ (q : Int) := by omega
        have q8 : (q : Int) < (n : Int) := by omega
        have hS := Lib.hid (Cs.drew (Cs.app HBX.out (Cs.one c0)))
        clear hpos hp c0
        generalize wr.alloc (.cells #[.int .i64 a.id, .int .i64 a.bal, .int .i64 a.seq] 34) = W1 at *
        refine wp_region_held_drew (S := (fun W => Cs [(⟨wr.heap.size, 0, none⟩, .int .i64 a.id), (⟨wr.heap.size, 1, none⟩, .int .i64 a.bal), (⟨wr.heap.size, 2, none⟩, .int .i64 a.seq), (⟨b, off + q * 3, none⟩, .int .i64 p.id)] W)) (by kernel_rfl) hS.out (fun hSK => ?_)
        refine take_d (some 35) (i := 0) (v := ?_) rfl rfl (by kernel_rfl) (by kernel_rfl) (by kernel_rfl) (fun _ _ _ h => h) (Or.inl ⟨by rfl, ?_⟩) (by assumption) ?_
        rotate_left
        · intro w hSw; (dsimp only [Cs] at hSw); go_simp; (try with_reducible rfl)
        try simp only [Act.put, List.setIfInBounds_toArray, List.set_cons_zero, List.set_cons_succ]
        refine take_d (some 36) (i := 1) (v := ?_) rfl rfl (by kernel_rfl) (by kernel_rfl) (by kernel_rfl) (fun _ _ _ h => h) (Or.inl ⟨by rfl, ?_⟩) (by assumption) ?_
        rotate_left
        · intro w hSw; (dsimp only [Cs] at hSw); go_simp; (try with_reducible rfl)
        try simp only [Act.put, List.setIfInBounds_toArray, List.set_cons_zero, List.set_cons_succ]
        refine take_d (some 37) (i := 2) (v := ?_) rfl rfl (by kernel_rfl) (by kernel_rfl) (by kernel_rfl) (fun _ _ _ h => h) (Or.inl ⟨by rfl, ?_⟩) (by assumption) ?_
        rotate_left
        · intro w hSw; (dsimp only [Cs] at hSw); go_simp; (try with_reducible rfl)
        try simp only [Act.put, List.setIfInBounds_toArray, List.set_cons_zero, List.set_cons_succ]
        refine take_d (some 38) (i := 3) (v := ?_) rfl rfl (by kernel_rfl) (by kernel_rfl) (by kernel_rfl) (fun _ _ _ h => h) (Or.inl ⟨by rfl, ?_⟩) (by assumption) ?_
        rotate_left
        · intro w hSw; (dsimp only [Cs] at hSw); go_simp; (try with_reducible rfl)
        try simp only [Act.put, List.setIfInBounds_toArray, List.set_cons_zero, List.set_cons_succ]
        refine take_d (some 39) (i := 4) (v := ?_) rfl rfl (by kernel_rfl) (by kernel_rfl) (by kernel_rfl) (fun _ _ _ h => h) (Or.inl ⟨by rfl, ?_⟩) (by assumption) ?_
        rotate_left
        · intro w hSw; (dsimp only [Cs] at hSw); go_simp; (try with_reducible rfl)
        try simp only [Act.put, List.setIfInBounds_toArray, List.set_cons_zero, List.set_cons_succ]
        refine take_d (some 40) (i := 5) (v := ?_) rfl rfl (by kernel_rfl) (by kernel_rfl) (by kernel_rfl) (fun _ _ _ h => h) (Or.inl ⟨by rfl, ?_⟩) (by assumption) ?_
        rotate_left
        · intro w hSw; (dsimp only [Cs] at hSw); go_simp; (try with_reducible rfl)
        try simp only [Act.put, List.setIfInBounds_toArray, List.set_cons_zero, List.set_cons_succ]
        refine take_d (some 41) (i := 6) (v := ?_) rfl rfl (by kernel_rfl) (by kernel_rfl) (by kernel_rfl) (fun _ _ _ h => h) (Or.inl ⟨by rfl, ?_⟩) (by assumption) ?_
        rotate_left
        · intro w hSw; (dsimp only [Cs] at hSw); go_simp; (try with_reducible rfl)
        try simp only [Act.put, List.setIfInBounds_toArray, List.set_cons_zero, List.set_cons_succ]
        refine take_d (some 42) (i := 7) (v := ?_) rfl rfl (by kernel_rfl) (by kernel_rfl) (by kernel_rfl) (fun _ _ _ h => h) (Or.inl ⟨by rfl, ?_⟩) (by assumption) ?_
        rotate_left
        · intro w hSw; (dsimp only [Cs] at hSw); go_simp; (try with_reducible rfl)
        try simp only [Act.put, List.setIfInBounds_toArray, List.set_cons_zero, List.set_cons_succ]
        refine take_d (some 43) (i := 8) (v := ?_) rfl rfl (by kernel_rfl) (by kernel_rfl) (by kernel_rfl) (fun _ _ _ h => h) (Or.inl ⟨by rfl, ?_⟩) (by assumption) ?_
        rotate_left
        · intro w hSw; (dsimp only [Cs] at hSw); go_simp; (try with_reducible rfl)
        try simp only [Act.put, List.setIfInBounds_toArray, List.set_cons_zero, List.set_cons_succ]
        refine take_d (some 44) (i := 9) (v := ?_) rfl rfl (by kernel_rfl) (by kernel_rfl) (by kernel_rfl) (fun _ _ _ h => h) (Or.inl ⟨by rfl, ?_⟩) (by assumption) ?_
        rotate_left
        · intro w hSw; (dsimp only [Cs] at hSw); go_simp; (try with_reducible rfl)
        try simp only [Act.put, List.setIfInBounds_toArray, List.set_cons_zero, List.set_cons_succ]
        refine take_d (some 45) (i := 10) (v := ?_) rfl rfl (by kernel_rfl) (by kernel_rfl) (by kernel_rfl) (fun _ _ _ h => h) (Or.inl ⟨by rfl, ?_⟩) (by assumption) ?_
        rotate_left
        · intro w hSw; (dsimp only [Cs] at hSw); go_simp; (try with_reducible rfl)
        try simp only [Act.put, List.setIfInBounds_toArray, List.set_cons_zero, List.set_cons_succ]
        refine take_d (some 46) (i := 11) (v := ?_) rfl rfl (by kernel_rfl) (by kernel_rfl) (by kernel_rfl) (fun _ _ _ h => h) (Or.inl ⟨by rfl, ?_⟩) (by assumption) ?_
        rotate_left
        · intro w hSw; (dsimp only [Cs] at hSw); go_simp; (try with_reducible rfl)
        try simp only [Act.put, List.setIfInBounds_toArray, List.set_cons_zero, List.set_cons_succ]
        refine take_d (some 47) (i := 12) (v := ?_) rfl rfl (by kernel_rfl) (by kernel_rfl) (by kernel_rfl) (fun _ _ _ h => h) (Or.inl ⟨by rfl, ?_⟩) (by assumption) ?_
        rotate_left
        · intro w hSw; (dsimp only [Cs] at hSw); go_simp; (try with_reducible rfl)
        try simp only [Act.put, List.setIfInBounds_toArray, List.set_cons_zero, List.set_cons_succ]
        refine wpAnyH_done (by kernel_rfl) ?_ _
        have HB2 := Lib.hid (bdrew HB1.out)
        clear hSK hS
        go_wp2_with fail
        go_roundw
        case rel => exact ⟨q + 1 + 1, by omega, by go_num, HB2⟩
        case measure => simp [intOf]; omega
    · obtain rfl : k = n := by omega
      go_wp2_with fail
      go_ret
      exact ⟨rfl, hB.out⟩

/-- What IndexFunc returns. -/
def ixG {α : Type} (p : α → Bool) (L : List α) : Int := if L.findIdx p < L.length then (L.findIdx p : Int) else -1

theorem ixG_at {α : Type} {p : α → Bool} {L : List α} {k : Nat} {a : α} (ha : L[k]? = some a) (hp : p a = true) (h : ∀ (j : Nat) (b : α), j < k → L[j]? = some b → p b = false) : ixG p L = (k : Int) := by
  have hk : k < L.length := (List.getElem?_eq_some_iff.1 ha).1
  have he : L[k] = a := (List.getElem?_eq_some_iff.1 ha).2
  have : L.findIdx p = k := by
    rw [List.findIdx_eq hk]
    exact ⟨by rw [he]; exact hp, fun j hj => h j _ hj (List.getElem?_eq_getElem (by omega))⟩
  unfold ixG
  rw [this, if_pos hk]

theorem ixG_no {α : Type} {p : α → Bool} {L : List α} (h : ∀ (j : Nat) (b : α), L[j]? = some b → p b = false) : ixG p L = -1 := by
  unfold ixG
  rw [if_neg]
  rw [Nat.not_lt, ← Nat.le_antisymm_iff.2 ⟨List.findIdx_le_length, ?_⟩]
  · exact Nat.le_refl _
  · rcases Nat.lt_or_ge (L.findIdx p) L.length with h1 | h1
    · have h2 := List.findIdx_getElem (p := p) (xs := L) (w := h1)
      rw [h _ _ (List.getElem?_eq_getElem h1)] at h2
      cases h2
    · exact h1

set_option maxRecDepth 100000 in
set_option maxHeartbeats 4000000 in
theorem ixA_run (P : Nat → Prop) (G : Nat) (caps : Array Value) (p : Acc → Bool) (L : List Acc) (v : Value) (w : World) (hlen : L.length ≤ 1000) (h : AccAt P w v L) (eg : ∀ args w, (callFunc G args).run Try.prog w = .ok (.enter G args) w)
    (hcl : ∀ (a : Acc) (W : World), Below w.heap.size w W → Calls Try.prog G (#[.agg #[.int .i64 a.id, .int .i64 a.bal, .int .i64 a.seq]] ++ caps) W fun e w' => e = .returned (.bool (p a)) ∧ Below W.heap.size W w') :
    Calls Try.prog 43 #[v, .func (.func G) #[] caps] w fun e w' => ∃ r : Int, e = .returned (.int .i64 r) ∧ Hid (r = ixG p L) ∧ Below w.heap.size w w' := by
  obtain ⟨A, c, rfl, hc, hm⟩ := h.slice
  have H := Lib.hid h
  obtain ⟨n, hn⟩ : ∃ n, L.length = n := ⟨_, rfl⟩
  rw [hn] at hlen H hc ⊢
  have HN := Lib.hid hn
  have HCL := Lib.hid hcl
  clear h hn hcl
  go_enter Try.func43, Try.ntmps43
  go_wp2_with fail
  go_loopw [8] (fun t W => ∃ k : Nat, k ≤ n ∧ t = .int .i64 k ∧ Hid (∀ (j : Nat) (a : Acc), j < k → L[j]? = some a → p a = false) ∧ Hid (Below w.heap.size w W)) (fun t _ => n - (intOf t).toNat)
  case atStart => exact ⟨0, by omega, rfl, Lib.hid (fun j a hj => by omega), Lib.hid (bref _)⟩
  case round =>
    obtain ⟨k, hk, rfl, hF, hB⟩ := hrel
    by_cases hlt : k < n
    · obtain ⟨a, ha⟩ : ∃ a, L[k]? = some a := ⟨_, List.getElem?_eq_getElem (by rw [HN.out]; exact hlt)⟩
      obtain ⟨b, off, rfl, hP, hbl, d0, d1, d2⟩ := accBox (H.out.below hB.out) ha
      have HA := Lib.hid ha
      clear ha
      go_wp2_with fail
      refine (HCL.out a _ hB.out).mono ?_
      rintro e w2 ⟨rfl, hb2⟩
      have HB2 := Lib.hid (bstep hB.out hb2)
      clear hb2 d0 d1 d2
      rcases (show p a = false ∨ p a = true by cases p a <;> simp) with hp | hp
      · have HF2 := Lib.hid (show ∀ (j : Nat) (x : Acc), j < k + 1 → L[j]? = some x → p x = false from fun j x hj hx => by
          rcases Nat.lt_or_ge j k with h1 | h1
          · exact hF.out j x h1 hx
          · obtain rfl : j = k := by omega
            rw [HA.out] at hx
            cases hx
            exact hp)
        rw [hp]
        clear hp
        go_wp2_with fail
        go_roundw
        case rel => exact ⟨k + 1, by omega, by go_num, HF2, HB2⟩
        case measure => simp [intOf]; omega
      · have HR := Lib.hid (show ((k : Nat) : Int) = ixG p L from (ixG_at HA.out hp hF.out).symm)
        rw [hp]
        clear hp
        go_wp2_with fail
        go_ret
        exact ⟨_, rfl, HR, HB2.out⟩
    · obtain rfl : k = n := by omega
      have HR := Lib.hid (show (-1 : Int) = ixG p L from (ixG_no (fun j a ha => hF.out j a (by rw [← HN.out]; exact (List.getElem?_eq_some_iff.1 ha).1) ha)).symm)
      go_wp2_with fail
      go_ret
      exact ⟨_, rfl, HR, hB.out⟩

set_option maxHeartbeats 1000000 in
theorem index1_run (i : Int) (tb : Nat) (a : Acc) (w : World) (h : w.cell? ⟨tb, 0, none⟩ = some (.int .i64 i)) :
    Calls Try.prog 72 #[.agg #[.int .i64 a.id, .int .i64 a.bal, .int .i64 a.seq], .pointer (some ⟨tb, 0, none⟩)] w fun e w' => e = .returned (.bool (a.id == i)) ∧ Below w.heap.size w w' := by
  have hl := cell_lt h
  have hl' : tb < w.heap.size := hl
  go_enter Try.func72, Try.ntmps72
  go_wp2_with fail
  go_ret
  exact ⟨rfl, balloc (bref _) _⟩

theorem ix_at (i : Int) (L : List Acc) : ixG (fun a : Acc => a.id == i) L = atA i L L.length := by
  have : (fun a : Acc => a.id == i) = (fun a : Acc => decide (a.id = i)) := by funext a; exact Bool.eq_iff_iff.2 (by simp)
  unfold ixG atA findA
  rw [this]

set_option maxRecDepth 100000 in
set_option maxHeartbeats 4000000 in
theorem index_run (P : Nat → Prop) (L : List Acc) (i : Int) (v : Value) (w : World) (hlen : L.length ≤ 1000) (h : AccAt P w v L) :
    Calls Try.prog 38 #[v, .int .i64 i] w fun e w' => e = .returned (.int .i64 (atA i L L.length)) ∧ Below w.heap.size w w' := by
  obtain ⟨A, c, rfl, hc, hm⟩ := h.slice
  have hba := balloc (bref w) (.cells #[.int .i64 i] 3)
  have hz : w.heap.size < (w.alloc (.cells #[.int .i64 i] 3)).heap.size := by simp
  have k0 : (w.alloc (.cells #[.int .i64 i] 3)).cell? ⟨w.heap.size, 0, none⟩ = some (.int .i64 i) := row_new w #[.int .i64 i] 3 0
  have HC := Lib.hid (ixA_run P 72 #[.pointer (some ⟨w.heap.size, 0, none⟩)] (fun a => a.id == i) L _ (w.alloc (.cells #[.int .i64 i] 3)) hlen (h.below hba) (fun _ _ => rfl) (fun a W hW => index1_run i w.heap.size a W ((hW.cell (p := ⟨w.heap.size, 0, none⟩) hz).trans k0)))
  have HB := Lib.hid hba
  have HI := Lib.hid (ix_at i L)
  clear h hba k0 hz
  go_enter Try.func38, Try.ntmps38
  go_wp2_with fail
  refine HC.out.mono ?_
  rintro e w2 ⟨r, rfl, hr, hb2⟩
  have HB2 := Lib.hid (bstep HB.out hb2)
  clear hb2
  go_wp2_with fail
  go_ret
  exact ⟨by rw [hr.out, HI.out]; rfl, HB2.out⟩


set_option maxRecDepth 100000 in
set_option maxHeartbeats 4000000 in
theorem afind_run (P : Nat → Prop) (L : List Acc) (i : Int) (v : Value) (w : World) (hlen : L.length ≤ 1000) (h : AccAt P w v L) :
    Calls Try.prog 13 #[v, .int .i64 i] w fun e w' => e = .returned (.tuple #[valA (getA i L), .bool (hasA i L)]) ∧ Below w.heap.size w w' := by
  obtain ⟨A, c, rfl, hc, hm⟩ := h.slice
  have hba := balloc (bref w) (.cells #[.int .i64 0, .int .i64 0, .int .i64 0] 34)
  have k0 : (w.alloc (.cells #[.int .i64 0, .int .i64 0, .int .i64 0] 34)).heap[w.heap.size]? = some (.cells #[.int .i64 0, .int .i64 0, .int .i64 0] 34 (0, 0)) := heap_alloc_new _ _
  have H1 := Lib.hid (h.below hba)
  have K0 := Lib.hid k0
  have HB0 := Lib.hid hba
  have hz1 : w.heap.size < (w.alloc (.cells #[.int .i64 0, .int .i64 0, .int .i64 0] 34)).heap.size := by simp
  clear k0 hba
  obtain ⟨F, hF⟩ : ∃ F, findA i L = F := ⟨_, rfl⟩
  have HF := Lib.hid hF
  have HL := Lib.hid hlen
  rcases Nat.lt_or_ge F L.length with hlt | hge
  · obtain ⟨a, ha⟩ : ∃ a, L[F]? = some a := ⟨_, List.getElem?_eq_getElem hlt⟩
    have HR := Lib.hid (show Value.tuple #[valA (getA i L), .bool (hasA i L)] = .tuple #[.agg #[.int .i64 a.id, .int .i64 a.bal, .int .i64 a.seq], .bool true] by
      unfold getA hasA valA
      rw [hF, ha, decide_eq_true hlt]
      rfl)
    have HI := Lib.hid (show (atA i L L.length) = (F : Int) by rw [atA_yes (by rw [hF]; exact hlt), hF])
    have HA := Lib.hid ha
    have hf0 : (0 : Int) ≤ (F : Int) := by omega
    clear h hF ha
    go_enter Try.func13, Try.ntmps13
    go_wp2_with fail
    refine (index_run P L i _ _ HL.out H1.out).mono ?_
    rintro e w2 ⟨rfl, hb2⟩
    rw [HI.out]
    obtain ⟨b, off, rfl, hP, hbl, c0, c1, c2⟩ := accBox (H1.out.below hb2) HA.out
    have k2 := (hb2.block w.heap.size hz1).trans K0.out
    have f0 : ∀ o, w2.frozen? ⟨w.heap.size, o, none⟩ = false := fun o => by simp [World.frozen?, k2]
    have f1 := f0 0
    have f2 := f0 1
    have f3 := f0 2
    have e0 : w2.cell? ⟨w.heap.size, 0, none⟩ = some (.int .i64 0) := cell_of_row _ _ 0 _ _ (0, 0) k2
    have e1 : w2.cell? ⟨w.heap.size, 1, none⟩ = some (.int .i64 0) := cell_of_row _ _ 1 _ _ (0, 0) k2
    have e2 : w2.cell? ⟨w.heap.size, 2, none⟩ = some (.int .i64 0) := cell_of_row _ _ 2 _ _ (0, 0) k2
    have HK2 := Lib.hid k2
    have HB2 := Lib.hid (bset (bset (bset (bstep HB0.out hb2) (p := ⟨w.heap.size, 0, none⟩) (by simp) (.int .i64 a.id)) (p := ⟨w.heap.size, 1, none⟩) (by simp) (.int .i64 a.bal)) (p := ⟨w.heap.size, 2, none⟩) (by simp) (.int .i64 a.seq))
    clear f0 hb2 k2
    go_wp2_with fail
    refine bodyPost_ret (v := .tuple #[.agg #[.int .i64 a.id, .int .i64 a.bal, .int .i64 a.seq], .bool true]) ?_ rfl ⟨by rw [HR.out], HB2.out⟩
    simp [results, Try.results13, go_sem, e0, e1, e2, HK2.out]
  · have HR := Lib.hid (show Value.tuple #[valA (getA i L), .bool (hasA i L)] = .tuple #[.agg #[.int .i64 0, .int .i64 0, .int .i64 0], .bool false] by
      unfold getA hasA valA
      rw [hF, List.getElem?_eq_none hge, decide_eq_false (by omega)]
      rfl)
    have HI := Lib.hid (show (atA i L L.length) = (-1 : Int) by rw [atA_no (by rw [hF]; omega)])
    clear h hF
    go_enter Try.func13, Try.ntmps13
    go_wp2_with fail
    refine (index_run P L i _ _ HL.out H1.out).mono ?_
    rintro e w2 ⟨rfl, hb2⟩
    rw [HI.out]
    have k2 := (hb2.block w.heap.size hz1).trans K0.out
    have f0 : ∀ o, w2.frozen? ⟨w.heap.size, o, none⟩ = false := fun o => by simp [World.frozen?, k2]
    have f1 := f0 0
    have f2 := f0 1
    have f3 := f0 2
    have e0 : w2.cell? ⟨w.heap.size, 0, none⟩ = some (.int .i64 0) := cell_of_row _ _ 0 _ _ (0, 0) k2
    have e1 : w2.cell? ⟨w.heap.size, 1, none⟩ = some (.int .i64 0) := cell_of_row _ _ 1 _ _ (0, 0) k2
    have e2 : w2.cell? ⟨w.heap.size, 2, none⟩ = some (.int .i64 0) := cell_of_row _ _ 2 _ _ (0, 0) k2
    have HK2 := Lib.hid k2
    have HB2 := Lib.hid (bset (bset (bset (bstep HB0.out hb2) (p := ⟨w.heap.size, 0, none⟩) (by simp) (.int .i64 0)) (p := ⟨w.heap.size, 1, none⟩) (by simp) (.int .i64 0)) (p := ⟨w.heap.size, 2, none⟩) (by simp) (.int .i64 0))
    clear f0 hb2 k2
    go_wp2_with fail
    refine bodyPost_ret (v := .tuple #[.agg #[.int .i64 0, .int .i64 0, .int .i64 0], .bool false]) ?_ rfl ⟨by rw [HR.out], HB2.out⟩
    simp [results, Try.results13, go_sem, e0, e1, e2, HK2.out]

end Go.Proofs.Ytfmdnhhdjjndbaa
