/- The contracts of data.Flat at accounts, lines and offers: the copy is the call's own row. -/
import Derived.Test.YtfmdnhhdjjndbaaCs
namespace Go.Proofs.Ytfmdnhhdjjndbaa
set_option linter.unusedVariables false
set_option linter.unusedSimpArgs false
open Go.RowKit

theorem RowAt.source' {α : Type} {n : Nat} {enc : α → List Value} {P : Nat → Prop} {w : World} {L : List α} {ad : Addr} {m c : Nat} (hn : ∀ x, (enc x).length = n) (h : RowAt n enc P w (.slice (some ad) m c) L) : ∀ j u, (flatS enc L)[j]? = some u → w.cell? (ad.add j) = some u := by
  intro i u hu
  obtain ⟨k, j, x, rfl, h1, h2⟩ := flatS_inv hn L i u hu
  obtain ⟨b', off', e0, _, _, e3⟩ := h.at_ h1
  obtain rfl := Option.some.inj e0
  rw [Addr.add_lit, ← Nat.add_assoc]
  exact e3 j u h2

theorem encA_one (a : Acc) : ∀ u ∈ encA a, u.oneCell' = true := by
  intro u hu; simp [encA] at hu; rcases hu with rfl | rfl | rfl <;> rfl

theorem encL_one (a : Lin) : ∀ u ∈ encL a, u.oneCell' = true := by
  intro u hu; simp [encL] at hu; rcases hu with rfl | rfl | rfl | rfl | rfl <;> rfl

theorem encO_one (a : Off) : ∀ u ∈ encO a, u.oneCell' = true := by
  intro u hu; simp [encO] at hu; rcases hu with rfl | rfl | rfl | rfl | rfl | rfl | rfl | rfl | rfl <;> rfl

theorem flatS_one {α : Type} {enc : α → List Value} (h1 : ∀ x, ∀ u ∈ enc x, u.oneCell' = true) (L : List α) : ∀ u ∈ flatS enc L, u.oneCell' = true := by
  intro u hu
  obtain ⟨x, _, hx⟩ := List.mem_flatMap.1 hu
  exact h1 x u hx

theorem infoA : (Try.prog.info? 34).map (fun i => (i.zero, i.size, i.bytes)) = some (some (.agg #[.int .i64 0, .int .i64 0, .int .i64 0]), 3, 24) := by kernel_rfl

set_option maxHeartbeats 1000000 in
theorem flatA_run (P : Nat → Prop) (v : Value) (L : List Acc) (w : World) (hn : L.length ≤ 1000000) (h : RowAt 3 encA P w v L) :
    Calls Try.prog 46 #[v] w fun e w' => ∃ v', e = .returned v' ∧ w'.ownsRow w.heap.size 34 3 v' L.length (flatS encA L) ∧ Below w.heap.size w w' := by
  obtain ⟨i0, hi, hz0, hz1, hz2⟩ := info_parts infoA
  obtain ⟨A, c, rfl, hc, hm⟩ := h.slice
  have hfl := flatS_len encA_len L
  have HC := Lib.hid (show ∀ ad : Addr, A = some ad → ∀ (j : Nat) (u : Value), (flatS encA L)[j]? = some u → w.cell? (ad.add j) = some u from fun ad hA => by subst hA; exact RowAt.source' encA_len h)
  have H1 := Lib.hid (flatS_one encA_one L)
  cases hA : A with
  | none =>
    have h0 : L = [] := by
      rcases L with _ | ⟨x, l⟩
      · rfl
      · subst hA
        obtain ⟨b, off, e, _⟩ := h.at_ (k := 0) (x := x) rfl
        cases e
    subst h0
    subst hA
    clear h hfl HC H1
    go_enter Try.func46, Try.ntmps46
    go_wp2
    go_ret
    exact ⟨_, rfl, World.ownsRow_nil _ _ _ _, bref _⟩
  | some ad =>
    have HC2 := Lib.hid (HC.out ad hA)
    subst hA
    clear h HC
    obtain ⟨m, hm'⟩ : ∃ m, L.length = m := ⟨_, rfl⟩
    rw [hm'] at hn hfl hc ⊢
    obtain ⟨fl, hfe⟩ : ∃ fl, flatS encA L = fl := ⟨_, rfl⟩
    rw [hfe] at hfl HC2 H1 ⊢
    clear hfe hm'
    go_enter Try.func46, Try.ntmps46
    go_wp2_with (at_builtin; refine wpList_append_own _ rfl _ _ 25 rfl w.heap.size 34 i0 (.agg #[.int .i64 0, .int .i64 0, .int .i64 0]) 3 24 Try.underlying25 hi hz0 hz1 hz2 rfl (by decide) _ _ _ rfl (World.ownsRow_nil _ _ _ _) ad m c fl rfl (by rw [hfl]) HC2.out (fun u hu => H1.out u hu) (by unfold maxLen; omega) (by omega) (Nat.le_refl _) ?_; intro v' w1 hown' hgrow hnil)
    rw [Nat.zero_add, List.nil_append] at hown'
    have HO := Lib.hid hown'
    have HB := Lib.hid (Below.grown (bref w) hgrow (Nat.le_refl _) (fun j hj => by cases hj))
    clear hown' hgrow hnil
    go_wp2_with fail
    go_ret
    exact ⟨_, rfl, HO.out, HB.out⟩

theorem infoL : (Try.prog.info? 51).map (fun i => (i.zero, i.size, i.bytes)) = some (some (.agg #[.int .i64 0, .string ⟨#[]⟩, .int .i64 0, .int .i64 0, .int .i64 0]), 5, 48) := by kernel_rfl

set_option maxHeartbeats 1000000 in
theorem flatL_run (P : Nat → Prop) (v : Value) (L : List Lin) (w : World) (hn : L.length ≤ 1000000) (h : RowAt 5 encL P w v L) :
    Calls Try.prog 59 #[v] w fun e w' => ∃ v', e = .returned v' ∧ w'.ownsRow w.heap.size 51 5 v' L.length (flatS encL L) ∧ Below w.heap.size w w' := by
  obtain ⟨i0, hi, hz0, hz1, hz2⟩ := info_parts infoL
  obtain ⟨A, c, rfl, hc, hm⟩ := h.slice
  have hfl := flatS_len encL_len L
  have HC := Lib.hid (show ∀ ad : Addr, A = some ad → ∀ (j : Nat) (u : Value), (flatS encL L)[j]? = some u → w.cell? (ad.add j) = some u from fun ad hA => by subst hA; exact RowAt.source' encL_len h)
  have H1 := Lib.hid (flatS_one encL_one L)
  cases hA : A with
  | none =>
    have h0 : L = [] := by
      rcases L with _ | ⟨x, l⟩
      · rfl
      · subst hA
        obtain ⟨b, off, e, _⟩ := h.at_ (k := 0) (x := x) rfl
        cases e
    subst h0
    subst hA
    clear h hfl HC H1
    go_enter Try.func59, Try.ntmps59
    go_wp2
    go_ret
    exact ⟨_, rfl, World.ownsRow_nil _ _ _ _, bref _⟩
  | some ad =>
    have HC2 := Lib.hid (HC.out ad hA)
    subst hA
    clear h HC
    obtain ⟨m, hm'⟩ : ∃ m, L.length = m := ⟨_, rfl⟩
    rw [hm'] at hn hfl hc ⊢
    obtain ⟨fl, hfe⟩ : ∃ fl, flatS encL L = fl := ⟨_, rfl⟩
    rw [hfe] at hfl HC2 H1 ⊢
    clear hfe hm'
    go_enter Try.func59, Try.ntmps59
    go_wp2_with (at_builtin; refine wpList_append_own _ rfl _ _ 26 rfl w.heap.size 51 i0 (.agg #[.int .i64 0, .string ⟨#[]⟩, .int .i64 0, .int .i64 0, .int .i64 0]) 5 48 Try.underlying26 hi hz0 hz1 hz2 rfl (by decide) _ _ _ rfl (World.ownsRow_nil _ _ _ _) ad m c fl rfl (by rw [hfl]) HC2.out (fun u hu => H1.out u hu) (by unfold maxLen; omega) (by omega) (Nat.le_refl _) ?_; intro v' w1 hown' hgrow hnil)
    rw [Nat.zero_add, List.nil_append] at hown'
    have HO := Lib.hid hown'
    have HB := Lib.hid (Below.grown (bref w) hgrow (Nat.le_refl _) (fun j hj => by cases hj))
    clear hown' hgrow hnil
    go_wp2_with fail
    go_ret
    exact ⟨_, rfl, HO.out, HB.out⟩

theorem infoO : (Try.prog.info? 100).map (fun i => (i.zero, i.size, i.bytes)) = some (some (.agg #[.int .i64 0, .int .i64 0, .string ⟨#[]⟩, .int .i64 0, .string ⟨#[]⟩, .int .i64 0, .int .i64 0, .int .i64 0, .int .i64 0]), 9, 88) := by kernel_rfl

set_option maxHeartbeats 1000000 in
theorem flatO_run (P : Nat → Prop) (v : Value) (L : List Off) (w : World) (hn : L.length ≤ 1000000) (h : RowAt 9 encO P w v L) :
    Calls Try.prog 91 #[v] w fun e w' => ∃ v', e = .returned v' ∧ w'.ownsRow w.heap.size 100 9 v' L.length (flatS encO L) ∧ Below w.heap.size w w' := by
  obtain ⟨i0, hi, hz0, hz1, hz2⟩ := info_parts infoO
  obtain ⟨A, c, rfl, hc, hm⟩ := h.slice
  have hfl := flatS_len encO_len L
  have HC := Lib.hid (show ∀ ad : Addr, A = some ad → ∀ (j : Nat) (u : Value), (flatS encO L)[j]? = some u → w.cell? (ad.add j) = some u from fun ad hA => by subst hA; exact RowAt.source' encO_len h)
  have H1 := Lib.hid (flatS_one encO_one L)
  cases hA : A with
  | none =>
    have h0 : L = [] := by
      rcases L with _ | ⟨x, l⟩
      · rfl
      · subst hA
        obtain ⟨b, off, e, _⟩ := h.at_ (k := 0) (x := x) rfl
        cases e
    subst h0
    subst hA
    clear h hfl HC H1
    go_enter Try.func91, Try.ntmps91
    go_wp2
    go_ret
    exact ⟨_, rfl, World.ownsRow_nil _ _ _ _, bref _⟩
  | some ad =>
    have HC2 := Lib.hid (HC.out ad hA)
    subst hA
    clear h HC
    obtain ⟨m, hm'⟩ : ∃ m, L.length = m := ⟨_, rfl⟩
    rw [hm'] at hn hfl hc ⊢
    obtain ⟨fl, hfe⟩ : ∃ fl, flatS encO L = fl := ⟨_, rfl⟩
    rw [hfe] at hfl HC2 H1 ⊢
    clear hfe hm'
    go_enter Try.func91, Try.ntmps91
    go_wp2_with (at_builtin; refine wpList_append_own _ rfl _ _ 27 rfl w.heap.size 100 i0 (.agg #[.int .i64 0, .int .i64 0, .string ⟨#[]⟩, .int .i64 0, .string ⟨#[]⟩, .int .i64 0, .int .i64 0, .int .i64 0, .int .i64 0]) 9 88 Try.underlying27 hi hz0 hz1 hz2 rfl (by decide) _ _ _ rfl (World.ownsRow_nil _ _ _ _) ad m c fl rfl (by rw [hfl]) HC2.out (fun u hu => H1.out u hu) (by unfold maxLen; omega) (by omega) (Nat.le_refl _) ?_; intro v' w1 hown' hgrow hnil)
    rw [Nat.zero_add, List.nil_append] at hown'
    have HO := Lib.hid hown'
    have HB := Lib.hid (Below.grown (bref w) hgrow (Nat.le_refl _) (fun j hj => by cases hj))
    clear hown' hgrow hnil
    go_wp2_with fail
    go_ret
    exact ⟨_, rfl, HO.out, HB.out⟩

end Go.Proofs.Ytfmdnhhdjjndbaa
