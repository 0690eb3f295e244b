/- Package accounts: Begin, Give, Take, Total; the reference's Same; the example. -/
import Derived.Test.YtfmdnhhdjjndbaaA36b
namespace Go.Proofs.Ytfmdnhhdjjndbaa
set_option linter.unusedVariables false
set_option linter.unusedSimpArgs false
open Go.RowKit

set_option maxRecDepth 100000 in
set_option maxHeartbeats 4000000 in
theorem abegin_run (P : Nat → Prop) (L : List Acc) (i s f : Int) (a : Acc) (v : Value) (w : World) (hok : AccsOk L) (ha : L[findA i L]? = some a) (h : AccAt P w v L) :
    Calls Try.prog 14 #[v, .int .i64 i, .int .i64 s, .int .i64 f] w fun e w' => ∃ v', e = .returned (.tuple #[v', .int .i64 (beginE s f a)]) ∧ ChgOk w w' (beginE s f a) v' (L.set (findA i L) (beginU s f a)) := by
  have hb1 := balloc (bref w) (.cells #[.int .i64 s] 3)
  have hb2 := balloc hb1 (.cells #[.int .i64 f] 3)
  have c0 := (World.cell?_alloc_lt (w.alloc (.cells #[.int .i64 s] 3)) (.cells #[.int .i64 f] 3) ⟨w.heap.size, 0, none⟩ (by simp)).trans (row_new w #[.int .i64 s] 3 0)
  have c1 := row_new (w.alloc (.cells #[.int .i64 s] 3)) #[.int .i64 f] 3 0
  have hz : (w.alloc (.cells #[.int .i64 s] 3)).heap.size = w.heap.size + 1 := by simp
  rw [hz] at c1
  have HC := Lib.hid (change_run P 40 #[.pointer (some ⟨w.heap.size, 0, none⟩), .pointer (some ⟨w.heap.size + 1, 0, none⟩)] (beginE s f) (beginU s f) L i a v _ hok ha (h.below hb2) (fun _ _ => rfl) (begin1_run s f w.heap.size (w.heap.size + 1) a _ (hok.each _ _ ha) c0 c1))
  have HB := Lib.hid hb2
  obtain ⟨A, c, rfl, hc, hm⟩ := h.slice
  obtain ⟨E, hE⟩ : ∃ E, beginE s f a = E := ⟨_, rfl⟩
  rw [hE] at HC ⊢
  generalize L.set (findA i L) (beginU s f a) = L' at *
  clear h c0 c1 hz hb1 hb2 hE ha hok
  go_enter Try.func14, Try.ntmps14
  go_wp2_with fail
  refine HC.out.mono ?_
  rintro e w2 ⟨v', rfl, hch⟩
  have HCH := Lib.hid (show ChgOk w w2 E v' L' from ⟨hch.bad, fun h => (hch.good h).imp (fun b _ hp => by simp at hp; omega), bstep HB.out hch.bel⟩)
  clear hch
  go_wp2_with fail
  go_ret2
  exact ⟨v', rfl, HCH.out⟩

set_option maxRecDepth 100000 in
set_option maxHeartbeats 4000000 in
theorem agive_run (P : Nat → Prop) (L : List Acc) (i n : Int) (a : Acc) (v : Value) (w : World) (hn0 : 0 ≤ n) (hn1 : n ≤ 1000000000000) (hok : AccsOk L) (ha : L[findA i L]? = some a) (h : AccAt P w v L) :
    Calls Try.prog 19 #[v, .int .i64 i, .int .i64 n] w fun e w' => ∃ v', e = .returned (.tuple #[v', .int .i64 (giveE n a)]) ∧ ChgOk w w' (giveE n a) v' (L.set (findA i L) (giveU n a)) := by
  have hb1 := balloc (bref w) (.cells #[.int .i64 n] 3)
  have c0 := row_new w #[.int .i64 n] 3 0
  have HC := Lib.hid (change_run P 49 #[.pointer (some ⟨w.heap.size, 0, none⟩)] (giveE n) (giveU n) L i a v _ hok ha (h.below hb1) (fun _ _ => rfl) (give1_run n w.heap.size a _ (hok.each _ _ ha) hn0 hn1 c0))
  have HB := Lib.hid hb1
  obtain ⟨A, c, rfl, hc, hm⟩ := h.slice
  obtain ⟨E, hE⟩ : ∃ E, giveE n a = E := ⟨_, rfl⟩
  rw [hE] at HC ⊢
  generalize L.set (findA i L) (giveU n a) = L' at *
  clear h c0 hb1 hE ha hok
  go_enter Try.func19, Try.ntmps19
  go_wp2_with fail
  refine HC.out.mono ?_
  rintro e w2 ⟨v', rfl, hch⟩
  have HCH := Lib.hid (show ChgOk w w2 E v' L' from ⟨hch.bad, fun h => (hch.good h).imp (fun b _ hp => by simp at hp; omega), bstep HB.out hch.bel⟩)
  clear hch
  go_wp2_with fail
  go_ret2
  exact ⟨v', rfl, HCH.out⟩

set_option maxRecDepth 100000 in
set_option maxHeartbeats 4000000 in
theorem atake_run (P : Nat → Prop) (L : List Acc) (i n : Int) (a : Acc) (v : Value) (w : World) (hn0 : 0 ≤ n) (hn1 : n ≤ 1000000000000) (hok : AccsOk L) (ha : L[findA i L]? = some a) (h : AccAt P w v L) :
    Calls Try.prog 18 #[v, .int .i64 i, .int .i64 n] w fun e w' => ∃ v', e = .returned (.tuple #[v', .int .i64 (takeE n a)]) ∧ ChgOk w w' (takeE n a) v' (L.set (findA i L) (takeU n a)) := by
  have hb1 := balloc (bref w) (.cells #[.int .i64 n] 3)
  have c0 := row_new w #[.int .i64 n] 3 0
  have HC := Lib.hid (change_run P 47 #[.pointer (some ⟨w.heap.size, 0, none⟩)] (takeE n) (takeU n) L i a v _ hok ha (h.below hb1) (fun _ _ => rfl) (take1_run n w.heap.size a _ (hok.each _ _ ha) hn0 hn1 c0))
  have HB := Lib.hid hb1
  obtain ⟨A, c, rfl, hc, hm⟩ := h.slice
  obtain ⟨E, hE⟩ : ∃ E, takeE n a = E := ⟨_, rfl⟩
  rw [hE] at HC ⊢
  generalize L.set (findA i L) (takeU n a) = L' at *
  clear h c0 hb1 hE ha hok
  go_enter Try.func18, Try.ntmps18
  go_wp2_with fail
  refine HC.out.mono ?_
  rintro e w2 ⟨v', rfl, hch⟩
  have HCH := Lib.hid (show ChgOk w w2 E v' L' from ⟨hch.bad, fun h => (hch.good h).imp (fun b _ hp => by simp at hp; omega), bstep HB.out hch.bel⟩)
  clear hch
  go_wp2_with fail
  go_ret2
  exact ⟨v', rfl, HCH.out⟩

def totA : List Acc → Int
  | [] => 0
  | a :: l => a.bal + totA l

theorem totA_app : ∀ (l m : List Acc), totA (l ++ m) = totA l + totA m
  | [], m => by simp [totA]
  | a :: l, m => by
    have := totA_app l m
    simp only [List.cons_append, totA]
    omega

theorem totA_take {L : List Acc} {k : Nat} {a : Acc} (h : L[k]? = some a) : totA (L.take (k + 1)) = totA (L.take k) + a.bal := by
  rw [List.take_add_one, h, totA_app]
  simp [totA]

theorem totA_bd : ∀ (L : List Acc) (_ : ∀ (k : Nat) (a : Acc), L[k]? = some a → AccG a) (k : Nat), 0 ≤ totA (L.take k) ∧ totA (L.take k) ≤ (k : Int) * 1000000000000
  | L, h, 0 => by simp [totA]
  | L, h, k + 1 => by
    have ih := totA_bd L h k
    rcases hq : L[k]? with _ | a
    · have : L.take (k + 1) = L.take k := by rw [List.take_add_one, hq]; simp
      rw [this]
      refine ⟨ih.1, ?_⟩
      have : (k : Int) * 1000000000000 ≤ ((k + 1 : Nat) : Int) * 1000000000000 := by omega
      omega
    · rw [totA_take hq]
      obtain ⟨_, _, b0, b1, _, _⟩ := h k a hq
      have : ((k + 1 : Nat) : Int) * 1000000000000 = (k : Int) * 1000000000000 + 1000000000000 := by omega
      omega

theorem totA_set {L : List Acc} {F : Nat} {a a' : Acc} (h : L[F]? = some a) : totA (L.set F a') = totA L - a.bal + a'.bal := by
  have hF : F < L.length := (List.getElem?_eq_some_iff.1 h).1
  have he : L[F] = a := (List.getElem?_eq_some_iff.1 h).2
  have h1 : L = L.take F ++ a :: L.drop (F + 1) := by
    rw [← he]
    simp
  have h2 : L.set F a' = L.take F ++ a' :: L.drop (F + 1) := by
    rw [List.set_eq_take_append_cons_drop, if_pos hF]
  rw [h2, totA_app]
  have h3 : totA L = totA (L.take F) + totA (a :: L.drop (F + 1)) := by
    rw [← totA_app, ← h1]
  rw [h3]
  simp only [totA]
  omega

set_option maxRecDepth 100000 in
set_option maxHeartbeats 4000000 in
theorem atotal_run (P : Nat → Prop) (L : List Acc) (v : Value) (w : World) (hok : AccsOk L) (h : AccAt P w v L) :
    Calls Try.prog 16 #[v] w fun e w' => e = .returned (.int .i64 (totA L)) ∧ Below w.heap.size w w' := by
  have HCK := Lib.hid (acheck_run P L v w hok h)
  obtain ⟨A, c, rfl, hc, hm⟩ := h.slice
  have hlen := hok.len
  have H := Lib.hid h
  have HOK := Lib.hid hok
  obtain ⟨n, hn⟩ : ∃ n, L.length = n := ⟨_, rfl⟩
  have HT := Lib.hid (show totA L = totA (L.take n) by rw [← hn, List.take_length])
  have HBD := Lib.hid (fun k => totA_bd L hok.each k)
  rw [hn] at hlen H hc HCK ⊢
  have HN := Lib.hid hn
  clear h hok hn
  go_enter Try.func16, Try.ntmps16
  go_wp2_with fail
  refine HCK.out.mono ?_
  rintro e w1 ⟨rfl, hb1⟩
  have HB1 := Lib.hid hb1
  clear hb1
  go_wp2_with fail
  go_loopw [3, 11] (fun s t W => ∃ (k : Nat) (x : Int), k ≤ n ∧ s = .int .i64 x ∧ t = .int .i64 k ∧ Hid (x = totA (L.take k)) ∧ Hid (Below w.heap.size w W)) (fun _ t _ => n - (intOf t).toNat)
  case atStart => exact ⟨0, 0, by omega, rfl, rfl, Lib.hid (by simp [totA]), HB1⟩
  case round =>
    obtain ⟨k, x, hk, rfl, rfl, hx, hB⟩ := hrel
    by_cases hlt : k < n
    · obtain ⟨a, ha⟩ : ∃ a, L[k]? = some a := ⟨_, List.getElem?_eq_getElem (by rw [HN.out]; exact hlt)⟩
      obtain ⟨b, off, rfl, hP, hbl, d0, d1, d2⟩ := accBox (H.out.below hB.out) ha
      have HX := Lib.hid (show x + a.bal = totA (L.take (k + 1)) by rw [totA_take ha, hx.out])
      have hw : wrap64 (x + a.bal) = x + a.bal := IntWalk.wrap64_in _ (by
        have h1 := HBD.out (k + 1)
        rw [← HX.out] at h1
        have : ((k + 1 : Nat) : Int) * 1000000000000 ≤ 20 * 1000000000000 := by omega
        omega)
      have HB2 := Lib.hid (balloc hB.out (.cells #[.int .i64 a.id, .int .i64 a.bal, .int .i64 a.seq] 34))
      clear ha hx
      go_wp2_with fail
      go_roundw
      case rel => exact ⟨k + 1, x + a.bal, by omega, by rw [hw], by go_num, HX, HB2⟩
      case measure => simp [intOf]; omega
    · obtain rfl : k = n := by omega
      have HF := Lib.hid (hx.out.trans HT.out.symm)
      go_wp2_with fail
      go_ret
      exact ⟨by rw [← HF.out]; rfl, hB.out⟩

set_option maxRecDepth 100000 in
set_option maxHeartbeats 4000000 in
theorem same36_run (P Q : Nat → Prop) (L : List Acc) (v u : Value) (w : World) (hlen : L.length ≤ 1000) (h : AccAt P w v L) (h2 : AccAt Q w u L) :
    Calls Try.prog 20 #[v, u] w fun e w' => e = .returned (.bool true) ∧ Below w.heap.size w w' := by
  obtain ⟨A, c, rfl, hc, hm⟩ := h.slice
  obtain ⟨A2, c2, rfl, hc2, hm2⟩ := h2.slice
  have H := Lib.hid h
  have H2 := Lib.hid h2
  obtain ⟨n, hn⟩ : ∃ n, L.length = n := ⟨_, rfl⟩
  rw [hn] at hlen H H2 hc hc2 ⊢
  have HN := Lib.hid hn
  clear h h2 hn
  go_enter Try.func20, Try.ntmps20
  go_wp2_with fail
  go_loopw [13] (fun t W => ∃ k : Nat, k ≤ n ∧ t = .int .i64 k ∧ Hid (Below w.heap.size w W)) (fun t _ => n - (intOf t).toNat)
  case atStart => exact ⟨0, by omega, rfl, Lib.hid (bref _)⟩
  case round =>
    obtain ⟨k, hk, rfl, hB⟩ := hrel
    by_cases hlt : k < n
    · obtain ⟨a, ha⟩ : ∃ a, L[k]? = some a := ⟨_, List.getElem?_eq_getElem (by rw [HN.out]; exact hlt)⟩
      obtain ⟨b, off, rfl, hP, hbl, d0, d1, d2⟩ := accBox (H.out.below hB.out) ha
      obtain ⟨b2, off2, rfl, hP2, hbl2, e0, e1, e2⟩ := accBox (H2.out.below hB.out) ha
      have hS := Lib.hid (show Cs [(⟨b, off + k * 3, none⟩, .int .i64 a.id), (⟨b, off + k * 3 + 1, none⟩, .int .i64 a.bal), (⟨b, off + k * 3 + 2, none⟩, .int .i64 a.seq), (⟨b2, off2 + k * 3, none⟩, .int .i64 a.id), (⟨b2, off2 + k * 3 + 1, none⟩, .int .i64 a.bal), (⟨b2, off2 + k * 3 + 2, none⟩, .int .i64 a.seq)] wr.drew from ⟨d0, d1, d2, e0, e1, e2, trivial⟩)
      have q0 : (0 : Int) ≤ (k : Int) := by omega
      have q1 : (k : Int) < (n : Int) := by omega
      have HB2 := Lib.hid (bdrew hB.out)
      clear d0 d1 d2 e0 e1 e2 ha
      go_upto_region 6 with fail
      refine wp_region_held_drew (S := (fun W => Cs [(⟨b, off + k * 3, none⟩, .int .i64 a.id), (⟨b, off + k * 3 + 1, none⟩, .int .i64 a.bal), (⟨b, off + k * 3 + 2, none⟩, .int .i64 a.seq), (⟨b2, off2 + k * 3, none⟩, .int .i64 a.id), (⟨b2, off2 + k * 3 + 1, none⟩, .int .i64 a.bal), (⟨b2, off2 + k * 3 + 2, none⟩, .int .i64 a.seq)] W)) (by kernel_rfl) hS.out (fun hSK => ?_)
      refine take_d (some 16) (i := 0) (v := ?_) rfl rfl (by kernel_rfl) (by kernel_rfl) (by kernel_rfl) (fun _ _ _ h => h) (Or.inl ⟨by rfl, ?_⟩) (by assumption) ?_
      rotate_left
      · intro w hSw; (dsimp only [Cs] at hSw); go_simp; (try with_reducible rfl)
      try simp only [Act.put, List.setIfInBounds_toArray, List.set_cons_zero, List.set_cons_succ]
      refine take_d (some 17) (i := 1) (v := ?_) rfl rfl (by kernel_rfl) (by kernel_rfl) (by kernel_rfl) (fun _ _ _ h => h) (Or.inl ⟨by rfl, ?_⟩) (by assumption) ?_
      rotate_left
      · intro w hSw; (dsimp only [Cs] at hSw); go_simp; (try with_reducible rfl)
      try simp only [Act.put, List.setIfInBounds_toArray, List.set_cons_zero, List.set_cons_succ]
      refine take_d (some 18) (i := 2) (v := ?_) rfl rfl (by kernel_rfl) (by kernel_rfl) (by kernel_rfl) (fun _ _ _ h => h) (Or.inl ⟨by rfl, ?_⟩) (by assumption) ?_
      rotate_left
      · intro w hSw; (dsimp only [Cs] at hSw); go_simp; (try with_reducible rfl)
      try simp only [Act.put, List.setIfInBounds_toArray, List.set_cons_zero, List.set_cons_succ]
      refine take_d (some 19) (i := 3) (v := ?_) rfl rfl (by kernel_rfl) (by kernel_rfl) (by kernel_rfl) (fun _ _ _ h => h) (Or.inl ⟨by rfl, ?_⟩) (by assumption) ?_
      rotate_left
      · intro w hSw; (dsimp only [Cs] at hSw); go_simp; (try with_reducible rfl)
      try simp only [Act.put, List.setIfInBounds_toArray, List.set_cons_zero, List.set_cons_succ]
      refine take_d (some 20) (i := 4) (v := ?_) rfl rfl (by kernel_rfl) (by kernel_rfl) (by kernel_rfl) (fun _ _ _ h => h) (Or.inl ⟨by rfl, ?_⟩) (by assumption) ?_
      rotate_left
      · intro w hSw; (dsimp only [Cs] at hSw); go_simp; (try with_reducible rfl)
      try simp only [Act.put, List.setIfInBounds_toArray, List.set_cons_zero, List.set_cons_succ]
      refine take_d (some 21) (i := 5) (v := ?_) rfl rfl (by kernel_rfl) (by kernel_rfl) (by kernel_rfl) (fun _ _ _ h => h) (Or.inl ⟨by rfl, ?_⟩) (by assumption) ?_
      rotate_left
      · intro w hSw; (dsimp only [Cs] at hSw); go_simp; (try with_reducible rfl)
      try simp only [Act.put, List.setIfInBounds_toArray, List.set_cons_zero, List.set_cons_succ]
      refine take_d (some 22) (i := 6) (v := ?_) rfl rfl (by kernel_rfl) (by kernel_rfl) (by kernel_rfl) (fun _ _ _ h => h) (Or.inl ⟨by rfl, ?_⟩) (by assumption) ?_
      rotate_left
      · intro w hSw; (dsimp only [Cs] at hSw); go_simp; (try with_reducible rfl)
      try simp only [Act.put, List.setIfInBounds_toArray, List.set_cons_zero, List.set_cons_succ]
      refine take_d (some 23) (i := 7) (v := ?_) rfl rfl (by kernel_rfl) (by kernel_rfl) (by kernel_rfl) (fun _ _ _ h => h) (Or.inl ⟨by rfl, ?_⟩) (by assumption) ?_
      rotate_left
      · intro w hSw; (dsimp only [Cs] at hSw); go_simp; (try with_reducible rfl)
      try simp only [Act.put, List.setIfInBounds_toArray, List.set_cons_zero, List.set_cons_succ]
      refine take_d (some 24) (i := 8) (v := ?_) rfl rfl (by kernel_rfl) (by kernel_rfl) (by kernel_rfl) (fun _ _ _ h => h) (Or.inl ⟨by rfl, ?_⟩) (by assumption) ?_
      rotate_left
      · intro w hSw; (dsimp only [Cs] at hSw); go_simp; (try with_reducible rfl)
      try simp only [Act.put, List.setIfInBounds_toArray, List.set_cons_zero, List.set_cons_succ]
      refine wpAnyH_done (by kernel_rfl) ?_ _
      clear hSK hS
      go_wp2_with fail
      go_roundw
      case rel => exact ⟨k + 1, by omega, by go_num, HB2⟩
      case measure => simp [intOf]; omega
    · obtain rfl : k = n := by omega
      go_wp2_with fail
      go_ret
      exact ⟨rfl, hB.out⟩

theorem acc1 (w : World) (x y z : Int) : AccAt (fun _ => True) (w.alloc (.cells #[.int .i64 x, .int .i64 y, .int .i64 z] 34)) (.slice (some ⟨w.heap.size, 0, none⟩) 1 1) [⟨x, y, z⟩] := by
  refine ⟨_, _, rfl, by simp, by unfold maxLen; omega, fun k a ha => ⟨w.heap.size, 0, rfl, trivial, by simp, fun j u hu => ?_⟩⟩
  rcases k with _ | k
  · simp at ha
    subst ha
    rw [show 0 + 0 * 3 + j = j by omega, row_new w _ _ j]
    simpa [encA] using hu
  · simp at ha

theorem accs1 {x y z : Int} (h : AccG ⟨x, y, z⟩) : AccsOk [⟨x, y, z⟩] :=
  ⟨by simp, fun k a ha => (by
    rcases k with _ | k
    · simp at ha; subst ha; exact h
    · simp at ha), fun k a b ha hb => (by simp at hb)⟩

set_option maxRecDepth 100000 in
set_option maxHeartbeats 4000000 in
theorem sane36 (w : World) : Calls Try.prog 15 #[] w fun e w' => e = .returned (.bool true) ∧ Below w.heap.size w w' := by
  have hok : AccsOk [⟨2, 10, 0⟩] := accs1 ⟨by decide, by decide, by decide, by decide, by decide, by decide⟩
  have hok2 : AccsOk [⟨2, 5, 1⟩] := accs1 ⟨by decide, by decide, by decide, by decide, by decide, by decide⟩
  have HBG := Lib.hid (abegin_run (fun _ => True) [⟨2, 10, 0⟩] 2 1 5 ⟨2, 10, 0⟩ _ _ hok rfl (acc1 w 2 10 0))
  rw [show beginE 1 5 ⟨2, 10, 0⟩ = 0 by decide, show ([⟨2, 10, 0⟩] : List Acc).set (findA 2 [⟨2, 10, 0⟩]) (beginU 1 5 ⟨2, 10, 0⟩) = [⟨2, 5, 1⟩] from rfl] at HBG
  have HTO := Lib.hid (fun P v W hv => atotal_run P [⟨2, 5, 1⟩] v W hok2 hv)
  rw [show totA [⟨2, 5, 1⟩] = 5 from rfl] at HTO
  have HB0 := Lib.hid (balloc (bref w) (.cells #[.int .i64 2, .int .i64 10, .int .i64 0] 34))
  clear hok hok2
  go_enter Try.func15, Try.ntmps15
  go_wp2_with fail
  refine HBG.out.mono ?_
  rintro e w2 ⟨v', rfl, hch⟩
  have HA2 := Lib.hid (hch.good rfl)
  have HB2 := Lib.hid (bstep HB0.out hch.bel)
  obtain ⟨A, c, rfl, _, _⟩ := HA2.out.slice
  clear hch
  go_wp2_with fail
  have hba := balloc (bref w2) (.cells #[.int .i64 2, .int .i64 5, .int .i64 1] 34)
  have HA3 := Lib.hid (HA2.out.below hba)
  have HB3 := Lib.hid (bstep HB2.out hba)
  clear hba
  refine (same36_run _ _ [⟨2, 5, 1⟩] _ _ _ (by simp) HA3.out (acc1 w2 2 5 1)).mono ?_
  rintro e w3 ⟨rfl, hb3⟩
  have HA4 := Lib.hid (HA3.out.below hb3)
  have HB4 := Lib.hid (bstep HB3.out hb3)
  clear hb3
  go_wp2_with fail
  refine (HTO.out _ _ _ HA4.out).mono ?_
  rintro e w4 ⟨rfl, hb4⟩
  have HB5 := Lib.hid (bstep HB4.out hb4)
  clear hb4
  go_wp2_with fail
  go_ret
  exact ⟨rfl, HB5.out⟩

end Go.Proofs.Ytfmdnhhdjjndbaa
