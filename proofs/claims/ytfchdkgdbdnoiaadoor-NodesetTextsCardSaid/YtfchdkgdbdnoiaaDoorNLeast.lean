/- The contract of nodeset.Least. -/
import Derived.Test.YtfchdkgdbdnoiaaDoorFind
namespace Go.Proofs.YtfchdkgdbdnoiaaDoor
set_option linter.unusedVariables false
set_option linter.unusedSimpArgs false
open Go.RowKit

/-- The sets below 2^n of which p holds, in order. -/
def IsFind (n : Nat) (p : Nat → Bool) (l : List Nat) : Prop := Asc l ∧ (∀ t, t ∈ l ↔ (t < 2 ^ n ∧ p t = true)) ∧ l.length ≤ 1024

set_option maxRecDepth 100000 in
set_option maxHeartbeats 4000000 in
theorem findL_run (tb n : Nat) (hn : n ≤ 10) (p : Nat → Bool) (w : World) (hT : ThereAt w tb p) :
    Calls Tryd.prog 25 #[.int .i64 (n : Int), .func (.func 36) #[] #[.pointer (some ⟨tb, 0, none⟩)]] w fun e w' => ∃ v l, e = .returned v ∧ w'.ownsRow w.heap.size 3 1 v l.length ((zs l).map (Value.int .i64)) ∧ IsFind n p l ∧ Below w.heap.size w w' := by
  obtain ⟨i0, hin, hz0, hz1, hz2⟩ := info_parts infoInt
  have hp := pow11 n (by omega)
  have h10 : 2 ^ n ≤ 2 ^ 10 := Nat.pow_le_pow_right (by omega) hn
  have HF := Lib.hid (show ∀ l, IsFind n p l ↔ (Asc l ∧ (∀ t, t ∈ l ↔ (t < 2 ^ n ∧ p t = true)) ∧ l.length ≤ 1024) from fun _ => Iff.rfl)
  have hn0 : (0 : Int) ≤ (n : Int) := by omega
  have hn64 : ¬ (64 : Int) ≤ (n : Int) := by omega
  obtain ⟨N, hN⟩ : ∃ N, 2 ^ n = N := ⟨_, rfl⟩
  rw [hN] at hp h10
  rw [hN] at HF
  clear hN
  have HT := Lib.hid hT
  have htb := hT.lt
  clear hT
  go_enter Tryd.func25, Tryd.ntmps25
  go_wp2_with fail
  go_loopw [5, 9] (fun v t W => ∃ (k : Nat) (l : List Nat) (vv : Value), k ≤ N ∧ v = vv ∧ t = .int .i64 k ∧ W.ownsRow w.heap.size 3 1 vv l.length ((zs l).map (Value.int .i64)) ∧ Hid (l = (List.range k).filter p) ∧ Hid (Below w.heap.size w W)) (fun _ t _ => N - (intOf t).toNat)
  case atStart => exact ⟨0, [], .slice none 0 0, by omega, rfl, rfl, World.ownsRow_nil _ _ _ _, Lib.hid rfl, Lib.hid (bref _)⟩
  case round =>
    obtain ⟨k, l, v, hk, hv, rfl, hown, hL, hB⟩ := hrel
    replace hv := hv.symm
    subst hv
    have hlen : l.length ≤ k := by rw [hL.out]; exact Nat.le_trans (List.length_filter_le _ _) (by simp)
    have HOWN := Lib.hid hown
    by_cases hlt : k < N
    · have HTk := Lib.hid (HT.out.keep (hB.out.block tb htb))
      rcases (show p k = false ∨ p k = true by cases p k <;> simp) with hpk | hpk
      · have HL2 := Lib.hid (show l = (List.range (k + 1)).filter p by rw [List.range_succ, List.filter_append, ← hL.out]; simp [hpk])
        have HP := Lib.hid hpk
        clear hown hpk
        go_wp2_with fail
        refine (least1_run tb p k (by omega) _ HTk.out).mono ?_
        rintro e w2 ⟨rfl, rfl⟩
        rw [HP.out]
        go_wp2_with fail
        go_roundw
        case rel => exact ⟨k + 1, l, _, by omega, rfl, by go_num, HOWN.out, HL2, hB⟩
        case measure => simp [intOf]; omega
      · have HL2 := Lib.hid (show l ++ [k] = (List.range (k + 1)).filter p by rw [List.range_succ, List.filter_append, ← hL.out]; simp [hpk])
        have HP := Lib.hid hpk
        have hbs := hB.out.size
        have hzl := zs_len l
        clear hpk
        go_wp2_with fail
        refine (least1_run tb p k (by omega) _ HTk.out).mono ?_
        rintro e w2 ⟨rfl, rfl⟩
        rw [HP.out]
        go_wp2_with (at_builtin; refine wpList_append_own _ rfl _ _ 28 rfl w.heap.size 3 i0 (.int .i64 0) 1 8 Tryd.underlying28 hin hz0 hz1 hz2 rfl (by decide) _ _ _ rfl (hown.alloc _) ⟨wr.heap.size, 0, none⟩ 1 1 [.int .i64 (k : Int)] rfl rfl (cell_one_new _ _ _) (fun u hu => by simp at hu; subst hu; rfl) (by unfold maxLen; omega) (by omega) (by simp; omega) ?_; intro v' w1 hown' hgrow hnil)
        have HO := Lib.hid (own_snocZ hown')
        have HB4 := Lib.hid (Below.grown (balloc hB.out (.cells #[.int .i64 (k : Int)] 3)) hgrow (by simp; omega) (fun j hj => (hown.lt j hj).1))
        clear hown' hgrow hnil hown
        go_roundw
        case rel => exact ⟨k + 1, l ++ [k], _, by omega, rfl, by go_num, HO.out, HL2, HB4⟩
        case measure => simp [intOf]; omega
    · obtain rfl : k = N := by omega
      have hmem : ∀ t ∈ l, t < 1024 := fun t ht => by
        rw [hL.out] at ht
        have := List.mem_range.1 (List.mem_filter.1 ht).1
        omega
      have hnd : l.Nodup := by rw [hL.out]; exact List.nodup_iff_pairwise_ne.2 ((List.nodup_iff_pairwise_ne.1 List.nodup_range).filter _)
      have HS := Lib.hid (fun W => sortN_run l hmem hnd v w.heap.size W (by omega))
      have HLT := Lib.hid (fun j hj => (hown.lt j hj).1)
      obtain ⟨A, c, hv⟩ := own_slice hown
      clear hown hmem hnd
      subst hv
      go_wp2_with fail
      refine (HS.out _ HOWN.out).mono ?_
      rintro e w2 ⟨rfl, m, hpm, hasc, hml, hown2, hg2⟩
      have HR := Lib.hid (show w2.ownsRow w.heap.size 3 1 (.slice A l.length c) m.length ((zs m).map (Value.int .i64)) ∧ IsFind n p m ∧ Below w.heap.size w w2 from
        ⟨by rw [hml]; exact hown2, (HF.out m).2 ⟨hasc, fun t => by rw [hpm.mem_iff, hL.out, List.mem_filter, List.mem_range], by omega⟩, Below.grown hB.out hg2 hB.out.size (fun j hj => HLT.out j hj)⟩)
      clear hown2 hg2 hpm hasc hml
      go_wp2_with fail
      go_ret
      exact ⟨_, m, rfl, HR.out⟩

set_option maxHeartbeats 1000000 in
theorem indexL2_run (P : Nat → Prop) (v : Value) (ls : List Nat) (sb s : Nat) (w : World) (hN : NodesAt P w v (zs ls)) (hl : ∀ t ∈ ls, t < 1024) (hlen : ls.length ≤ 100000) (hs : s < 1024) (hc : w.cell? ⟨sb, 0, none⟩ = some (.int .i64 (s : Int))) :
    Calls Tryd.prog 33 #[v, .func (.func 37) #[] #[.pointer (some ⟨sb, 0, none⟩)]] w fun e w' => (∃ i : Int, e = .returned (.int .i64 i) ∧ decide (0 ≤ i) = ls.any (fun t => subB t s)) ∧ w = w' := by
  obtain ⟨A, c, rfl, hN2⟩ := hN
  rw [zs_len] at hN2 ⊢
  have H := Lib.hid hN2
  have HL := Lib.hid hl
  clear hN2 hl
  go_enter Tryd.func33, Tryd.ntmps33
  go_wp2_with fail
  go_loop [8] (fun t => ∃ k : Nat, k ≤ ls.length ∧ t = .int .i64 k ∧ Hid ((ls.take k).any (fun t => subB t s) = false)) (fun t => ls.length - (intOf t).toNat)
  case atStart => exact ⟨0, by omega, rfl, Lib.hid rfl⟩
  case round =>
    obtain ⟨k, hk, rfl, hA⟩ := hrel
    by_cases hlt : k < ls.length
    · obtain ⟨b, off, rfl, hPb, hcc⟩ := H.out k hlt
      have hx0 : ls[k]? = some (ls.getD k 0) := by rw [List.getD_eq_getElem?_getD, List.getElem?_eq_getElem hlt]; rfl
      have hx1 := HL.out _ (List.mem_of_getElem? hx0)
      rw [zs_get] at hcc
      have HTK := Lib.hid (show ls.take (k + 1) = ls.take k ++ [ls.getD k 0] by rw [List.take_add_one, hx0]; rfl)
      have HM := Lib.hid (List.mem_of_getElem? hx0)
      clear hx0 hPb
      generalize ls.getD k 0 = x at *
      rcases (show subB x s = false ∨ subB x s = true by cases subB x s <;> simp) with hq | hq
      · have HQ := Lib.hid hq
        have HA2 := Lib.hid (show (ls.take (k + 1)).any (fun t => subB t s) = false by rw [HTK.out, List.any_append, hA.out]; simp [hq])
        clear hq
        go_wp2_with fail
        refine (least2_run sb s x hx1 hs _ hc).mono ?_
        rintro e w2 ⟨rfl, rfl⟩
        rw [HQ.out]
        go_wp2_with fail
        go_round
        case rel => exact ⟨k + 1, by omega, by go_num, HA2⟩
        case measure => simp [intOf]; omega
      · have HQ := Lib.hid hq
        have HA2 := Lib.hid (show ls.any (fun t => subB t s) = true from List.any_eq_true.2 ⟨x, HM.out, hq⟩)
        clear hq
        go_wp2_with fail
        refine (least2_run sb s x hx1 hs _ hc).mono ?_
        rintro e w2 ⟨rfl, rfl⟩
        rw [HQ.out]
        go_wp2_with fail
        go_ret
        exact ⟨⟨_, rfl, by rw [HA2.out]; exact decide_eq_true (by omega)⟩, rfl⟩
    · obtain rfl : k = ls.length := by omega
      have HA2 := Lib.hid (show ls.any (fun t => subB t s) = false by have := hA.out; rwa [List.take_length] at this)
      go_wp2_with fail
      go_ret
      exact ⟨⟨_, rfl, by rw [HA2.out]; rfl⟩, rfl⟩

set_option maxHeartbeats 1000000 in
theorem containsL2_run (P : Nat → Prop) (v : Value) (ls : List Nat) (sb s : Nat) (w : World) (hN : NodesAt P w v (zs ls)) (hl : ∀ t ∈ ls, t < 1024) (hlen : ls.length ≤ 100000) (hs : s < 1024) (hc : w.cell? ⟨sb, 0, none⟩ = some (.int .i64 (s : Int))) :
    Calls Tryd.prog 23 #[v, .func (.func 37) #[] #[.pointer (some ⟨sb, 0, none⟩)]] w fun e w' => e = .returned (.bool (ls.any (fun t => subB t s))) ∧ w = w' := by
  have hN0 := hN
  obtain ⟨A, c, rfl, _⟩ := hN0
  have HN := Lib.hid hN
  have HL := Lib.hid hl
  have HC := Lib.hid hc
  clear hN hl hc
  go_enter Tryd.func23, Tryd.ntmps23
  go_wp2_with fail
  refine (indexL2_run P _ ls sb s _ HN.out HL.out hlen hs HC.out).mono ?_
  rintro e w2 ⟨⟨i, rfl, hi⟩, rfl⟩
  have HI := Lib.hid hi
  clear hi
  go_wp2_with fail
  go_ret
  exact ⟨by rw [← HI.out]; rfl, rfl⟩

theorem subB_iff {t s : Nat} : subB t s = true ↔ t &&& s = t := by unfold subB; simp

theorem subB_refl (t : Nat) : subB t t = true := subB_iff.2 (Nat.and_self t)

theorem subB_trans {a b c : Nat} (h1 : subB a b = true) (h2 : subB b c = true) : subB a c = true := by
  rw [subB_iff] at *
  rw [← h1, Nat.and_assoc, h2]

theorem subB_bit {t s k : Nat} (h : subB t s = true) (hk : t.testBit k = true) : s.testBit k = true := by
  rw [subB_iff] at h
  rw [← h, Nat.testBit_and, Bool.and_eq_true] at hk
  exact hk.2

theorem subB_le {t s : Nat} (h : subB t s = true) : t ≤ s := by
  rw [subB_iff] at h
  rw [← h]; exact Nat.and_le_right

theorem subB_popc {t s : Nat} (h : subB t s = true) : popc t ≤ popc s := by
  unfold popc
  exact List.countP_mono_left (fun i _ hi => subB_bit h hi)

theorem subB_key {t s : Nat} (h : subB t s = true) (hne : t ≠ s) : keyC t < keyC s := by
  have h1 := subB_popc h
  have h2 := subB_le h
  unfold keyC
  omega

/-- The sets of which p holds and of which no proper subset is such a set, in order. -/
def IsLeast (p : Nat → Bool) (l : List Nat) : Prop := Asc l ∧ (∀ t, t ∈ l ↔ (t < 1024 ∧ p t = true ∧ ∀ y, p y = true → subB y t = true → y = t)) ∧ l.length ≤ 1024

theorem asc_nodup {l : List Nat} (h : Asc l) : l.Nodup := List.nodup_iff_pairwise_ne.2 (h.imp (fun h e => by rw [e] at h; exact Nat.lt_irrefl _ h))

theorem asc_get {l : List Nat} (h : Asc l) {i j : Nat} {a b : Nat} (ha : l[i]? = some a) (hb : l[j]? = some b) (hk : keyC a < keyC b) : i < j := by
  rcases Nat.lt_trichotomy i j with hij | hij | hij
  · exact hij
  · subst hij; rw [ha] at hb; cases hb; omega
  · obtain ⟨h1, h2⟩ := List.getElem?_eq_some_iff.1 ha
    obtain ⟨h3, h4⟩ := List.getElem?_eq_some_iff.1 hb
    have := List.pairwise_iff_getElem.1 h j i h3 h1 hij
    rw [h2, h4] at this
    omega

/-- Two lists in order with the same sets are one. -/
theorem asc_ext : ∀ {l m : List Nat}, Asc l → Asc m → (∀ t, t ∈ l ↔ t ∈ m) → l = m
  | [], [], _, _, _ => rfl
  | [], b :: m, _, _, h => by have := (h b).2 (by simp); cases this
  | a :: l, [], _, _, h => by have := (h a).1 (by simp); cases this
  | a :: l, b :: m, h1, h2, h => by
    obtain ⟨ha, hl⟩ := List.pairwise_cons.1 h1
    obtain ⟨hb, hm⟩ := List.pairwise_cons.1 h2
    have e : a = b := by
      rcases List.mem_cons.1 ((h a).1 (by simp)) with h3 | h3
      · exact h3
      · rcases List.mem_cons.1 ((h b).2 (by simp)) with h4 | h4
        · exact h4.symm
        · have := hb a h3; have := ha b h4; omega
    subst e
    rw [asc_ext hl hm (fun t => by
      have h3 := h t
      rw [List.mem_cons, List.mem_cons] at h3
      constructor
      · intro ht
        rcases h3.1 (.inr ht) with h4 | h4
        · subst h4; have := ha t ht; omega
        · exact h4
      · intro ht
        rcases h3.2 (.inr ht) with h4 | h4
        · subst h4; have := hb t ht; omega
        · exact h4)]

theorem isLeast_ext {p q : Nat → Bool} {l m : List Nat} (h1 : IsLeast p l) (h2 : IsLeast q m) (hpq : ∀ t, t < 1024 → p t = q t) (hp : ∀ t, p t = true → t < 1024) (hq : ∀ t, q t = true → t < 1024) : l = m := by
  have e : p = q := by
    funext t
    rcases Nat.lt_or_ge t 1024 with h | h
    · exact hpq t h
    · cases ha : p t <;> cases hb : q t
      · rfl
      · have := hq t hb; omega
      · have := hp t ha; omega
      · rfl
  subst e
  exact asc_ext h1.1 h2.1 (fun t => by rw [h1.2.1 t, h2.2.1 t])

/-- Below each set of which p holds there is a least one. -/
theorem least_below {p : Nat → Bool} : ∀ (n t : Nat), t ≤ n → p t = true → ∃ y, p y = true ∧ subB y t = true ∧ ∀ z, p z = true → subB z y = true → z = y := by
  intro n
  induction n with
  | zero =>
    intro t ht hp
    obtain rfl : t = 0 := by omega
    exact ⟨0, hp, subB_refl _, fun z _ hz => by have := subB_le hz; omega⟩
  | succ n ih =>
    intro t ht hp
    by_cases h : ∃ z, p z = true ∧ subB z t = true ∧ z ≠ t
    · obtain ⟨z, h1, h2, h3⟩ := h
      have := subB_le h2
      obtain ⟨y, y1, y2, y3⟩ := ih z (by omega) h1
      exact ⟨y, y1, subB_trans y2 h2, y3⟩
    · exact ⟨t, hp, subB_refl _, fun z hz hs => Classical.byContradiction (fun hne => h ⟨z, hz, hs, hne⟩)⟩

/-- One set further. -/
theorem least_step {p : Nat → Bool} {n : Nat} (hn : ∀ t, p t = true → t < 2 ^ n) {L : List Nat} (hL : IsFind n p L) (q : Nat → Bool) (hq : ∀ t, q t = true ↔ (p t = true ∧ ∀ y, p y = true → subB y t = true → y = t)) {k s : Nat} (hk : L[k]? = some s) :
    ((L.take k).filter q).any (fun t => subB t s) = !q s := by
  have hps := ((hL.2.1 s).1 (List.mem_of_getElem? hk)).2
  rw [Bool.eq_iff_iff]
  simp only [Bool.not_eq_true', List.any_eq_true]
  constructor
  · rintro ⟨t, ht, hts⟩
    obtain ⟨ht1, ht2⟩ := List.mem_filter.1 ht
    cases hqs : q s
    · rfl
    · have e := ((hq s).1 hqs).2 t ((hq t).1 ht2).1 hts
      subst e
      obtain ⟨i, hi⟩ := List.mem_iff_getElem?.1 ht1
      have hik : i < k := by
        have := (List.getElem?_eq_some_iff.1 hi).1
        simp at this; omega
      rw [List.getElem?_take_of_lt hik] at hi
      have h2 := List.getElem?_eq_some_iff.1 hi
      have h3 := List.getElem?_eq_some_iff.1 hk
      obtain ⟨h2, e2⟩ := h2
      obtain ⟨h3, e3⟩ := h3
      have := List.pairwise_iff_getElem.1 hL.1 i k h2 h3 hik
      rw [e2, e3] at this
      omega
  · intro hqs
    obtain ⟨y, y1, y2, y3⟩ := least_below (p := p) s s (Nat.le_refl _) hps
    have hne : y ≠ s := by
      rintro rfl
      have := (hq y).2 ⟨hps, fun z hz hs => y3 z hz hs⟩
      rw [hqs] at this; cases this
    have hy : y ∈ L := (hL.2.1 y).2 ⟨hn y y1, y1⟩
    obtain ⟨i, hi⟩ := List.mem_iff_getElem?.1 hy
    have hik := asc_get hL.1 hi hk (subB_key y2 hne)
    refine ⟨y, List.mem_filter.2 ⟨List.mem_iff_getElem?.2 ⟨i, by rw [List.getElem?_take_of_lt hik]; exact hi⟩, (hq y).2 ⟨y1, y3⟩⟩, y2⟩

theorem least_end {p : Nat → Bool} (hn : ∀ t, p t = true → t < 1024) {L : List Nat} (hL : IsFind 10 p L) (q : Nat → Bool) (hq : ∀ t, q t = true ↔ (p t = true ∧ ∀ y, p y = true → subB y t = true → y = t)) : IsLeast p (L.filter q) :=
  ⟨hL.1.filter _, fun t => by
    rw [List.mem_filter, hL.2.1 t, hq t]
    constructor
    · rintro ⟨⟨h1, _⟩, h2, h3⟩; exact ⟨h1, h2, h3⟩
    · rintro ⟨h1, h2, h3⟩; exact ⟨⟨h1, h2⟩, h2, h3⟩, Nat.le_trans (List.length_filter_le _ _) hL.2.2⟩

/-- The sets of a list of ints. -/
def pz (z : List Int) (t : Nat) : Bool := decide (t < 1024) && decide ((t : Int) ∈ z)

theorem pz_iff {z : List Int} {t : Nat} : pz z t = true ↔ t < 1024 ∧ (t : Int) ∈ z := by unfold pz; simp

theorem pz_lt {z : List Int} {t : Nat} (h : pz z t = true) : t < 1024 := (pz_iff.1 h).1

/-- Is it a least one? -/
noncomputable def leB (p : Nat → Bool) (t : Nat) : Bool := @decide (p t = true ∧ ∀ y, p y = true → subB y t = true → y = t) (Classical.propDecidable _)

theorem leB_iff (p : Nat → Bool) (t : Nat) : leB p t = true ↔ (p t = true ∧ ∀ y, p y = true → subB y t = true → y = t) := by unfold leB; exact @decide_eq_true_iff _ (Classical.propDecidable _)

set_option maxRecDepth 100000 in
set_option maxHeartbeats 4000000 in
theorem pleast_run (P : Nat → Prop) (v : Value) (z : List Int) (w : World) (hz : z.length ≤ 1000000) (hN : NodesAt P w v z) :
    Calls Tryd.prog 28 #[v] w fun e w' => ∃ v' l, e = .returned v' ∧ w'.ownsRow w.heap.size 3 1 v' l.length ((zs l).map (Value.int .i64)) ∧ IsLeast (pz z) l ∧ Below w.heap.size w w' := by
  obtain ⟨i0, hin, hz0, hz1, hz2⟩ := info_parts infoInt
  obtain ⟨A, c, rfl, hN2⟩ := hN
  have HZ := run_storeCells_new (P := Tryd.prog) w 62 Tryd.zeroCells62 Tryd.zeroCells62 zc_info rfl zc_one
  have hT0 := ThereAt.zero w
  have hb0 := balloc (bref w) (.cells Tryd.zeroCells62 62)
  have H := Lib.hid hN2
  have HT0 := Lib.hid hT0
  have HB0 := Lib.hid hb0
  clear hN2 hT0 hb0
  go_enter Tryd.func28, Tryd.ntmps28
  go_wp2_with fail
  clear HZ
  generalize hg : w.heap.size = g at *
  have HG := Lib.hid hg
  clear hg
  generalize w.alloc (.cells Tryd.zeroCells62 62) = W1 at *
  go_loopw [12] (fun t W => ∃ k : Nat, k ≤ z.length ∧ t = .int .i64 k ∧ Hid (ThereAt W g (pz (z.take k))) ∧ Hid (Below g w W)) (fun t _ => z.length - (intOf t).toNat)
  case atStart => exact ⟨0, by omega, rfl, Lib.hid (HT0.out.congr (fun t ht => by unfold pz; simp)), HB0⟩
  case round =>
    clear HT0 HB0
    obtain ⟨k, hk, rfl, hT, hB⟩ := hrel
    by_cases hlt : k < z.length
    · obtain ⟨b, off, rfl, _, hcc⟩ := H.out k hlt
      have hx0 : z[k]? = some (z.getD k 0) := by rw [List.getD_eq_getElem?_getD, List.getElem?_eq_getElem hlt]; rfl
      have HTK := Lib.hid (show z.take (k + 1) = z.take k ++ [z.getD k 0] by rw [List.take_add_one, hx0]; rfl)
      clear hx0
      generalize z.getD k 0 = x at *
      have hbl : b < w.heap.size := cell_lt hcc
      rw [HG.out] at hbl
      have hc2 := (World.cell?_of_block (a := ⟨b, off + k, none⟩) (hB.out.block b hbl)).trans hcc
      clear hcc
      rcases (show setB x = false ∨ setB x = true by cases setB x <;> simp) with hq | hq
      · have HQ := Lib.hid hq
        have HT2 := Lib.hid (hT.out.congr (q := pz (z.take (k + 1))) (fun t ht => by
          unfold pz
          rw [HTK.out]
          have : ¬ (t : Int) = x := fun e => by
            have h2 : setB x = true := setB_iff.2 ⟨by omega, by omega⟩
            rw [hq] at h2; cases h2
          simp [this]))
        clear hq
        go_wp2_with fail
        refine (setValid_run _ _).mono ?_
        rintro e w2 ⟨rfl, rfl⟩
        rw [HQ.out]
        go_wp2_with fail
        go_roundw
        case rel => exact ⟨k + 1, by omega, by go_num, HT2, hB⟩
        case measure => simp [intOf]; omega
      · have HQ := Lib.hid hq
        obtain ⟨x0, x1⟩ := setB_iff.1 hq
        obtain ⟨s, rfl⟩ := Int.eq_ofNat_of_zero_le x0
        have hs : s < 1024 := by omega
        have HT2 := Lib.hid ((hT.out.set s hs).congr (q := pz (z.take (k + 1))) (fun t ht => by
          unfold pz
          rw [HTK.out, Bool.eq_iff_iff]
          simp only [Bool.and_eq_true, decide_eq_true_iff, Bool.or_eq_true, beq_iff_eq, List.mem_append, List.mem_singleton, Int.natCast_inj]
          by_cases e : t = s <;> simp [e, hs, ht]))
        have hcw := hT.out.cell s hs
        have hcf := hT.out.fr s
        have hsz := hT.out.lt
        have HB2 := Lib.hid (hB.out.setCell (p := ⟨g, s, none⟩) (Nat.le_refl g) (.bool true))
        clear hq
        go_wp2_with fail
        refine (setValid_run _ _).mono ?_
        rintro e w2 ⟨rfl, rfl⟩
        rw [HQ.out]
        go_wp2_with fail
        go_roundw
        case rel => exact ⟨k + 1, by omega, by go_num, HT2, HB2⟩
        case measure => simp [intOf]; omega
    · obtain rfl : k = z.length := by omega
      rw [List.take_length] at hT
      have HQ := Lib.hid (leB_iff (pz z))
      have HPL := Lib.hid (show ∀ t, pz z t = true → t < 1024 from fun t h => pz_lt h)
      generalize leB (pz z) = q at *
      have HE := Lib.hid (fun L hL => least_end (p := pz z) HPL.out (L := L) hL q HQ.out)
      have HST := Lib.hid (fun L hL k s hk => least_step (p := pz z) (n := 10) HPL.out (L := L) hL q HQ.out (k := k) (s := s) hk)
      clear H
      go_wp2_with fail
      refine (findL_run g 10 (by omega) (pz z) _ hT.out).mono ?_
      rintro e W2 ⟨vF, L, rfl, hownF, hF, hbF⟩
      have hNF := NodesAt.of_ownZ hownF
      obtain ⟨A2, c2, hvF⟩ := own_slice hownF
      subst hvF
      have hFlen := hF.2.2
      have HL := Lib.hid (fun k s hk => HST.out L hF k s hk)
      have HE2 := Lib.hid (HE.out L hF)
      have HLT := Lib.hid (fun t (ht : t ∈ L) => ((hF.2.1 t).1 ht).1)
      have hbs1 := hB.out.size
      have hgB : g ≤ wr.heap.size := by have := hB.out.size; rw [HG.out] at this; exact this
      have HB2 := Lib.hid (hB.out.trans (hbF.mono hgB))
      clear hB hF hbF hownF HE HST hT HPL HQ
      generalize hg2 : W2.heap.size = g2 at *
      have HNF := Lib.hid (hNF.both (Q := fun b => b < g2) (fun _ _ _ => rfl) (fun k hk _ => by rw [← hg2]; exact hk))
      have HG2 := Lib.hid hg2
      have hgg : g ≤ g2 := by have := HB2.out.size; rw [HG.out, hg2] at this; exact this
      clear hNF hg2
      go_wp2_with fail
      go_loopw [6, 24] (fun v t W => ∃ (k : Nat) (l : List Nat) (vv : Value), k ≤ L.length ∧ v = vv ∧ t = .int .i64 k ∧ W.ownsRow g2 3 1 vv l.length ((zs l).map (Value.int .i64)) ∧ Hid (l = (L.take k).filter q) ∧ Hid (Below g2 W2 W)) (fun _ t _ => L.length - (intOf t).toNat)
      case atStart => exact ⟨0, [], .slice none 0 0, by omega, rfl, rfl, World.ownsRow_nil _ _ _ _, Lib.hid rfl, Lib.hid (by rw [← HG2.out]; exact bref _)⟩
      case round =>
        obtain ⟨k, l, v, hk, hv, rfl, hown, hl, hB⟩ := hrel
        replace hv := hv.symm
        subst hv
        have hlen : l.length ≤ 1024 := by
          rw [hl.out]
          refine Nat.le_trans (List.length_filter_le _ _) ?_
          simp; omega
        have HOWN := Lib.hid hown
        by_cases hlt : k < L.length
        · obtain ⟨A', c', hv', hN3⟩ := HNF.out
          rw [zs_len] at hv'
          cases hv'
          obtain ⟨b, off, rfl, hPb, hcc⟩ := hN3 k (by rw [zs_len]; exact hlt)
          have hx0 : L[k]? = some (L.getD k 0) := by rw [List.getD_eq_getElem?_getD, List.getElem?_eq_getElem hlt]; rfl
          have HTK := Lib.hid (show L.take (k + 1) = L.take k ++ [L.getD k 0] by rw [List.take_add_one, hx0]; rfl)
          have HLS := Lib.hid (show l.any (fun t => subB t (L.getD k 0)) = !q (L.getD k 0) by rw [hl.out]; exact HL.out k _ hx0)
          have hs := HLT.out _ (List.mem_of_getElem? hx0)
          rw [zs_get] at hcc
          clear hx0 hN3
          generalize L.getD k 0 = x at *
          have hc2 := (World.cell?_of_block (a := ⟨b, off + k, none⟩) (hB.out.block b hPb)).trans hcc
          clear hcc hPb
          have HLM := Lib.hid (show ∀ t ∈ l, t < 1024 from fun t ht => by
            rw [hl.out] at ht
            exact HLT.out t (List.mem_of_mem_take (List.mem_filter.1 ht).1))
          have hbs : g2 ≤ wr.heap.size := by have := hB.out.size; rw [HG2.out] at this; exact this
          have hzl := zs_len l
          have hba := balloc (bref wr) (.cells #[.int .i64 (x : Int)] 3)
          have HBA := Lib.hid (hB.out.alloc hbs (.cells #[.int .i64 (x : Int)] 3))
          have HCX := Lib.hid (cell_of_row _ _ 0 _ _ (0, 0) (heap_alloc_new wr (.cells #[.int .i64 (x : Int)] 3)))
          have HOA := Lib.hid (hown.alloc (.cells #[.int .i64 (x : Int)] 3))
          clear hba hown
          go_wp2_with fail
          refine (containsL2_run (fun b => g2 ≤ b) v l wr.heap.size x _ (NodesAt.of_ownZ HOA.out) HLM.out (by omega) hs HCX.out).mono ?_
          rintro e w2 ⟨rfl, rfl⟩
          rw [HLS.out]
          rcases (show q x = false ∨ q x = true by cases q x <;> simp) with hq | hq
          · have HL2 := Lib.hid (show l = (L.take (k + 1)).filter q by rw [HTK.out, List.filter_append, ← hl.out]; simp [hq])
            have HQ := Lib.hid hq
            clear hq
            rw [HQ.out]
            go_wp2_with fail
            go_roundw
            case rel => exact ⟨k + 1, l, _, by omega, rfl, by go_num, HOA.out, HL2, HBA⟩
            case measure => simp [intOf]; omega
          · have HL2 := Lib.hid (show l ++ [x] = (L.take (k + 1)).filter q by rw [HTK.out, List.filter_append, ← hl.out]; simp [hq])
            have HQ := Lib.hid hq
            clear hq
            rw [HQ.out]
            generalize hW3 : wr.alloc (.cells #[.int .i64 (x : Int)] 3) = W3 at *
            have hsz3 : wr.heap.size ≤ W3.heap.size := by rw [← hW3]; simp
            clear hW3
            have hown := HOA.out
            have hcx := HCX.out
            go_wp2_with (at_builtin; refine wpList_append_own _ rfl _ _ 28 rfl g2 3 i0 (.int .i64 0) 1 8 Tryd.underlying28 hin hz0 hz1 hz2 rfl (by decide) _ _ _ rfl (hown.alloc _) ⟨W3.heap.size, 0, none⟩ 1 1 [.int .i64 (x : Int)] rfl rfl (cell_one_new _ _ _) (fun u hu => by simp at hu; subst hu; rfl) (by unfold maxLen; omega) (by omega) (by simp; omega) ?_; intro v' w1 hown' hgrow hnil)
            have HO := Lib.hid (own_snocZ hown')
            have HB4 := Lib.hid (Below.grown (HBA.out.alloc (by omega) (.cells #[.int .i64 (x : Int)] 3)) hgrow (by simp; omega) (fun j hj => (hown.lt j hj).1))
            clear hown' hgrow hnil hown hcx
            go_roundw
            case rel => exact ⟨k + 1, l ++ [x], _, by omega, rfl, by go_num, HO.out, HL2, HB4⟩
            case measure => simp [intOf]; omega
        · obtain rfl : k = L.length := by omega
          have HR := Lib.hid (show wr.ownsRow g 3 1 v l.length ((zs l).map (Value.int .i64)) ∧ IsLeast (pz z) l ∧ Below g w wr from by
            refine ⟨?_, ?_, ?_⟩
            · obtain ⟨h1, h2⟩ := hown
              refine ⟨h1, ?_⟩
              rcases h2 with h2 | ⟨gg, cap, cur, e1, e2, e3⟩
              · exact .inl h2
              · exact .inr ⟨gg, cap, cur, e1, Nat.le_trans hgg e2, e3⟩
            · have := HE2.out
              rw [hl.out, List.take_length]; exact this
            · exact HB2.out.trans (hB.out.mono hgg))
          obtain ⟨Ar, cr, hvr⟩ := own_slice hown
          subst hvr
          clear hown HOWN
          go_wp2_with fail
          go_ret
          exact ⟨_, l, rfl, by rw [HG.out]; exact HR.out⟩

end Go.Proofs.YtfchdkgdbdnoiaaDoor
