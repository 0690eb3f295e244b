/- The contract of nodeset.Subsets, and what the law asks of its list. -/
import Derived.Test.YtbbdmaakphoofaaDoorFindG
import Derived.Test.YtbbdmaakphoofaaDoorNLeast
import Derived.Test.YtbbdmaakphoofaaDoorRCmp
import Derived.Test.YtbbdmaakphoofaaDoorShelf
namespace Go.Proofs.YtbbdmaakphoofaaDoor
set_option linter.unusedVariables false
set_option linter.unusedSimpArgs false
open Go.RowKit

set_option maxRecDepth 100000 in
theorem bl_fact (s : Nat) (hs : s < 1024) : s < 2 ^ Lib.bitLen s ∧ Lib.bitLen s ≤ 10 := by
  have all : ∀ s : Fin 1024, s.val < 2 ^ Lib.bitLen s.val ∧ Lib.bitLen s.val ≤ 10 := by decide +kernel
  exact all ⟨s, hs⟩
theorem sub_bits {t s : Nat} : subB t s = true ↔ ∀ k, t.testBit k = true → s.testBit k = true := by
  constructor
  · exact fun h k hk => subB_bit h hk
  · intro h
    rw [subB_iff]
    apply Nat.eq_of_testBit_eq
    intro k
    rw [Nat.testBit_and]
    cases hk : t.testBit k
    · rfl
    · rw [h k hk]; rfl
theorem sub_add {n t s : Nat} (ht : t < 2 ^ n) : subB (2 ^ n + t) s = (s.testBit n && subB t s) := by
  have e : ∀ k, (2 ^ n + t).testBit k = (decide (n = k) || t.testBit k) := fun k => by
    have h1 := Nat.two_pow_add_eq_or_of_lt ht 1
    rw [Nat.mul_one] at h1
    rw [h1, Nat.testBit_or, Nat.testBit_two_pow]
  have htn : t.testBit n = false := Nat.testBit_lt_two_pow ht
  rw [Bool.eq_iff_iff, Bool.and_eq_true, sub_bits, sub_bits]
  constructor
  · intro h
    exact ⟨h n (by rw [e]; simp), fun k hk => h k (by rw [e, hk]; simp)⟩
  · rintro ⟨h1, h2⟩ k hk
    rw [e, Bool.or_eq_true, decide_eq_true_iff] at hk
    rcases hk with rfl | hk
    · exact h1
    · exact h2 k hk
theorem sub_cnt (s : Nat) : ∀ n, (List.range (2 ^ n)).countP (fun t => subB t s) = 2 ^ popk s n
  | 0 => by
    have : subB 0 s = true := by unfold subB; simp
    simp [List.range_succ, this, popk]
  | n + 1 => by
    have e : 2 ^ (n + 1) = 2 ^ n + 2 ^ n := by omega
    have ih := sub_cnt s n
    rw [e, List.range_add, List.countP_append, List.countP_map, ih]
    have hb : popk s (n + 1) = popk s n + (if s.testBit n then 1 else 0) := by
      unfold popk
      rw [List.range_succ, List.countP_append, List.countP_singleton]
    cases hs : s.testBit n
    · have h0 : (List.range (2 ^ n)).countP ((fun t => subB t s) ∘ fun x => 2 ^ n + x) = 0 := by
        rw [List.countP_eq_zero]
        intro t ht
        have := sub_add (s := s) (List.mem_range.1 ht)
        simp [this, hs]
      rw [h0, hb, hs]; simp
    · have h0 : (List.range (2 ^ n)).countP ((fun t => subB t s) ∘ fun x => 2 ^ n + x) = (List.range (2 ^ n)).countP (fun t => subB t s) := by
        apply List.countP_congr
        intro t ht
        have := sub_add (s := s) (List.mem_range.1 ht)
        simp [this, hs]
      rw [h0, hb, hs, ih]
      simp [Nat.pow_succ]; omega

/-- What the law asks of the list of subsets. -/
theorem subs_law {s n : Nat} {l : List Nat} (hs : s < 1024) (hn : n ≤ 10) (hsn : s < 2 ^ n) (h : IsFound n (fun t => subB t s) l) :
    l.length = 2 ^ popc s ∧ l[0]? = some 0 ∧ l[l.length - 1]? = some s ∧ (∀ x ∈ l, x < 1024 ∧ x &&& s = x) ∧ (∀ i x y : Nat, l[i]? = some x → l[i + 1]? = some y → cmpR x y = -1) := by
  have h10 : 2 ^ n ≤ 2 ^ 10 := Nat.pow_le_pow_right (by omega) hn
  have hlt : ∀ x ∈ l, x < 1024 ∧ subB x s = true := fun x hx => by
    have h1 := (h.2.1 x).1 hx
    exact ⟨by omega, h1.2⟩
  have hp := List.pairwise_iff_getElem.1 h.1
  have hlen : l.length = 2 ^ popc s := by
    have hperm : l.Perm ((List.range (2 ^ 10)).filter (fun t => subB t s)) := by
      rw [List.perm_ext_iff_of_nodup (asc_nodup h.1) (List.nodup_iff_pairwise_ne.2 ((List.nodup_iff_pairwise_ne.1 List.nodup_range).filter _))]
      intro t
      rw [h.2.1 t, List.mem_filter, List.mem_range]
      constructor
      · rintro ⟨h1, h2⟩; exact ⟨by omega, h2⟩
      · rintro ⟨h1, h2⟩; exact ⟨Nat.lt_of_le_of_lt (subB_le h2) hsn, h2⟩
    rw [hperm.length_eq, ← List.countP_eq_length_filter, sub_cnt]
    rfl
  have h0 : 0 < l.length := by rw [hlen]; exact Nat.one_le_two_pow
  refine ⟨hlen, ?_, ?_, fun x hx => ⟨(hlt x hx).1, subB_iff.1 (hlt x hx).2⟩, fun i x y hx hy => ?_⟩
  · have hm : 0 ∈ l := (h.2.1 0).2 ⟨Nat.one_le_two_pow, by unfold subB; simp⟩
    obtain ⟨i, hi, e⟩ := List.mem_iff_getElem.1 hm
    rcases Nat.eq_zero_or_pos i with rfl | hpos
    · rw [List.getElem?_eq_getElem hi, e]
    · have h1 := hp 0 i h0 hi hpos
      rw [e] at h1
      have : keyC 0 = 0 := by decide +kernel
      omega
  · have hm : s ∈ l := (h.2.1 s).2 ⟨hsn, subB_refl s⟩
    obtain ⟨i, hi, e⟩ := List.mem_iff_getElem.1 hm
    have hl1 : l.length - 1 < l.length := by omega
    rcases Nat.lt_or_ge i (l.length - 1) with h1 | h1
    · have h2 := hp i (l.length - 1) hi hl1 h1
      rw [e] at h2
      have h3 := (hlt _ (List.getElem_mem hl1)).2
      by_cases hne : l[l.length - 1] = s
      · rw [hne] at h2; omega
      · have := subB_key h3 hne; omega
    · obtain rfl : i = l.length - 1 := by omega
      rw [List.getElem?_eq_getElem hi, e]
  · obtain ⟨hi, e1⟩ := List.getElem?_eq_some_iff.1 hx
    obtain ⟨hj, e2⟩ := List.getElem?_eq_some_iff.1 hy
    have h1 := hp i (i + 1) hi hj (by omega)
    rw [e1, e2] at h1
    unfold cmpR
    rw [if_pos h1]

theorem sub1_run (sb s t : Nat) (ht : t < 1024) (hs : s < 1024) (w : World) (h : w.cell? ⟨sb, 0, none⟩ = some (.int .i64 (s : Int))) :
    Calls Tryd.prog 53 #[.int .i64 (t : Int), .pointer (some ⟨sb, 0, none⟩)] w fun e w' => e = .returned (.bool (subB t s)) ∧ Below w.heap.size w w' := by
  have HA := Lib.hid (andnot_sub t s ht hs)
  go_enter Tryd.func53, Tryd.ntmps53
  go_wp2_with fail
  go_ret
  exact ⟨by rw [← HA.out]; rfl, bref _⟩
theorem enters_s1 : ∀ args w, (callFunc 53 args).run Tryd.prog w = .ok (.enter 53 args) w := enters_of Tryd.func53 (by kernel_rfl) rfl

theorem own_low {W : World} {B B' : Nat} {v : Value} {n : Nat} {vs : List Value} (h : W.ownsRow B 3 1 v n vs) (hB : B' ≤ B) : W.ownsRow B' 3 1 v n vs := by
  refine ⟨h.1, ?_⟩
  rcases h.2 with h2 | ⟨gg, cap, cur, e1, e2, e3, e4⟩
  · exact .inl h2
  · exact .inr ⟨gg, cap, cur, e1, Nat.le_trans hB e2, e3, e4⟩
set_option maxRecDepth 100000 in
set_option maxHeartbeats 4000000 in
theorem psubs_run (s : Nat) (hs : s < 1024) (w : World) :
    Calls Tryd.prog 22 #[.int .i64 (s : Int)] w fun e w' => ∃ v l n, e = .returned v ∧ w'.ownsRow w.heap.size 3 1 v l.length ((zs l).map (Value.int .i64)) ∧ n ≤ 10 ∧ s < 2 ^ n ∧ IsFound n (fun t => subB t s) l ∧ Below w.heap.size w w' := by
  have hsv := Lib.hid (show setB (s : Int) = true from setB_iff.2 ⟨by omega, by omega⟩)
  have hb := balloc (bref w) (.cells #[.int .i64 (s : Int)] 3)
  have k1 : (w.alloc (.cells #[.int .i64 (s : Int)] 3)).cell? ⟨w.heap.size, 0, none⟩ = some (.int .i64 (s : Int)) := cell_of_row _ _ 0 _ _ (0, 0) (heap_alloc_new _ _)
  have hz : (w.alloc (.cells #[.int .i64 (s : Int)] 3)).heap.size = w.heap.size + 1 := by simp
  have HBL := Lib.hid (bl_fact s hs)
  have HFG := Lib.hid (fun n hn p W hcl => findG_run 53 w.heap.size n hn p W enters_s1 hcl)
  have HS1 := Lib.hid (fun t ht W h => sub1_run w.heap.size s t ht hs W h)
  go_enter Tryd.func22, Tryd.ntmps22
  go_upto_region 1 with fail
  generalize w.alloc (.cells #[.int .i64 (s : Int)] 3) = W1 at *
  generalize hg : w.heap.size = g at *
  have HG := Lib.hid hg
  clear hg
  go_wp2_with fail
  refine (setValid_run _ _).mono ?_
  rintro e w2 ⟨rfl, rfl⟩
  rw [hsv.out]
  have hw : IntKind.u64.wrap (s : Int) = (s : Int) := by rw [IntKind.wrap_u64]; omega
  go_wp2_with fail
  refine (Tryd.bits_Len _ _ (by omega) (by omega)).mono ?_
  rintro e w3 ⟨rfl, rfl⟩
  rw [show ((s : Int)).toNat = s from rfl]
  obtain ⟨hb1, hb2⟩ := HBL.out
  generalize Lib.bitLen s = n at *
  go_wp2_with fail
  refine (HFG.out n hb2 (fun t => subB t s) w3 (fun k hk W hB => HS1.out k (Nat.lt_of_lt_of_le hk (Nat.pow_le_pow_right (n := 2) (by omega) hb2)) W ((hB.cell (cell_lt k1)).trans k1))).mono ?_
  rintro e w4 ⟨v, l, rfl, ho, hf, hb4⟩
  have HO := Lib.hid (own_low (B' := g) ho (by omega))
  have HF := Lib.hid hf
  have HB := Lib.hid hb1
  have HB4 := Lib.hid (hb.trans (hb4.mono (show g ≤ w3.heap.size by omega)))
  clear ho hf hb1 hb4 k1 hb
  go_wp2_with fail
  go_ret
  rw [HG.out]
  exact ⟨v, l, n, rfl, HO.out, hb2, HB.out, HF.out, HB4.out⟩
end Go.Proofs.YtbbdmaakphoofaaDoor
