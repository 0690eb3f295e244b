/- nodeset.find as Least calls it, and slices.ContainsFunc over the sets found so far. -/
import Derived.Test.YtbbdmaakphoofaaFind
namespace Go.Proofs.Ytbbdmaakphoofaa
set_option linter.unusedVariables false
set_option linter.unusedSimpArgs false
open Go.RowKit

/-- The sets below 2^n of which p holds, in order. -/
def IsFind (n : Nat) (p : Nat → Bool) (l : List Nat) : Prop := Asc l ∧ (∀ t, t ∈ l ↔ (t < 2 ^ n ∧ p t = true)) ∧ l.length ≤ 1024

set_option maxRecDepth 100000 in
set_option maxHeartbeats 4000000 in
theorem findL_run (tb n : Nat) (hn : n ≤ 10) (p : Nat → Bool) (w : World) (hT : ThereAt w tb p) :
    Calls Try.prog 101 #[.int .i64 (n : Int), .func (.func 102) #[] #[.pointer (some ⟨tb, 0, none⟩)]] w fun e w' => ∃ v l, e = .returned v ∧ w'.ownsRow w.heap.size 3 1 v l.length ((zs l).map (Value.int .i64)) ∧ IsFind n p l ∧ Below w.heap.size w w' := by
  obtain ⟨i0, hin, hz0, hz1, hz2⟩ := info_parts infoInt
  have hp := pow11 n (by omega)
  have h10 : 2 ^ n ≤ 2 ^ 10 := Nat.pow_le_pow_right (by omega) hn
  have HF := Lib.hid (show ∀ l, IsFind n p l ↔ (Asc l ∧ (∀ t, t ∈ l ↔ (t < 2 ^ n ∧ p t = true)) ∧ l.length ≤ 1024) from fun _ => Iff.rfl)
  have hn0 : (0 : Int) ≤ (n : Int) := by omega
  have hn64 : ¬ (64 : Int) ≤ (n : Int) := by omega
  obtain ⟨N, hN⟩ : ∃ N, 2 ^ n = N := ⟨_, rfl⟩
  rw [hN] at hp h10
  rw [hN] at HF
  clear hN
  have HT := Lib.hid hT
  have htb := hT.lt
  clear hT
  go_enter Try.func101, Try.ntmps101
  go_wp2_with fail
  go_loopw [5, 9] (fun v t W => ∃ (k : Nat) (l : List Nat) (vv : Value), k ≤ N ∧ v = vv ∧ t = .int .i64 k ∧ W.ownsRow w.heap.size 3 1 vv l.length ((zs l).map (Value.int .i64)) ∧ Hid (l = (List.range k).filter p) ∧ Hid (Below w.heap.size w W)) (fun _ t _ => N - (intOf t).toNat)
  case atStart => exact ⟨0, [], .slice none 0 0, by omega, rfl, rfl, World.ownsRow_nil _ _ _ _, Lib.hid rfl, Lib.hid (bref _)⟩
  case round =>
    obtain ⟨k, l, v, hk, hv, rfl, hown, hL, hB⟩ := hrel
    replace hv := hv.symm
    subst hv
    have hlen : l.length ≤ k := by rw [hL.out]; exact Nat.le_trans (List.length_filter_le _ _) (by simp)
    have HOWN := Lib.hid hown
    by_cases hlt : k < N
    · have HTk := Lib.hid (HT.out.keep (hB.out.block tb htb))
      rcases (show p k = false ∨ p k = true by cases p k <;> simp) with hpk | hpk
      · have HL2 := Lib.hid (show l = (List.range (k + 1)).filter p by rw [List.range_succ, List.filter_append, ← hL.out]; simp [hpk])
        have HP := Lib.hid hpk
        clear hown hpk
        go_wp2_with fail
        refine (least1_run tb p k (by omega) _ HTk.out).mono ?_
        rintro e w2 ⟨rfl, rfl⟩
        rw [HP.out]
        go_wp2_with fail
        go_roundw
        case rel => exact ⟨k + 1, l, _, by omega, rfl, by go_num, HOWN.out, HL2, hB⟩
        case measure => simp [intOf]; omega
      · have HL2 := Lib.hid (show l ++ [k] = (List.range (k + 1)).filter p by rw [List.range_succ, List.filter_append, ← hL.out]; simp [hpk])
        have HP := Lib.hid hpk
        have hbs := hB.out.size
        have hzl := zs_len l
        clear hpk
        go_wp2_with fail
        refine (least1_run tb p k (by omega) _ HTk.out).mono ?_
        rintro e w2 ⟨rfl, rfl⟩
        rw [HP.out]
        go_wp2_with (at_builtin; refine wpList_append_own _ rfl _ _ 22 rfl w.heap.size 3 i0 (.int .i64 0) 1 8 Try.underlying22 hin hz0 hz1 hz2 rfl (by decide) _ _ _ rfl (hown.alloc _) ⟨wr.heap.size, 0, none⟩ 1 1 [.int .i64 (k : Int)] rfl rfl (cell_one_new _ _ _) (fun u hu => by simp at hu; subst hu; rfl) (by unfold maxLen; omega) (by omega) (by simp; omega) ?_; intro v' w1 hown' hgrow hnil)
        have HO := Lib.hid (own_snocZ hown')
        have HB4 := Lib.hid (Below.grown (balloc hB.out (.cells #[.int .i64 (k : Int)] 3)) hgrow (by simp; omega) (fun j hj => (hown.lt j hj).1))
        clear hown' hgrow hnil hown
        go_roundw
        case rel => exact ⟨k + 1, l ++ [k], _, by omega, rfl, by go_num, HO.out, HL2, HB4⟩
        case measure => simp [intOf]; omega
    · obtain rfl : k = N := by omega
      have hmem : ∀ t ∈ l, t < 1024 := fun t ht => by
        rw [hL.out] at ht
        have := List.mem_range.1 (List.mem_filter.1 ht).1
        omega
      have hnd : l.Nodup := by rw [hL.out]; exact List.nodup_iff_pairwise_ne.2 ((List.nodup_iff_pairwise_ne.1 List.nodup_range).filter _)
      have HS := Lib.hid (fun W => sortN_run l hmem hnd v w.heap.size W (by omega))
      have HLT := Lib.hid (fun j hj => (hown.lt j hj).1)
      obtain ⟨A, c, hv⟩ := own_slice hown
      clear hown hmem hnd
      subst hv
      go_wp2_with fail
      refine (HS.out _ HOWN.out).mono ?_
      rintro e w2 ⟨rfl, m, hpm, hasc, hml, hown2, hg2⟩
      have HR := Lib.hid (show w2.ownsRow w.heap.size 3 1 (.slice A l.length c) m.length ((zs m).map (Value.int .i64)) ∧ IsFind n p m ∧ Below w.heap.size w w2 from
        ⟨by rw [hml]; exact hown2, (HF.out m).2 ⟨hasc, fun t => by rw [hpm.mem_iff, hL.out, List.mem_filter, List.mem_range], by omega⟩, Below.grown hB.out hg2 hB.out.size (fun j hj => HLT.out j hj)⟩)
      clear hown2 hg2 hpm hasc hml
      go_wp2_with fail
      go_ret
      exact ⟨_, m, rfl, HR.out⟩

set_option maxHeartbeats 1000000 in
theorem indexL2_run (P : Nat → Prop) (v : Value) (ls : List Nat) (sb s : Nat) (w : World) (hN : NodesAt P w v (zs ls)) (hl : ∀ t ∈ ls, t < 1024) (hlen : ls.length ≤ 100000) (hs : s < 1024) (hc : w.cell? ⟨sb, 0, none⟩ = some (.int .i64 (s : Int))) :
    Calls Try.prog 107 #[v, .func (.func 103) #[] #[.pointer (some ⟨sb, 0, none⟩)]] w fun e w' => (∃ i : Int, e = .returned (.int .i64 i) ∧ decide (0 ≤ i) = ls.any (fun t => subB t s)) ∧ w = w' := by
  obtain ⟨A, c, rfl, hN2⟩ := hN
  rw [zs_len] at hN2 ⊢
  have H := Lib.hid hN2
  have HL := Lib.hid hl
  clear hN2 hl
  go_enter Try.func107, Try.ntmps107
  go_wp2_with fail
  go_loop [8] (fun t => ∃ k : Nat, k ≤ ls.length ∧ t = .int .i64 k ∧ Hid ((ls.take k).any (fun t => subB t s) = false)) (fun t => ls.length - (intOf t).toNat)
  case atStart => exact ⟨0, by omega, rfl, Lib.hid rfl⟩
  case round =>
    obtain ⟨k, hk, rfl, hA⟩ := hrel
    by_cases hlt : k < ls.length
    · obtain ⟨b, off, rfl, hPb, hcc⟩ := H.out k hlt
      have hx0 : ls[k]? = some (ls.getD k 0) := by rw [List.getD_eq_getElem?_getD, List.getElem?_eq_getElem hlt]; rfl
      have hx1 := HL.out _ (List.mem_of_getElem? hx0)
      rw [zs_get] at hcc
      have HTK := Lib.hid (show ls.take (k + 1) = ls.take k ++ [ls.getD k 0] by rw [List.take_add_one, hx0]; rfl)
      have HM := Lib.hid (List.mem_of_getElem? hx0)
      clear hx0 hPb
      generalize ls.getD k 0 = x at *
      rcases (show subB x s = false ∨ subB x s = true by cases subB x s <;> simp) with hq | hq
      · have HQ := Lib.hid hq
        have HA2 := Lib.hid (show (ls.take (k + 1)).any (fun t => subB t s) = false by rw [HTK.out, List.any_append, hA.out]; simp [hq])
        clear hq
        go_wp2_with fail
        refine (least2_run sb s x hx1 hs _ hc).mono ?_
        rintro e w2 ⟨rfl, rfl⟩
        rw [HQ.out]
        go_wp2_with fail
        go_round
        case rel => exact ⟨k + 1, by omega, by go_num, HA2⟩
        case measure => simp [intOf]; omega
      · have HQ := Lib.hid hq
        have HA2 := Lib.hid (show ls.any (fun t => subB t s) = true from List.any_eq_true.2 ⟨x, HM.out, hq⟩)
        clear hq
        go_wp2_with fail
        refine (least2_run sb s x hx1 hs _ hc).mono ?_
        rintro e w2 ⟨rfl, rfl⟩
        rw [HQ.out]
        go_wp2_with fail
        go_ret
        exact ⟨⟨_, rfl, by rw [HA2.out]; exact decide_eq_true (by omega)⟩, rfl⟩
    · obtain rfl : k = ls.length := by omega
      have HA2 := Lib.hid (show ls.any (fun t => subB t s) = false by have := hA.out; rwa [List.take_length] at this)
      go_wp2_with fail
      go_ret
      exact ⟨⟨_, rfl, by rw [HA2.out]; rfl⟩, rfl⟩

set_option maxHeartbeats 1000000 in
theorem containsL2_run (P : Nat → Prop) (v : Value) (ls : List Nat) (sb s : Nat) (w : World) (hN : NodesAt P w v (zs ls)) (hl : ∀ t ∈ ls, t < 1024) (hlen : ls.length ≤ 100000) (hs : s < 1024) (hc : w.cell? ⟨sb, 0, none⟩ = some (.int .i64 (s : Int))) :
    Calls Try.prog 80 #[v, .func (.func 103) #[] #[.pointer (some ⟨sb, 0, none⟩)]] w fun e w' => e = .returned (.bool (ls.any (fun t => subB t s))) ∧ w = w' := by
  have hN0 := hN
  obtain ⟨A, c, rfl, _⟩ := hN0
  have HN := Lib.hid hN
  have HL := Lib.hid hl
  have HC := Lib.hid hc
  clear hN hl hc
  go_enter Try.func80, Try.ntmps80
  go_wp2_with fail
  refine (indexL2_run P _ ls sb s _ HN.out HL.out hlen hs HC.out).mono ?_
  rintro e w2 ⟨⟨i, rfl, hi⟩, rfl⟩
  have HI := Lib.hid hi
  clear hi
  go_wp2_with fail
  go_ret
  exact ⟨by rw [← HI.out]; rfl, rfl⟩
end Go.Proofs.Ytbbdmaakphoofaa
