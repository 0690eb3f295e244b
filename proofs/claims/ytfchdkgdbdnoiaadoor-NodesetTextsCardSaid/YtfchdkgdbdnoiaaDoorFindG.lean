/- The contract of nodeset.find, for whatever closure that captures one variable. -/
import Derived.Test.YtfchdkgdbdnoiaaDoorFind
namespace Go.Proofs.YtfchdkgdbdnoiaaDoor
set_option linter.unusedVariables false
set_option linter.unusedSimpArgs false
open Go.RowKit

/-- The sets below 2^n of which p holds, in order. -/
def IsFound (n : Nat) (p : Nat → Bool) (l : List Nat) : Prop := Asc l ∧ (∀ t, t ∈ l ↔ (t < 2 ^ n ∧ p t = true)) ∧ l.length ≤ 1024

set_option maxRecDepth 100000 in
set_option maxHeartbeats 4000000 in
theorem findG_run (G tb n : Nat) (hn : n ≤ 10) (p : Nat → Bool) (w : World) (eg : ∀ args w, (callFunc G args).run Tryd.prog w = .ok (.enter G args) w)
    (hcl : ∀ k : Nat, k < 2 ^ n → ∀ W, Below w.heap.size w W → Calls Tryd.prog G #[.int .i64 (k : Int), .pointer (some ⟨tb, 0, none⟩)] W fun e w' => e = .returned (.bool (p k)) ∧ Below W.heap.size W w') :
    Calls Tryd.prog 25 #[.int .i64 (n : Int), .func (.func G) #[] #[.pointer (some ⟨tb, 0, none⟩)]] w fun e w' => ∃ v l, e = .returned v ∧ w'.ownsRow w.heap.size 3 1 v l.length ((zs l).map (Value.int .i64)) ∧ IsFound n p l ∧ Below w.heap.size w w' := by
  obtain ⟨i0, hin, hz0, hz1, hz2⟩ := info_parts infoInt
  have hp := pow11 n (by omega)
  have h10 : 2 ^ n ≤ 2 ^ 10 := Nat.pow_le_pow_right (by omega) hn
  have HF := Lib.hid (show ∀ l, IsFound n p l ↔ (Asc l ∧ (∀ t, t ∈ l ↔ (t < 2 ^ n ∧ p t = true)) ∧ l.length ≤ 1024) from fun _ => Iff.rfl)
  have hn0 : (0 : Int) ≤ (n : Int) := by omega
  have hn64 : ¬ (64 : Int) ≤ (n : Int) := by omega
  obtain ⟨N, hN⟩ : ∃ N, 2 ^ n = N := ⟨_, rfl⟩
  rw [hN] at hp h10 HF hcl
  clear hN
  have HCL := Lib.hid hcl
  clear hcl
  go_enter Tryd.func25, Tryd.ntmps25
  go_wp2_with fail
  go_loopw [5, 9] (fun v t W => ∃ (k : Nat) (l : List Nat) (vv : Value), k ≤ N ∧ v = vv ∧ t = .int .i64 k ∧ W.ownsRow w.heap.size 3 1 vv l.length ((zs l).map (Value.int .i64)) ∧ Hid (l = (List.range k).filter p) ∧ Hid (Below w.heap.size w W)) (fun _ t _ => N - (intOf t).toNat)
  case atStart => exact ⟨0, [], .slice none 0 0, by omega, rfl, rfl, World.ownsRow_nil _ _ _ _, Lib.hid rfl, Lib.hid (bref _)⟩
  case round =>
    obtain ⟨k, l, v, hk, hv, rfl, hown, hL, hB⟩ := hrel
    replace hv := hv.symm
    subst hv
    have hlen : l.length ≤ k := by rw [hL.out]; exact Nat.le_trans (List.length_filter_le _ _) (by simp)
    have HOWN := Lib.hid hown
    by_cases hlt : k < N
    · have hownk := hown
      clear hown
      go_wp2_with fail
      refine (HCL.out k hlt _ hB.out).mono ?_
      rintro e W5 ⟨rfl, hb5⟩
      have HB5 := Lib.hid (bstep hB.out hb5)
      have HO5 := Lib.hid (show W5.ownsRow w.heap.size 3 1 v l.length ((zs l).map (Value.int .i64)) from by
        refine ⟨hownk.1, ?_⟩
        rcases hownk.2 with h2 | ⟨gg, cap, cur, e1, e2, e3, e4⟩
        · exact .inl h2
        · exact .inr ⟨gg, cap, cur, e1, e2, (hb5.block gg (Array.getElem?_eq_some_iff.1 e3).1).trans e3, e4⟩)
      have hs5 := hb5.size
      have hs0 := hB.out.size
      clear hb5 hownk
      rcases (show p k = false ∨ p k = true by cases p k <;> simp) with hpk | hpk
      · have HL2 := Lib.hid (show l = (List.range (k + 1)).filter p by rw [List.range_succ, List.filter_append, ← hL.out]; simp [hpk])
        have HP := Lib.hid hpk
        clear hpk
        rw [HP.out]
        go_wp2_with fail
        go_roundw
        case rel => exact ⟨k + 1, l, _, by omega, rfl, by go_num, HO5.out, HL2, HB5⟩
        case measure => simp [intOf]; omega
      · have HL2 := Lib.hid (show l ++ [k] = (List.range (k + 1)).filter p by rw [List.range_succ, List.filter_append, ← hL.out]; simp [hpk])
        have HP := Lib.hid hpk
        have hzl := zs_len l
        have hown := HO5.out
        clear hpk
        rw [HP.out]
        go_wp2_with (at_builtin; refine wpList_append_own _ rfl _ _ 28 rfl w.heap.size 3 i0 (.int .i64 0) 1 8 Tryd.underlying28 hin hz0 hz1 hz2 rfl (by decide) _ _ _ rfl (hown.alloc _) ⟨W5.heap.size, 0, none⟩ 1 1 [.int .i64 (k : Int)] rfl rfl (cell_one_new _ _ _) (fun u hu => by simp at hu; subst hu; rfl) (by unfold maxLen; omega) (by omega) (by simp; omega) ?_; intro v' w1 hown' hgrow hnil)
        have HO := Lib.hid (own_snocZ hown')
        have HB4 := Lib.hid (Below.grown (balloc HB5.out (.cells #[.int .i64 (k : Int)] 3)) hgrow (by simp; omega) (fun j hj => (hown.lt j hj).1))
        clear hown' hgrow hnil hown
        go_roundw
        case rel => exact ⟨k + 1, l ++ [k], _, by omega, rfl, by go_num, HO.out, HL2, HB4⟩
        case measure => simp [intOf]; omega
    · obtain rfl : k = N := by omega
      have hmem : ∀ t ∈ l, t < 1024 := fun t ht => by
        rw [hL.out] at ht
        have := List.mem_range.1 (List.mem_filter.1 ht).1
        omega
      have hnd : l.Nodup := by rw [hL.out]; exact List.nodup_iff_pairwise_ne.2 ((List.nodup_iff_pairwise_ne.1 List.nodup_range).filter _)
      have HS := Lib.hid (fun W => sortN_run l hmem hnd v w.heap.size W (by omega))
      have HLT := Lib.hid (fun j hj => (hown.lt j hj).1)
      obtain ⟨A, c, hv⟩ := own_slice hown
      clear hown hmem hnd
      subst hv
      go_wp2_with fail
      refine (HS.out _ HOWN.out).mono ?_
      rintro e w2 ⟨rfl, m, hpm, hasc, hml, hown2, hg2⟩
      have HR := Lib.hid (show w2.ownsRow w.heap.size 3 1 (.slice A l.length c) m.length ((zs m).map (Value.int .i64)) ∧ IsFound n p m ∧ Below w.heap.size w w2 from
        ⟨by rw [hml]; exact hown2, (HF.out m).2 ⟨hasc, fun t => by rw [hpm.mem_iff, hL.out, List.mem_filter, List.mem_range], by omega⟩, Below.grown hB.out hg2 hB.out.size (fun j hj => HLT.out j hj)⟩)
      clear hown2 hg2 hpm hasc hml
      go_wp2_with fail
      go_ret
      exact ⟨_, m, rfl, HR.out⟩

end Go.Proofs.YtfchdkgdbdnoiaaDoor
